import PyProof.Rows.All
import Wide.All
import OpenK.AllK
import Wide.FinOn
import HandS.ForMost
import HandS.ForExc
import HandS.Lambda
import HandS.HeadEnd
import KE.KSuper
import HandS.ExcInit
import HandS.Star
import HandS.IsInst
import HandS.Style
import HandS.Flow
import HandS.Deep
import HandS.TupAny
import HandS.CallSlots
import HandS.TryMany
import KE.GoesEnum
import HandS.Walk
import KE.KDictKeyed
import HandS.Exc
import KE.KExcIs
import HandS.ExcIs
import HandS.Defaults
import HandS.Wide
import HandS.TupMul
import HandS.Head0
import HandS.Head1
import HandS.Head2
import HandS.HeadHook1
import HandS.HeadHook2
import HandS.EndTab
import PySem.Challenge.RW_heirlines_k58_deals
set_option Elab.async false
set_option linter.all false
set_option maxRecDepth 100000
set_option maxHeartbeats 4000000
namespace Hk
open PySem PySem.Spec PyProof.Rows L2
/-! ### repr of data -/
def rShow (K : PySem.W.Frag) : List V → Hp → VK → Prop := fun xs H Q =>
  ∃ (x : V) (d : PyData), xs = [x] ∧ Dp K H x d ∧ d.showable = true ∧ d.canLay0 = true ∧ d.depth ≤ 60 ∧ d.shown.length ≤ sizeLine ∧ Q (.str d.shown) H
theorem call_show {X : Cx} (free : X.A.guards = some []) (room : X.A.units + 64 < cLine) : CallR X (.builtin "repr") (rShow X.K) := by
  intro pins st σ H zs ws Q I rel want
  obtain ⟨x, d, rfl, dp, sh, lay, deep, short, goal⟩ := want
  obtain ⟨v, rfl, rv⟩ := vals1 rel
  cases dp with
  | non =>
    cases (show v = Value.none from rv)
    exact PySem.P.repr_of_none ⟨.str _, H, I.tok _, ⟨_, rfl⟩, goal⟩
  | bl b =>
    cases (show v = Value.bool b from rv)
    refine PySem.P.repr_of_bool ⟨.str _, H, I.tok _, ⟨_, rfl⟩, ?_⟩
    simpa [PyData.shown] using goal
  | int i =>
    obtain ⟨t, rfl⟩ := (show ∃ t, v = Value.int i t from rv)
    refine PySem.P.repr_of_int (by simpa [PyData.showable] using sh) ⟨.str _, H, I.tok _, ⟨_, rfl⟩, ?_⟩
    simpa [PyData.shown] using goal
  | str y =>
    obtain ⟨t, rfl⟩ := (show ∃ t, v = Value.str y t from rv)
    refine PySem.P.repr_of_str ⟨.str _, H, I.tok _, ⟨_, rfl⟩, ?_⟩ (by simpa [PyData.shown] using short)
    simpa [PyData.shown] using goal
  | @lst a xs ds hs ha =>
    cases (show v = Value.ref a from rv)
    obtain ⟨as, rd⟩ := Dp.reads I _ _ _ (Dp.lst hs ha) (show RelV (.ref a) (.ref a) from rfl)
    exact repr_of_reads' rd sh (PyData.noDict_hsm (PyData.hasDict_of_canLay _ lay)) free (by omega) (fun b o e => e)
      (fun h' u tk grow => ⟨.str _, H, I.kept grow, ⟨_, rfl⟩, goal⟩) short
  | @tup a xs ds hs ha =>
    cases (show v = Value.ref a from rv)
    obtain ⟨as, rd⟩ := Dp.reads I _ _ _ (Dp.tup hs ha) (show RelV (.ref a) (.ref a) from rfl)
    exact repr_of_reads' rd sh (PyData.noDict_hsm (PyData.hasDict_of_canLay _ lay)) free (by omega) (fun b o e => e)
      (fun h' u tk grow => ⟨.str _, H, I.kept grow, ⟨_, rfl⟩, goal⟩) short
/-! ### promises of defs that are entered where no repr is under way -/
structure FnG (P : Program) (w : World) (K : PySem.W.Frag) (mg : Str → Option Value) (base : Heap) (CX : CXT) (k : Nat) (f : Addr) (fd : FuncData) (ps : List Str) (sp : Sp) : Prop where
  many : ∀ vs H Q E, sp vs H Q E → vs.length = ps.length
  goes : ∀ (A : Around) (outer : List Env) (st : Shared) (H : Hp) (given : Args) (us : List Value) (vs : List V) (Q : VK) (E : XK), Room k A → A.guards = some [] →
    Env0 P w K mg base A outer st H → BindsTo st fd given (ps.zip us) → Vals vs us → sp vs H Q E → codeAny (model P w) A (.call (.ref f) given) (CR CX outer P w H st Q E) st
theorem FnG.of {P : Program} {w : World} {K : PySem.W.Frag} {mg : Str → Option Value} {base : Heap} {CX : CXT} {k : Nat} {f : Addr} {fd : FuncData} {ps : List Str} {sp : Sp}
    (F : FnOk P w K mg base CX k f fd ps sp) : FnG P w K mg base CX k f fd ps sp :=
  ⟨F.len, fun A outer st H given us vs Q E hr _ => F.run A outer st H given us vs Q E hr⟩
theorem fnG_mk {P : Program} {w : World} {K : PySem.W.Frag} {mg : Str → Option Value} {base : Heap} {CX : CXT} {x qual : Str} {st : Stmt} {f : Addr} {fd : FuncData} {N ps : List Str} {k : Nat} {sp : Sp} (F : Fun K x qual st f fd) (S : FnScope N ps (defScope st))
    (many : ∀ vs H Q E, sp vs H Q E → vs.length = ps.length)
    (body : ∀ (cdv : Value) (A : Around) (outer : List Env) (s : Shared) (H : Hp) (vs : List V) (Q : VK) (E : XK), Room k (A.deeper (envOfC qual (defScope st) s.heap.objs.size f cdv)) → (A.deeper (envOfC qual (defScope st) s.heap.objs.size f cdv)).guards = some [] → sp vs H Q E →
      ∃ t, PSs (cxOf CX P w K mg base N qual (defScope st) f cdv A outer s H E) (defBody st) t ∧ t { nx := fun _ H' => Q .non H', rt := Q } (start N vs) H) : FnG P w K mg base CX (k + 1) f fd ps sp := by
  obtain ⟨oc, od, kV, doc, pm, an, cdv, ct, osl, rfl, lk, hcd⟩ := F.ex
  refine ⟨many, fun A outer s H given us vs Q E hr free e0 hb rel want => ?_⟩
  exact LamX.run_ofS lk hcd S hr e0 hb rel (many _ _ _ _ want) fun hr' => body cdv A outer s H vs Q E hr' free want
section
variable {X : Cx} {CX : CXT} {k : Nat} {f : Addr} {fd : FuncData} {ps : List Str} {sp : Sp} {E : XK} {x : Str} {p pos : Pos} {e : Expr} {es : List Expr} {t : TA}
/-- x(e, ..), x a def of the text with such a promise -/
theorem pe_callG (F : FnG X.prog X.w X.K X.mg X.base CX k f fd ps sp) (free : X.A.guards = some []) (hr : Room k X.A) (isg : Gl X x) (at_ : X.mg x = some (.ref f)) (kept : PySem.W.keepIn X.K (.ref f) = true) (bind : Binds X.K fd ps [])
    (out : Passes CX X E) (args : PA X (e :: es) t) (nd : (x == ("__debug__" : Str)) = false := by decide)
    (head : starEach (e :: es) X.env = (false, eval e X.env) :: starEach es X.env := by rfl) (flat : (backTo pos (starEach es X.env)).any (·.1) = false := by rfl) :
    PE X (.Call (.Name x p) (e :: es) [] pos) (tCall sp [] E t) := by
  constructor
  intro pins st σ H Q I want
  apply wpAny_Call_Name_kw
  apply ld_glob I isg at_ _ nd
  apply PySem.W.callWith_K (h₀ := X.base) I.ok.mod.kin kept _ head flat
  apply thn (args.run pos pins st σ H _ I want)
  rintro us s1 ⟨vs, H1, I1, rel, goal⟩
  refine ⟨I1.kIn, ?_⟩
  rw [List.append_nil] at goal
  have hl : (us ++ []).length = ps.length := by rw [List.append_nil, ← rel.length]; exact F.many _ _ _ _ goal
  have hb := bind s1 us I1.kIn hl
  rw [List.append_nil] at hb
  apply wpAny_call
  refine codeAny_mono (F.goes X.A X.stack s1 H1 ⟨us, []⟩ us vs Q E hr free I1.env0 hb rel goal) ?_
  intro r s2 hq
  match r, hq with
  | .error e, hq => exact out pins σ H1 s1 e s2 I1 hq
  | .ok (.ret u), hq => exact I1.after hq
end
end Hk
set_option Elab.async false
set_option linter.all false
set_option maxRecDepth 100000
set_option maxHeartbeats 4000000
/-! an own error of two classes: the base keeps what it was made with (*things), the error says super().__init__(x) and keeps x under a name -/
namespace PySem
namespace OwnX
open PySem.W PySem.Calls PyProof.Rows PySem.HandSPX
/-! ### the texts of both __init__s -/
def hA (p1 p2 : Pos) : Arguments := { posonlyargs := [], args := [{ arg := "self", annotation := none, pos := p1 }], vararg := some { arg := "things", annotation := none, pos := p2 }, kwonlyargs := [], kw_defaults := [], kwarg := none, defaults := [] }
def hB (q1 q2 q3 q4 : Pos) : List Stmt := [.Assign [.Attribute (.Name "self" q1) "things" q2] (.Name "things" q3) q4]
def hS : Scope := { kind := .function, names := [(PySem.Str.ofString "self", .local), (PySem.Str.ofString "things", .local)], isGenerator := false, isCoroutine := false, more := [] }
def bA (fl : Str) (p1 p2 : Pos) : Arguments := { posonlyargs := [], args := [{ arg := "self", annotation := none, pos := p1 }, { arg := fl, annotation := none, pos := p2 }], vararg := none, kwonlyargs := [], kw_defaults := [], kwarg := none, defaults := [] }
def bB (fl : Str) (a1 a2 a3 a4 a5 a6 q1 q2 q3 q4 : Pos) : List Stmt :=
  [.Expr (.Call (.Attribute (.Call (.Name "super" a1) [] [] a2) "__init__" a3) [.Name fl a4] [] a5) a6, .Assign [.Attribute (.Name "self" q1) fl q2] (.Name fl q3) q4]
def bS (fl : Str) : Scope := { kind := .function, names := [(PySem.Str.ofString "self", .local), (fl, .local), (PySem.Str.ofString "__class__", .free), (PySem.Str.ofString "super", .globalImplicit)], isGenerator := false, isCoroutine := false, more := [] }
/-- what is asked of the field's name -/
structure Fld (fl : Str) : Prop where
  self : (("self" : Str) == fl) = false
  self' : (fl == ("self" : Str)) = false
  cls : (("__class__" : Str) == fl) = false
  sup : (("super" : Str) == fl) = false
  things : (fl == ("things" : Str)) = false
  dbg : (fl == ("__debug__" : Str)) = false
/-- what the written part says of the base class at B (__init__ at fB) and of the error's at C (__init__ at fI, its cell cc, its code cda) -/
structure OwnTxt (P : Program) (K : Frag) (mg : Str → Option Value) (nm fl : Str) (C B fI fB : Addr) : Prop where
  fld : Fld fl
  gC : mg nm = some (.ref C)
  cls : ∃ n q N bs bm sn sub ab col dd k0 k1 k2 k3 k5, K.lookup C = some (excClassObj n q C N bs bm true sn sub ab col dd k0 k1 k2 k3 k5 "ValueError.__new__") ∧ refsVE bm = true
  sa : findIn K (.ref C) "__setattr__" = some (some (.builtin "object.__setattr__"))
  ga : findIn K (.ref C) "__getattribute__" = some (some (.builtin "BaseException.__getattribute__"))
  gg : findIn K (.ref C) "__getattr__" = some none
  noT : findIn K (.ref C) "things" = some none
  noF : findIn K (.ref C) fl = some none
  iC : findIn K (.ref C) "__init__" = some (some (.ref fI))
  tC : typeIn K (.ref fI) = some (.type "function")
  sup : ks_superIn K C C "__init__" = some (some (.ref fB))
  tB : typeIn K (.ref fB) = some (.type "function")
  kC : keepIn K (.ref C) = true
  exC : subIn K (.ref C) (.type "BaseException") = some true
  tyC : typeIn K (.ref C) = some (.type "type")
  hdC : hasDictIn K C = true
  te : exmOne K (.ref C) (.ref C) = some true
  selfC : mroIn K C (.ref C) = some true
  opq : nsIn K cStatics "thirdparty.any" = some none
  nsup : mg "super" = none
  tops : (P.main.scope.names.lookup ("super" : Str)).isSome = false
  fnI : ∃ (q : Str) (oc : Value) (od : Option Addr) (doc pm : Value) (an : Option Addr) (cda cc : Addr) (ct : Value) (osl : Array (Option Value)) (p1 p2 a1 a2 a3 a4 a5 a6 q1 q2 q3 q4 : Pos),
    K.lookup fI = some ⟨oc, od, .func (ksFn "__init__" q (bA fl p1 p2) (bB fl a1 a2 a3 a4 a5 a6 q1 q2 q3 q4) (bS fl) .none .none doc pm an (.ref cda) ct cc), osl⟩ ∧ codeIn K (.ref cda) q = true ∧ (a3.endLine == a5.line) = true ∧
    (∀ x v : Value, bindArgs (ksFn "__init__" q (bA fl p1 p2) (bB fl a1 a2 a3 a4 a5 a6 q1 q2 q3 q4) (bS fl) .none .none doc pm an (.ref cda) ct cc) ⟨[x, v], []⟩ = pure [(PySem.Str.ofString "self", x), (fl, v)]) ∧
    (∃ (ccl : Value) (cdd : Option Addr) (vs : Array Value) (ccs : Array (Option Value)) (tf : Tok), K.lookup cda = some ⟨ccl, cdd, .fields vs, ccs⟩ ∧ vs[2]? = some (.str P.main.file tf)) ∧
    ∃ (cl : Value) (cld : Option Addr) (csl : Array (Option Value)), K.lookup cc = some ⟨cl, cld, .cell (some (.ref C)), csl⟩
  fnB : ∃ (q : Str) (oc : Value) (od : Option Addr) (doc pm : Value) (an : Option Addr) (cdv ct : Value) (osl : Array (Option Value)) (p1 p2 q1 q2 q3 q4 : Pos),
    K.lookup fB = some ⟨oc, od, .func (fnOf "__init__" q (hA p1 p2) (hB q1 q2 q3 q4) hS .none .none doc pm an cdv ct), osl⟩ ∧ codeIn K cdv q = true ∧ fnIn K fB = true
theorem LowL.ld {M : Model} {A : Around} {E : Value → Shared → Prop} {s : Shared} {env : Env} {m : Str → Option Value} {x : Str} {pos : Pos} {v : Value} {Q : Value → Shared → Prop} (hn : s.heap.Ns env.locals m) (hv : m x = some v) (h : Q v s)
    (hk : env.scope.kind = .function := by rfl) (hl : env.kindOf x = some .local := by rfl) (hd : (x == ("__debug__" : Str)) = false := by decide) : wpAny M A (eval (.Name x pos) env) Q E s :=
  wpAny_Name (wpAny_loadName_local hk hl hn hv h) hd
theorem super_call {fl : Str} {a1 a2 a3 a4 a5 : Pos} {env : Env} (hpos : (a3.endLine == a5.line) = true) : eval (.Call (.Attribute (.Call (.Name "super" a1) [] [] a2) "__init__" a3) [.Name fl a4] [] a5) env = (do
      let ov ← attributeBase (.Call (.Name "super" a1) [] [] a2) "__init__" env (eval (.Call (.Name "super" a1) [] [] a2) env)
      standAt a3.atName
      let (f, first) ← holding [ov] (getMethod ov "__init__" (do return (← importBound (.Call (.Name "super" a1) [] [] a2) env).getD true))
      callWith a5 f first (backTo a5 (starEach [.Name fl a4] env)) []) := by
  have h1 : ∀ ov : Value, methodCall (.Call (.Name "super" a1) [] [] a2) "__init__" a3 a5 env ov 1 (backTo a5 (starEach [.Name fl a4] env)) [] = (do
      let (f, first) ← holding [ov] (getMethod ov "__init__" (do return (← importBound (.Call (.Name "super" a1) [] [] a2) env).getD true))
      callWith a5 f first (backTo a5 (starEach [.Name fl a4] env)) []) := by
    intro ov
    unfold methodCall methodCallPos calleeOf
    rw [show methodCallForm 1 (backTo a5 (starEach [.Name fl a4] env)) [] = true from rfl]
    simp [hpos]
  show (do
      let ov ← attributeBase (.Call (.Name "super" a1) [] [] a2) "__init__" env (eval (.Call (.Name "super" a1) [] [] a2) env)
      standAt a3.atName
      methodCall (.Call (.Name "super" a1) [] [] a2) "__init__" a3 a5 env ov 1 (backTo a5 (starEach [.Name fl a4] env)) []) = _
  simp only [h1]
/-- what the base's __init__ leaves of a fresh error at x -/
structure BaseEnd (h h' : Heap) (x C dx t1 p : Addr) : Prop where
  keep : ∀ b o, b ≠ x → h.get? b = some o → h'.get? b = some o
  obj : h'.get? x = some { cls := .ref C, dict := some dx, data := .fields #[.ref t1, .none, .none, .none, .bool false, .none] }
  dbig : h.objs.size ≤ dx
  dne : dx ≠ x
  ns : h'.Ns1 dx (fun y => if y = "things" then some (.ref p) else none)
section
variable {prog : Program} {w : World} {A : Around} {E : Value → Shared → Prop} {R : Result → Shared → Prop} {s : Shared} {K : Frag} {mg : Str → Option Value} {nm fl : Str} {C B fI fB : Addr}
theorem base_init (T : OwnTxt prog K mg nm fl C B fI fB) {x t0 : Addr} {v : Value} (X : K.In s.heap) (lim : s.heap.NoLimit) (hx : s.heap.get? x = some (excO C t0)) (room : A.depth < recursionLimit)
    (hq : ∀ h' tk dx p, BaseEnd s.heap h' x C dx t0 p → R (.ok (.ret .none)) { s with heap := h', toks := tk }) :
    codeAny (model prog w) A (.call (.ref fB) ⟨[.ref x, v], []⟩) R s := by
  obtain ⟨q, oc, od, doc, pm, an, cdv, ct, osl, p1, p2, q1, q2, q3, q4, ho, hcd, _⟩ := T.fnB
  obtain ⟨n, qc, N, bs, bm, sn, sub, ab, col, dd, k0, k1, k2, k3, k5, hC, hbm⟩ := T.cls
  have hcl : clsIn K C = some { name := n, bases := bs, mro := .ref C :: bm, ns := N, qualname := qc, hasDict := true, slotNames := sn, subclasses := sub, abstract := ab, collection := col, hasDel := false } := by unfold clsIn; rw [hC] <;> rfl
  refine codeAny_call_function room (X _ _ ho) rfl rfl rfl rfl (codeRec_of X hcd) ?_
  rw [show bindArgs (fnOf "__init__" q (hA p1 p2) (hB q1 q2 q3 q4) hS .none .none doc pm an cdv ct) ⟨[.ref x, v], []⟩ = (newTuple [v] >>= fun t => pure [(PySem.Str.ofString "self", Value.ref x), (PySem.Str.ofString "things", t)]) from rfl]
  refine wpAny_bind (wpAny_newTuple (wpAny_pure ?_) (by show 1 ≤ sizeLine; rw [sizeLine_eq]; decide))
  obtain ⟨hp, g, dr, tk, os⟩ := s
  have up : ∀ b o, hp.get? b = some o → (hp.push { cls := .type "tuple", data := .seq [v].toArray }).get? b = some o := fun b o e => Heap.get?_push_of_some _ e
  refine wpAny_newFunctionEnv (scope := hS) (by decide) (by intro y hy; simp at hy; rcases hy with rfl | rfl <;> rfl) (fun h₁ hns hsb => ⟨(lim.keeps up).fresh _ hsb, codeAny_func ?_⟩) rfl
  have up1 : ∀ b o, hp.get? b = some o → h₁.get? b = some o := fun b o e => hsb.extBut b o (Nat.ne_of_lt (Heap.lt_size (up b o e))) (Heap.get?_push_of_some _ (up b o e))
  have X1 : K.In h₁ := X.keeps up1
  have hx1 := up1 _ _ hx
  show wpAny _ _ (execs _ _) _ _ _
  refine wpAny_execs_cons (plainObj_wpAny_Assign_Attribute ?_)
  refine LowL.ld (v := .ref hp.objs.size) hns (by rfl) (LowL.ld (v := .ref x) hns (by rfl) ?_)
  refine set_plain X1 (ox := excO C t0) (od := none) ⟨hx1, rfl, rfl, trivial⟩ T.sa ?_
  refine exc_osa X1 hx1 hcl (show refsVE (.ref C :: bm) = true from hbm) rfl T.noT (fun h₃ tk₃ dx k₃ dn dne hx₃ hn₃ => ?_)
  show wpAny _ _ (execs _ _) _ _ _
  have sz : hp.objs.size ≤ h₁.objs.size := Nat.le_trans (Nat.le_succ _) (by
    have z := Nat.le_of_lt hns.lt
    rw [Heap.size_push] at z
    exact z)
  exact wpAny_execs_nil (hq h₃ tk₃ dx hp.objs.size ⟨fun b o hb e => k₃ b o hb (up1 b o e), hx₃, Nat.le_trans sz dn, dne, hn₃⟩)
/-- what the error's own __init__ leaves of a fresh one at x -/
structure OwnEnd (fl : Str) (h h' : Heap) (x C dx t1 p : Addr) (v : Value) : Prop where
  keep : ∀ b o, b ≠ x → h.get? b = some o → h'.get? b = some o
  obj : h'.get? x = some { cls := .ref C, dict := some dx, data := .fields #[.ref t1, .none, .none, .none, .bool false, .none] }
  dbig : h.objs.size ≤ dx
  dne : dx ≠ x
  ns : h'.Ns1 dx (fun y => if y = fl then some v else if y = "things" then some (.ref p) else none)
theorem own_init {base : Heap} (T : OwnTxt prog K mg nm fl C B fI fB) (M : L2.Mod K mg base) (up0 : ∀ b o, base.get? b = some o → s.heap.get? b = some o) {x t0 : Addr} {v : Value} (hx : s.heap.get? x = some (excO C t0)) (hnx : K.lookup x = none) (room : A.depth + 8 < recursionLimit)
    (hq : ∀ h' tk dx p, OwnEnd fl s.heap h' x C dx t0 p v → R (.ok (.ret .none)) { s with heap := h', toks := tk }) :
    codeAny (model prog w) A (.call (.ref fI) ⟨[.ref x, v], []⟩) R s := by
  have X : K.In s.heap := M.kin.keeps up0
  have lim : s.heap.NoLimit := M.nolimit.keeps up0
  obtain ⟨q, oc, od, doc, pm, an, cda, cc, ct, osl, p1, p2, a1, a2, a3, a4, a5, a6, q1, q2, q3, q4, ho, hcd, hpos, hbind, ⟨ccl, cdd, vs, ccs, tf, hcode, hvs⟩, cl, cld, csl, hcell⟩ := T.fnI
  obtain ⟨n, qc, N, bs, bm, sn, sub, ab, col, dd, k0, k1, k2, k3, k5, hC, hbm⟩ := T.cls
  have hcl : clsIn K C = some { name := n, bases := bs, mro := .ref C :: bm, ns := N, qualname := qc, hasDict := true, slotNames := sn, subclasses := sub, abstract := ab, collection := col, hasDel := false } := by unfold clsIn; rw [hC] <;> rfl
  have f := T.fld
  have lfl : (bS fl).names.lookup fl = some .local := by simp [bS, List.lookup, f.self']
  have lself : (bS fl).names.lookup (PySem.Str.ofString "self") = some .local := by simp [bS, List.lookup]
  have lcls : (bS fl).names.lookup (PySem.Str.ofString "__class__") = some .free := by
    have e0 : (PySem.Str.ofString "__class__" == PySem.Str.ofString "self") = false := by decide
    simp [bS, List.lookup, f.cls, e0]
  have lsup : (bS fl).names.lookup (PySem.Str.ofString "super") = some .globalImplicit := by
    have e0 : (PySem.Str.ofString "super" == PySem.Str.ofString "self") = false := by decide
    have e1 : (PySem.Str.ofString "super" == PySem.Str.ofString "__class__") = false := by decide
    simp [bS, List.lookup, f.sup, e0, e1]
  obtain ⟨hp, g, dr, tk, os⟩ := s
  refine ks_codeAny_call_defAt (fd := ksFn "__init__" q (bA fl p1 p2) (bB fl a1 a2 a3 a4 a5 a6 q1 q2 q3 q4) (bS fl) .none .none doc pm an (.ref cda) ct cc) (body := bB fl a1 a2 a3 a4 a5 a6 q1 q2 q3 q4) (binds := [(PySem.Str.ofString "self", .ref x), (fl, v)])
    (by omega) (X _ _ ho) rfl lim (codeRec_of X hcd) rfl (BindsTo.of_eq (hbind _ _)) ?_ ?_ (fun h₁ hns up1 => ?_) rfl rfl rfl
  · intro y hy
    simp [bS] at hy
    rcases hy with rfl | rfl | rfl | rfl <;> exact fun z => nomatch z
  · intro y hy
    simp at hy
    rcases hy with rfl | rfl
    · exact lself
    · exact lfl
  have mself : (List.reverse [(PySem.Str.ofString "self", Value.ref x), (fl, v)]).lookup (PySem.Str.ofString "self") = some (.ref x) := by simp [List.lookup, f.self]
  have mfl : (List.reverse [(PySem.Str.ofString "self", Value.ref x), (fl, v)]).lookup fl = some v := by simp [List.lookup]
  have X1 : K.In h₁ := X.keeps up1
  have hx1 := up1 _ _ hx
  have hC1 := X1 _ _ hC
  have xC : x ≠ C := fun z => by rw [z, hC] at hnx; cases hnx
  refine ks_wpAt_execs_cons (ks_wpAt_Expr_any (ks_wpAt_MethodCall (ks_wpAt_super_base (env := ksEnv q (bS fl) hp.objs.size fI (.ref cda) cc) lsup lcls (by decide) rfl (X1 _ _ ho) rfl (ar := { arg := "self", annotation := none, pos := p1 }) rfl rfl (X1 _ _ hcode) rfl hvs (by simp) T.tops ?_) (super_call hpos)) (by rfl) (by rfl))
  obtain ⟨mb, hmb, bmb⟩ := M.blt
  refine ks_loadName_global (by rfl) lsup (loadGlobal_builtin (env := ksEnv q (bS fl) hp.objs.size fI (.ref cda) cc) (M.glob.keeps fun b o e => up1 b o (up0 b o e)) T.nsup (hmb.keeps fun b o e => up1 b o (up0 b o e)) ((bmb _ (by decide)).trans (by decide +kernel)) ⟨rfl, ?_⟩)
  refine wpAny_loadName_free (env := ksEnv q (bS fl) hp.objs.size fI (.ref cda) cc) rfl lcls rfl ⟨_, X1 _ _ hcell, rfl⟩ ?_
  refine wpAny_loadName_local (env := ksEnv q (bS fl) hp.objs.size fI (.ref cda) cc) rfl lself hns mself ?_
  refine ks_wpAny_isType_cls hC1 rfl ⟨rfl, ?_⟩
  refine ks_wpAny_call_super hC1 rfl hx1 rfl (fun c e => by cases e) (looks_mroIn X1 T.selfC) (fun h₂ e₂ up2 => ?_)
  have X2 : K.In h₂ := X1.keeps up2
  obtain ⟨qb, ocb, odb, docb, pmb, anb, cdvb, ctb, oslb, b1, b2, b3, b4, b5, b6, hB, hBcd, hBfn⟩ := T.fnB
  have hsup : alongIn K "__init__" (((.ref C :: bm : List Value).dropWhile (· != .ref C)).drop 1) = some (some (.ref fB)) := by
    have z := T.sup
    unfold ks_superIn at z
    rw [hcl] at z
    exact z
  have hBc : ocb = .type "function" := by
    have z := T.tB
    unfold typeIn at z
    simp only [hB] at z
    exact Option.some.inj z
  refine ks_wpAny_getMethod_super e₂ (looks_opaque X2 T.opq) (l₀ := .ref C :: bm) (fun A Q E s k q => wpAny_bind ((looks_clsIn X2 hcl) A _ E s k (wpAny_pure q))) rfl X2 hsup (X2 _ _ hB) hBc xC (by decide) ?_
  refine callWith_of (P := MethP K h₂.objs.size fB (.ref x)) rfl (keeps_M hBfn) ?_
  have up3 : ∀ b o, hp.get? b = some o → (h₂.push { cls := .type "method", data := .fields #[.ref fB, .ref x] }).get? b = some o := fun b o e => Heap.get?_push_of_some _ (up2 _ _ (up1 _ _ e))
  have hns3 := hns.at (h' := h₂.push { cls := .type "method", data := .fields #[.ref fB, .ref x] }) (fun o e => Heap.get?_push_of_some _ (up2 _ _ e))
  have hq3 : (h₂.push { cls := .type "method", data := .fields #[.ref fB, .ref x] }).get? h₂.objs.size = some (methodObj (.ref fB) (.ref x)) := Heap.get?_push_at rfl rfl
  refine Calls.evalArgs_plain (Calls.spliced_cons (LowL.ld (env := ksEnv q (bS fl) hp.objs.size fI (.ref cda) cc) hns3 mfl ?_ rfl lfl f.dbg))
  refine Calls.spliced_nil ⟨⟨hq3, X.keeps up3⟩, ?_⟩
  show wpAny _ _ (call (.ref h₂.objs.size) [v]) _ _ _
  refine wpAny_call (ks_codeAny_call_bound hq3 (base_init T (X.keeps up3) (lim.keeps up3) (up3 _ _ hx) (by show A.depth + 1 < recursionLimit; omega) (fun h₄ tk₄ dx p L => ?_)))
  obtain ⟨k₄, o₄, big₄, ne₄, ns₄⟩ := L
  have sz3 : hp.objs.size ≤ (h₂.push { cls := .type "method", data := .fields #[.ref fB, .ref x] }).objs.size := by
    exact Nat.le_of_lt hns3.lt
  have old : ∀ b o, hp.get? b = some o → b ≠ x → h₄.get? b = some o := fun b o e hb => k₄ b o hb (up3 b o e)
  have hxL : x ≠ hp.objs.size := Nat.ne_of_lt (Heap.lt_size hx)
  have X4 : K.In h₄ := fun b o e => old b o (X b o e) (fun z => by rw [z, hnx] at e; cases e)
  have ns4 : h₄.Ns hp.objs.size _ := hns3.at (fun o e => k₄ _ o (Ne.symm hxL) e)
  refine ks_wpAt_execs_cons (wpAt_of_wpAny (plainObj_wpAny_Assign_Attribute ?_ (by rfl)))
  refine LowL.ld (env := ksEnv q (bS fl) hp.objs.size fI (.ref cda) cc) ns4 mfl (LowL.ld (env := ksEnv q (bS fl) hp.objs.size fI (.ref cda) cc) ns4 mself ?_ rfl lself) rfl lfl f.dbg
  have hw : Within (fun y => if y = "things" then some (Value.ref p) else none) [("things" : Str)] := fun y hy => by
    by_cases e : y = "things"
    · simp [e]
    · simp [e] at hy
  obtain ⟨oD, _, _, hoD, _, _⟩ := ns₄.count hw
  refine set_plain X4 (ox := { cls := .ref C, dict := some dx, data := .fields #[.ref t0, .none, .none, .none, .bool false, .none] }) (od := some oD) ⟨o₄, rfl, rfl, hoD⟩ T.sa ?_
  refine PySem.OEX.osa_old X4 o₄ ns₄ hw (by decide) hcl (show refsVE (.ref C :: bm) = true from hbm) rfl T.noF (fun h₅ tk₅ k₅ ns₅ => ?_)
  refine wpAt_of_wpAny (wpAny_execs_nil (hq h₅ tk₅ dx p ⟨fun b o hb e => ?_, ?_, Nat.le_trans sz3 big₄, ne₄, ns₅⟩))
  · exact k₅ b o (Nat.ne_of_lt (Nat.lt_of_lt_of_le (Heap.lt_size e) (Nat.le_trans sz3 big₄))) (old b o e hb)
  · exact k₅ x _ (Ne.symm ne₄) o₄
theorem one_size (v : Value) : [v].length ≤ sizeLine := by
  rw [sizeLine_eq]
  exact (by decide : 1 ≤ 16777216)
/-- a made error -/
structure OwnMade (fl : Str) (h h' : Heap) (e C d p : Addr) (v : Value) : Prop where
  keep : ∀ b o, h.get? b = some o → h'.get? b = some o
  new : h.objs.size ≤ e
  obj : ∃ oe vs, h'.get? e = some oe ∧ oe.cls = .ref C ∧ oe.dict = some d ∧ oe.data = .fields vs ∧ vs[1]? = some .none
  dbig : h.objs.size ≤ d
  dne : d ≠ e
  ns : h'.Ns1 d (fun y => if y = fl then some v else if y = "things" then some (.ref p) else none)
theorem own_made {base : Heap} (T : OwnTxt prog K mg nm fl C B fI fB) (M : L2.Mod K mg base) (up0 : ∀ b o, base.get? b = some o → s.heap.get? b = some o) {v : Value} (room : A.depth + 9 < recursionLimit)
    (hq : ∀ h' tk e d p, OwnMade fl s.heap h' e C d p v → R (.ok (.ret (.ref e))) { s with heap := h', toks := tk }) :
    codeAny (model prog w) A (.call (.ref C) ⟨[v], []⟩) R s := by
  obtain ⟨n, q, N, bs, bm, sn, sub, ab, col, dd, k0, k1, k2, k3, k5, hC, hbm⟩ := T.cls
  have X : K.In s.heap := M.kin.keeps up0
  obtain ⟨hp, g, dr, tk, os⟩ := s
  have k : ∀ b o, hp.get? b = some o → ((hp.push (kdv_tup [v])).push (excO C hp.objs.size)).get? b = some o := fun b o e => Heap.get?_push_of_some _ (Heap.get?_push_of_some _ e)
  have hget : ((hp.push (kdv_tup [v])).push (excO C hp.objs.size)).get? (hp.objs.size + 1) = some (excO C hp.objs.size) := by heap_get
  have hnx : K.lookup (hp.objs.size + 1) = none := by
    cases e : K.lookup (hp.objs.size + 1) with
    | none => rfl
    | some o =>
      have z : hp.get? (hp.objs.size + 1) = some o := X _ _ e
      exact absurd (Nat.lt_of_succ_lt (Heap.lt_size z)) (Nat.lt_irrefl _)
  refine call_own F.excBase_ValueError (fun X => refsVE_contains X bm hbm) (X _ _ hC) (looks_findIn X T.iC) (fun self => bind_fn X self T.tC) (one_size v) ?_
  refine own_init (s := ⟨(hp.push (kdv_tup [v])).push (excO C hp.objs.size), g, dr, tk, os⟩) T M (fun b o e => k b o (up0 b o e)) hget hnx ?_ fun h' tk' dx p ⟨k', hx, dn, dne, hns⟩ => ?_
  · rw [L2.make_depth]
    omega
  · have old : ∀ b o, hp.get? b = some o → h'.get? b = some o := fun b o e => k' b o (Nat.ne_of_lt (Nat.lt_succ_of_lt (Heap.lt_size e))) (k b o e)
    have z : hp.objs.size + 1 + 1 ≤ dx := by
      first
        | (simpa only [Heap.size_push] using dn)
        | exact dn
        | (have q := dn; rw [Heap.size_push, Heap.size_push] at q; exact q)
    exact ⟨rfl, hq h' tk' (hp.objs.size + 1) dx p ⟨old, Nat.le_succ _, ⟨_, _, hx, rfl, rfl, rfl, rfl⟩, Nat.le_trans (Nat.le_trans (Nat.le_succ _) (Nat.le_succ _)) z, dne, hns⟩⟩
end
end OwnX
end PySem

namespace L2
open PySem PySem.Spec PyProof.Rows
theorem relO_two {fl : Str} {v : V} {v' : Value} {p : Addr} (r : RelV v v') (f : Str) : RelO (List.lookup f [(fl, v), (("things" : Str), V.ref p)]) (if f = fl then some v' else if f = "things" then some (.ref p) else none) := by
  by_cases hw : f = fl
  · subst hw
    rw [if_pos rfl]
    have q : List.lookup f [(f, v), (("things" : Str), V.ref p)] = some v := by simp [List.lookup]
    rw [q]
    exact r
  · rw [if_neg hw]
    have qw : (f == fl) = false := by simpa using hw
    by_cases ht : f = "things"
    · rw [if_pos ht]
      have q2 : List.lookup f [(fl, v), (("things" : Str), V.ref p)] = some (V.ref p) := by
        subst ht
        simp [List.lookup, qw]
      rw [q2]
      exact rfl
    · rw [if_neg ht]
      have qt : (f == ("things" : Str)) = false := by simpa using ht
      have q2 : List.lookup f [(fl, v), (("things" : Str), V.ref p)] = none := by simp [List.lookup, qw, qt]
      rw [q2]
      trivial
section
variable {X : Cx} {nm fl : Str} {C B fI fB : Addr}
/-- what an error's own dict holds -/
abbrev errD (fl : Str) (v : V) (p : Addr) : HO := .xd [(fl, v), (("things" : Str), V.ref p)]
/-- E(e) -/
def tMkOwn (fl : Str) (C : Addr) (ta : TA) : St → Hp → XK → Prop := fun σ H Q => ta σ H fun vs H1 => ∃ v, vs = [v] ∧ ∀ d p, H1 d = none → Q (.ref C) (some d) (upd H1 d (errD fl v p))
theorem pmk_own2 {a : Expr} {ta : TA} {p pos : Pos} {k : Nat} (T : PySem.OwnX.OwnTxt X.prog X.K X.mg nm fl C B fI fB) (hr : Room (k + 2) X.A) (ha : PA X [a] ta) (hg : Gl X nm) (hdb : (nm == ("__debug__" : Str)) = false := by decide)
    (he : starEach (a :: []) X.env = (false, eval a X.env) :: starEach [] X.env := by rfl) (hpl : (backTo pos (starEach [] X.env)).any (·.1) = false := by rfl) :
    PMk X (.Call (.Name nm p) [a] [] pos) (tMkOwn fl C ta) := by
  intro pins s σ H Q I h
  refine wpAny_Call_Name_kw (ld_glob I hg T.gC ?_ hdb)
  refine PySem.W.callWith_K (h₀ := X.base) I.ok.mod.kin T.kC (thn (ha.run pos pins s σ H _ I h) fun us s1 hh => ?_) he hpl
  obtain ⟨vs, H1, I1, r1, v, ev, q1⟩ := hh
  subst ev
  refine ⟨I1.kIn, ?_⟩
  cases r1 with
  | cons rv rn =>
    rename_i v' us'
    cases rn
    show wpAny _ _ (call (.ref C) [v']) _ _ _
    have up0 := I1.bk
    obtain ⟨hp, g, dr, tk, os⟩ := s1
    refine wpAny_call (PySem.OwnX.own_made T I1.ok.mod up0 (by have := hr.dp; omega) fun h' tk' e d pt M => ?_)
    show MkP X pins σ Q (.ref e) ⟨h', g, dr, tk', os⟩
    obtain ⟨oe, fv, hoe, hc, hd, hdat, h1⟩ := M.obj
    have hns := M.ns
    obtain ⟨G', g1, g2⟩ := restrict h' fun b => decide (b ≠ e)
    have gk : ∀ b, b ≠ e → G'.get? b = h'.get? b := fun b hb => g1 b (decide_eq_true hb)
    have ge : G'.get? e = none := g2 e (by simp)
    have old : ∀ b o, hp.get? b = some o → G'.get? b = some o := fun b o q => (gk b (Nat.ne_of_lt (Nat.lt_of_lt_of_le (Heap.lt_size q) M.new))).trans (M.keep b o q)
    have ob : ObjOk X.prog X.w (upd H1 d (errD fl v pt)) G' d (errD fl v pt) :=
      ⟨_, hns.at (fun o q => (gk d M.dne).trans q), fun f => relO_two rv f⟩
    have J : Inv X pins σ (upd H1 d (errD fl v pt)) ⟨G', g, dr, tk', os⟩ := I1.laid (t' := tk') old M.dbig ob
    refine ⟨e, oe, fv, ⟨G', g, dr, tk', os⟩, _, .ref C, some d, rfl, J, fun b o q => ?_, ge, hoe, ⟨hc, hd⟩, hdat, h1, ?_, rfl, I1.bare, raises_own T.exC T.tyC, q1 d pt (I1.hok.fresh M.dbig)⟩
    · by_cases hb : b = e
      · have q' : G'.get? b = some o := q
        rw [hb, ge] at q'; cases q'
      · exact (gk b hb).symm.trans q
    · rw [upd_ne (Ne.symm M.dne)]
      exact I1.hok.fresh M.new
/-- raise E(e) -/
def tRaiseOwn (fl : Str) (C : Addr) (W : WX) (ta : TA) : TS := fun _ σ H => tMkOwn fl C ta σ H fun cls d H' => W cls d σ H'
theorem ps_raiseOwn {a : Expr} {ta : TA} {W : WX} {p pos pos2 : Pos} {k : Nat} (hc : X.calm = true) (T : PySem.OwnX.OwnTxt X.prog X.K X.mg nm fl C B fI fB) (hr : Room (k + 2) X.A) (tk : Takes X W) (ha : PA X [a] ta) (hg : Gl X nm) (hdb : (nm == ("__debug__" : Str)) = false := by decide)
    (he : starEach (a :: []) X.env = (false, eval a X.env) :: starEach [] X.env := by rfl) (hpl : (backTo pos (starEach [] X.env)).any (·.1) = false := by rfl) :
    PS X (.Raise (some (.Call (.Name nm p) [a] [] pos)) none pos2) (tRaiseOwn fl C W ta) := ps_raise hc tk (pmk_own2 T hr ha hg hdb he hpl)
/-- e.fl, e the error that the suite holds (at a; its class cls, its dict d) -/
def tByOwn (fl : Str) (C : Addr) (a : Addr) (cls : Value) (d : Option Addr) (te : TE) : TE := fun σ H Q => te σ H fun x H1 => x = .ref a ∧ cls = .ref C ∧ ∃ (dd p : Addr) (v : V), d = some dd ∧ H1 dd = some (errD fl v p) ∧ Q v H1
theorem pe_byOwn {a : Addr} {oe : Obj} {cls : Value} {d : Option Addr} {pn : List (Addr × Obj)} {e : Expr} {te : TE} {pos : Pos} (T : PySem.OwnX.OwnTxt X.prog X.K X.mg nm fl C B fI fB) (hz : Zc cls d oe) (hf : ∃ vs, oe.data = .fields vs) (he : PE (X.suite a ((a, oe) :: pn)) e te)
    (hb : attributeBase e fl X.env (eval e X.env) = eval e X.env := by rfl) :
    PE (X.suite a ((a, oe) :: pn)) (.Attribute e fl pos) (tByOwn fl C a cls d te) := by
  refine ⟨fun pins s σ H Q I h => ?_⟩
  refine attr_of hb (thn (he.run pins s σ H _ I h) fun u s1 hh => ?_)
  obtain ⟨x, H1, I1, rx, ex, ec, dd, p, v, ed, ea, q⟩ := hh
  subst ex
  obtain rfl : u = Value.ref a := rx
  subst ec
  subst ed
  obtain ⟨ha, _⟩ := I1.pin (a, oe) (List.mem_append_left _ List.mem_cons_self)
  obtain ⟨vs, hd⟩ := hf
  have hx : ObjOk X.prog X.w H1 s1.heap dd (errD fl v p) := I1.hok dd _ ea
  obtain ⟨mA, hns, hr⟩ := hx
  obtain ⟨od, ho, hl⟩ := lookIn_ns hns
  have l : List.lookup fl [(fl, v), (("things" : Str), V.ref p)] = some v := by simp [List.lookup]
  obtain ⟨u, hu, ru⟩ := RelO.some_of (v := v) (o := mA fl) (by rw [← l]; exact hr fl)
  have J : PySem.W.InstAt s1.heap a oe C (some od) := ⟨ha, hz.1, by unfold PySem.W.notCls; rw [hd] <;> rfl, by rw [hz.2]; exact ho⟩
  exact HandSPX.exc_get I1.kIn J T.ga T.gg T.exC (PySem.W.findObj_own T.hdC T.noF rfl (by rw [hl, hu])) (handed_of ru) ⟨v, H1, I1.tok _, ru, q⟩
end
end L2
set_option Elab.async false
set_option linter.all false
set_option maxRecDepth 100000
set_option maxHeartbeats 4000000
namespace Hk
open PySem PySem.Spec PyProof.Rows L2
/-- a def of the text that stands under a name of the module and keeps a promise -/
def Kn (P : Program) (w : World) (K : PySem.W.Frag) (mg : Str → Option Value) (base : Heap) (k : Nat) (nm : Str) (ps : List Str) (sp : Sp) : Prop :=
  ∃ (f : Addr) (fd : FuncData), FnG P w K mg base (L2.CX P w) k f fd ps sp ∧ mg nm = some (.ref f) ∧ PySem.W.keepIn K (.ref f) = true ∧ Binds K fd ps []
/-- a def as the head tells it -/
def At (K : PySem.W.Frag) (mg : Str → Option Value) (nm : Str) (st : Stmt) (ps : List Str) : Prop :=
  ∃ (f : Addr) (fd : FuncData), Fun K nm nm st f fd ∧ mg nm = some (.ref f) ∧ Binds K fd ps []
section
variable {P : Program} {w : World} {K : PySem.W.Frag} {mg : Str → Option Value} {base : Heap}
theorem Kn.mk {k : Nat} {nm : Str} {st : Stmt} {N ps : List Str} {sp : Sp} (at_ : At K mg nm st ps) (S : FnScope N ps (defScope st)) (many : ∀ vs H Q E, sp vs H Q E → vs.length = ps.length)
    (body : ∀ (f : Addr) (cdv : Value) (A : Around) (outer : List Env) (s : Shared) (H : Hp) (vs : List V) (Q : VK) (E : XK), Room k (A.deeper (envOfC nm (defScope st) s.heap.objs.size f cdv)) → (A.deeper (envOfC nm (defScope st) s.heap.objs.size f cdv)).guards = some [] → sp vs H Q E →
      ∃ t, PSs (cxOf (L2.CX P w) P w K mg base N nm (defScope st) f cdv A outer s H E) (defBody st) t ∧ t { nx := fun _ H' => Q .non H', rt := Q } (start N vs) H) : Kn P w K mg base (k + 1) nm ps sp := by
  obtain ⟨f, fd, F, hm, hb⟩ := at_
  exact ⟨f, fd, fnG_mk F S many (body f), hm, F.kp, hb⟩
/-- for a def that lets nothing out -/
theorem Kn.mkN {k : Nat} {nm : Str} {st : Stmt} {N ps : List Str} {sp : Sp} (at_ : At K mg nm st ps) (S : FnScope N ps (defScope st)) (many : ∀ vs H Q E, sp vs H Q E → vs.length = ps.length)
    (body : ∀ (f : Addr) (cdv : Value) (A : Around) (outer : List Env) (s : Shared) (H : Hp) (vs : List V) (Q : VK) (E : XK), Room k (A.deeper (envOfC nm (defScope st) s.heap.objs.size f cdv)) → (A.deeper (envOfC nm (defScope st) s.heap.objs.size f cdv)).guards = some [] → sp vs H Q E →
      ∃ t, PSs (cxOf (L2.CX P w) P w K mg base N nm (defScope st) f cdv A outer s H E).nox (defBody st) t ∧ t { nx := fun _ H' => Q .non H', rt := Q } (start N vs) H) : Kn P w K mg base (k + 1) nm ps sp :=
  Kn.mk at_ S many fun f cdv A outer s H vs Q E hr free h => by
    obtain ⟨t, h1, h2⟩ := body f cdv A outer s H vs Q E hr free h
    exact ⟨t, h1.nox, h2⟩
theorem Kn.mono {j k : Nat} {nm : Str} {ps : List Str} {sp : Sp} (h : Kn P w K mg base j nm ps sp) (jk : j ≤ k) : Kn P w K mg base k nm ps sp := by
  obtain ⟨f, fd, F, r⟩ := h
  exact ⟨f, fd, ⟨F.many, fun A outer st H given us vs Q E hr => F.goes A outer st H given us vs Q E (hr.mono jk)⟩, r⟩
end
section
variable {X : Cx} {k : Nat} {ps : List Str} {sp : Sp} {E : XK} {x : Str} {p pos : Pos} {e : Expr} {es : List Expr} {t : TA}
theorem pe_callN (F : Kn X.prog X.w X.K X.mg X.base k x ps sp) (free : X.A.guards = some []) (hr : Room k X.A) (isg : Gl X x) (out : Passes (L2.CX X.prog X.w) X E) (args : PA X (e :: es) t) (nd : (x == ("__debug__" : Str)) = false := by decide)
    (head : starEach (e :: es) X.env = (false, eval e X.env) :: starEach es X.env := by rfl) (flat : (backTo pos (starEach es X.env)).any (·.1) = false := by rfl) : PE X (.Call (.Name x p) (e :: es) [] pos) (tCall sp [] E t) := by
  obtain ⟨f, fd, G, hm, kp, hb⟩ := F
  exact pe_callG G free hr isg hm kp hb out args nd head flat
end
end Hk
set_option Elab.async false
set_option linter.all false
set_option maxRecDepth 100000
set_option maxHeartbeats 4000000
/-! enumerate over a tuple -/
namespace PySem
open Sem (wp)
set_option maxHeartbeats 1000000 in
theorem enum1_meets {v : Value} {o : Obj} {Hyp : Heap → Prop} (B : Begins v o Hyp) : Meets (Builtin.«enumerate.__new__» ⟨[.type "enumerate", v], []⟩) (fun _ R st => Hyp st.heap ∧
    R (.ok (.ret (.ref (st.heap.push o).objs.size))) { st with heap := (st.heap.push o).push { cls := .type "enumerate", data := .fields #[.none, .bool false, .ref st.heap.objs.size, rawInt 0, .none, .none] } }) := by
  refine .of_wp fun prog w A R st given => ?_
  obtain ⟨hp, g, d, tk, os⟩ := st
  obtain ⟨holds, goal⟩ := given
  have subE := sub_enumerate
  have begin1 : ∀ {A1 : Around} {E1 : Value → Shared → Prop} {Q1 : Value → Shared → Prop}, Q1 (.ref hp.objs.size) ⟨hp.push o, g, d, tk, os⟩ → wpAny (model prog w) A1 (pyIter v) Q1 E1 ⟨hp, g, d, tk, os⟩ :=
    fun z => B.iter prog w _ _ ⟨hp, g, d, tk, os⟩ _ holds z
  wp_walk using begin1
  first
    | exact ⟨_, rfl, goal⟩
    | (refine wpAny_stack_any fun frames => wpAny_pure ?_
       split
       · rename_i c _ _ _ _ _
         cases (c == Value.type "enumerate") <;> (wp_walk using begin1; exact ⟨_, rfl, goal⟩)
       · wp_walk using begin1
         exact ⟨_, rfl, goal⟩)
section
variable {prog : Program} {w : World} {A : Around} {E : Value → Shared → Prop} {s : Shared}
theorem enum1_begins {v : Value} {o : Obj} {Hyp : Heap → Prop} {Q : Value → Shared → Prop} (B : Begins v o Hyp) (holds : Hyp s.heap)
    (goal : ∀ g, IsEnum g (s.heap.objs.size + 1) s.heap.objs.size 0 .none → g.get? s.heap.objs.size = some o → g.objs.size = s.heap.objs.size + 2 →
      (∀ b u, s.heap.get? b = some u → g.get? b = some u) → Q (.ref (s.heap.objs.size + 1)) { s with heap := g }) :
    wpAny (model prog w) A (call (.type "enumerate") [v]) Q E s := by
  refine callType_new F.called_enumerate (by decide) (F.typeCall_enumerate_1 _) (F.newCall_enumerate_1 _) (fun made => F.args_object_init_2 made _) F.entry_enumerate_new (enum1_meets B) ⟨holds, ?_⟩
  have big : (s.heap.push o).objs.size = s.heap.objs.size + 1 := Heap.size_push ..
  show _ ∧ _
  rw [big]
  have isE : IsEnum ((s.heap.push o).push { cls := .type "enumerate", data := .fields #[.none, .bool false, .ref s.heap.objs.size, rawInt 0, .none, .none] }) (s.heap.objs.size + 1) s.heap.objs.size 0 .none := by
    have z := Heap.get?_push_size (s.heap.push o) (o := { cls := .type "enumerate", data := .fields #[.none, .bool false, .ref s.heap.objs.size, rawInt 0, .none, .none] }) rfl
    rw [big] at z
    exact z
  exact ⟨⟨_, isE, rfl⟩, goal _ isE (Heap.get?_push_of_some _ (Heap.get?_push_size _ B.free)) (by rw [Heap.size_push, big]) fun b u x => Heap.get?_push_of_some _ (Heap.get?_push_of_some _ x)⟩
end
end PySem
namespace L2
open PySem PySem.Spec PyProof.Rows
/-- the tuple at a, each item in a new pair with its number -/
def ItEnT (K : PySem.W.Frag) (a : Addr) : It :=
  ⟨fun i H => ∃ (xs : List V) (x : V), SqT K H a xs ∧ xs[i]? = some x, fun i H v H' => ∃ T x, v = .ref T ∧ H T = none ∧ H' = upd H T (.tup [.int (i : Nat), x]) ∧ ∀ xs, SqT K H a xs → xs[i]? = some x, fun i H => ∃ xs : List V, SqT K H a xs ∧ xs.length ≤ i⟩
theorem turn_enT {P : Program} {w : World} {K : PySem.W.Frag} {elts : List Expr} {kk : Nat} {tpos : Pos} (a e it : Addr) :
    Turn P w K (.Tuple elts kk tpos) (ItEnT K a) [e, it] e (fun i h => (∃ old, IsEnum h e it ((i : Nat) : Int) old) ∧ h.IsTupleIter it a i ∧ e ≠ it ∧ a ≠ it ∧ e ≠ a) where
  mem := by simp
  obj := by
    intro i h st b hb
    obtain ⟨⟨old, he⟩, ⟨o, ho, _, hd⟩, _⟩ := st
    rcases (show b = e ∨ b = it by simpa using hb) with z | z <;> subst z
    · exact ⟨_, he, fun v q => nomatch q⟩
    · exact ⟨o, ho, fun v q => by rw [hd] at q; cases q⟩
  keep := by
    intro i h h' st k
    obtain ⟨⟨old, he⟩, hi, hne, r⟩ := st
    exact ⟨⟨old, k e (by simp) _ he⟩, hi.at fun o q => k it (by simp) o q, hne, r⟩
  item := by
    intro X hP hw hK hc i pins s σ H E I hf st hg
    subst hP hw hK
    obtain ⟨⟨old, he⟩, hit, hne, hai, hea⟩ := st
    obtain ⟨xs, x, hq, hx⟩ := hg
    obtain ⟨its, rv, p, hz⟩ := I.tuple hq
    obtain ⟨u, hu, ru⟩ := rv.get hx
    have hel : e < s.heap.objs.size := Heap.lt_size he
    have hil : it < s.heap.objs.size := by obtain ⟨_, q, _⟩ := hit; exact Heap.lt_size q
    have hlt : i < its.toArray.size := by
      have := (List.getElem?_eq_some_iff.mp hu).1
      simpa using this
    refine wpAny_pyNext_enum_itemD (Draws.tuple (A := X.A.in1) (show X.A.in1.handled = none from I.ok.hd hc) it a hai its.toArray) he ⟨hit, (show s.heap.IsTuple a its.toArray from p)⟩ hlt hne (by simp [hne, hea]) fun x' h' tk hx' ho hst hT hsz hk => ?_
    have ex : x' = u := by
      have z : its[i]? = some x' := by simpa using hx'
      rw [hu] at z
      exact (Option.some.inj z).symm
    subst ex
    refine ⟨_, rfl, wpAny_letOwnedTupleGo_enum (s := { s with heap := h', toks := tk + 1 }) ho fun h'' he' sb => ?_⟩
    have hT2 : h''.get? s.heap.objs.size = some { cls := .type "tuple", data := .seq #[.int i tk, x'] } := (sb.2 _ (Nat.ne_of_gt hel)).trans hT
    have new : ObjOk X.prog X.w (upd H s.heap.objs.size (.tup [.int (i : Nat), x])) h'' s.heap.objs.size (.tup [.int (i : Nat), x]) :=
      ⟨by show 2 ≤ sizeLine; decide, [.int i tk, x'], .cons ⟨_, rfl⟩ (.cons ru .nil), ⟨_, hT2, rfl, _, rfl⟩⟩
    have I1 : Inv X pins σ (upd H s.heap.objs.size (.tup [.int (i : Nat), x])) { s with heap := h'', toks := tk + 1 } :=
      I.turnedNew (ch := [e, it]) (fun b ob hb q => (sb.2 b (fun z => hb (by simp [z]))).trans (hk b ob (fun z => hb (by simp [z])) (fun z => hb (by simp [z])) q)) hf (Nat.le_refl _) new
    refine ⟨.ref s.heap.objs.size, _, I1, rfl, ⟨_, x, rfl, I.hok.fresh (Nat.le_refl _), rfl, fun ys hy => by rw [I.tuple_inj hy hq]; exact hx⟩, ⟨⟨x', ?_⟩, hst.1.at fun o q => (sb.2 it (Ne.symm hne)).trans q, hne, hai, hea⟩, fun b hb => ?_⟩
    · have e1 : ((i + 1 : Nat) : Int) = (i : Int) + 1 := by omega
      rw [e1]
      exact he'
    · have hb' : b < s.heap.objs.size := by
        rcases (show b = e ∨ b = it by simpa using hb) with z | z <;> rw [z] <;> assumption
      rw [upd_ne (Nat.ne_of_lt hb')]
      exact (hf b hb).1
  done := by
    intro X hP hw hK hc i pins s σ H E I hf st hg
    subst hP hw hK
    obtain ⟨⟨old, he⟩, hit, hne, hai, hea⟩ := st
    obtain ⟨xs, hq, hx⟩ := hg
    obtain ⟨its, rv, p, hz⟩ := I.tuple hq
    obtain ⟨f0, f1, f2, f3, f4, f5⟩ := hf it (by simp)
    have hl := rv.length
    have D : Draws X.prog X.w X.A.in1 it [it, a] 0 (fun _ _ => False) (fun j h => h.IsTupleIter it a (i + j) ∧ h.IsTuple a its.toArray) := {
      live := fun _ _ st => by
        obtain ⟨⟨o, ho, _⟩, _⟩ := st
        exact ⟨o, ho⟩
      frame := fun _ _ _ st k => ⟨st.1.at fun o q => k it (by simp) o q, st.2.at fun o q => k a (by simp) o q⟩
      item := fun j s Q E hj => absurd hj (Nat.not_lt_zero _)
      done := fun s Q E st h => wpAny_nextOf_tuple_end (show X.A.in1.handled = none from I.ok.hd hc) st.1 st.2 (by simp; omega) h }
    refine wpAny_pyNext_enum_endD D he ⟨hit, (show s.heap.IsTuple a its.toArray from p)⟩ fun h' eb => ⟨rfl, I.turned (t' := s.toks) (fun b o hb q => eb b o hb q) f0 f1 f3 f4 f5⟩
  self := by
    intro A i s Q E st h
    obtain ⟨⟨_, he⟩, _⟩ := st
    exact wpAny_pyIter_enum he h
def iEnT (K : PySem.W.Frag) (ta : TA) : TI := fun σ H R => ta σ H fun vs H1 => ∃ a xs, vs = [.ref a] ∧ SqT K H1 a xs ∧ R (ItEnT K a) H1
theorem pi_enT {X : Cx} {e : Expr} {ta : TA} {p pos tpos : Pos} {elts : List Expr} {kk : Nat} (isg : Gl X "enumerate") (free : X.mg "enumerate" = none) (args : PA X [e] ta) (one : starEach [e] X.env = [(false, eval e X.env)] := by rfl) :
    PI X (.Tuple elts kk tpos) (.Call (.Name "enumerate" p) [e] [] pos) (iEnT X.K ta) := by
  constructor
  intro pins s σ H R I h
  refine Call_ (ld_blt I isg free boot_enumerate (PyProof.Rows.callWith_type1 (thn (args.run pos pins s σ H _ I h) ?_) one rfl))
  rintro us s1 ⟨vs, H1, I1, r1, a, xs, rfl, hq, q⟩
  obtain ⟨u, rfl, ru⟩ := vals1 r1
  cases ru
  obtain ⟨its, rv, p', hz⟩ := I1.tuple hq
  have hT : s1.heap.IsTuple a its.toArray := p'
  have al : a < s1.heap.objs.size := by obtain ⟨o, q, _⟩ := hT; exact Heap.lt_size q
  refine enum1_begins (begins_tuple a its.toArray) hT fun h' he hit hsz hk => wpAny_pyIter_enum he ?_
  have I2 : Inv X pins σ H1 { s1 with heap := h' } := I1.kept (t' := s1.toks) hk
  refine ⟨s1.heap.objs.size + 1, [s1.heap.objs.size + 1, s1.heap.objs.size], _, _, H1, rfl, I2, turn_enT a (s1.heap.objs.size + 1) s1.heap.objs.size, ⟨⟨.none, he⟩, ⟨_, hit, rfl, rfl⟩, Nat.succ_ne_self _, Nat.ne_of_lt al, Ne.symm (Nat.ne_of_lt (Nat.lt_succ_of_lt al))⟩, ?_, q⟩
  intro b hb
  have hle : s1.heap.objs.size ≤ b := by
    rcases (show b = s1.heap.objs.size + 1 ∨ b = s1.heap.objs.size by simpa using hb) with z | z
    · rw [z]; exact Nat.le_succ _
    · rw [z]; exact Nat.le_refl _
  exact I1.fpOk hle (I1.hok.fresh hle)
theorem walk_enT {K : PySem.W.Frag} {a : Addr} {xs : List V} : Walk (ItEnT K a) xs.length (fun H => SqT K H a xs) (YPair (fun i => some (.int (i : Nat))) (fun i => xs[i]?)) := by
  refine ⟨fun i _ hi q => ⟨xs, xs[i], q, by simp [hi]⟩, fun _ q => ⟨xs, q, Nat.le_refl _⟩, fun i H x H' _ q y => ?_⟩
  obtain ⟨T, z, h1, h2, h3, h4⟩ := y
  exact ⟨T, .int (i : Nat), z, h1, h2, h3, rfl, h4 xs q⟩
end L2
set_option Elab.async false
set_option linter.all false
set_option maxRecDepth 100000
set_option maxHeartbeats 4000000
/-! an empty dict asked for a tuple (0, True, ()), and given it as its first key -/
namespace L2
open PySem PySem.Spec PyProof.Rows
def LineK (H : Hp) (y : V) : Prop := ∃ a b : Addr, y = .ref a ∧ H a = some (.tup [.int 0, .bl true, .ref b]) ∧ H b = some (.tup [])
section
variable {X : Cx} {pins : List (Addr × Obj)} {σ : St} {H : Hp} {s : Shared} {a : Addr} {y v : V} {u r : Value} {A : Around} {E : Value → Shared → Prop}
theorem line_key (I : Inv X pins σ H s) (l : LineK H y) (ry : RelV y u) : ∃ b, u = .ref b ∧ (nestedKind X.prog X.w).is s.heap (.tup [.num 0, .num 1, .tup []]) b := by
  obtain ⟨a, b, rfl, ha, hb⟩ := l
  obtain rfl : u = Value.ref a := ry
  obtain ⟨_, its, r, o, h1, h2, n, h3⟩ := (show ObjOk X.prog X.w H s.heap a (.tup [.int 0, .bl true, .ref b]) from I.hok a _ ha)
  obtain ⟨_, its2, r2, o2, g1, g2, n2, g3⟩ := (show ObjOk X.prog X.w H s.heap b (.tup []) from I.hok b _ hb)
  cases r with
  | cons r1 r =>
  cases r with
  | cons rb r =>
  cases r with
  | cons rt r =>
  cases r
  cases r2
  obtain ⟨t, e1⟩ := r1
  subst e1
  cases rb
  cases rt
  refine ⟨a, rfl, ?_, by simp [NestedKey.depth, NestedKey.depthAll]⟩
  refine NestedIs.tup h1 h2 h3 (.cons (.int _ _) (.cons (.bool rfl) (.cons (.tup g1 g2 g3 .nil) .nil)))
theorem keyed_empty (I : Inv X pins σ H s) (e : H a = some (.dK [])) : s.heap.DictKeyed (nestedKind X.prog X.w) a [] ∧ (a == sysModules) = false := by
  obtain ⟨z, hd, vs, rel, o, es, ep, h1, h2, h3, h4, h5, h6⟩ := dk_of I.hok e
  cases rel
  have he : es.toList = [] := by
    generalize es.toList = l at h5
    cases h5
    rfl
  exact ⟨⟨[], ⟨o, es, ep, h1, h2, h3, by rw [he]; rfl, ⟨(fun x hx => by cases hx), List.nodup_nil⟩⟩, rfl⟩, hd⟩
end
def tDGetE (td ty : TE) : TE := fun σ H Q => td σ H fun x H1 => ∃ a, x = .ref a ∧ H1 a = some (.dK []) ∧ ty σ H1 fun y H2 => H2 a = some (.dK []) ∧ LineK H2 y ∧ Q .non H2
def sDPutE (td ty tv : TE) : TS := fun D σ H => tv σ H fun _ H1 => td σ H1 fun x H2 => ty σ H2 fun y H3 => ∃ a, x = .ref a ∧ H3 a = some (.dK []) ∧ LineK H3 y ∧ D.nx σ (upd H3 a (.own a))
section
variable {X : Cx} {o e i value : Expr} {apos cpos pos pos' : Pos} {td ty tv : TE}
theorem pe_dgetE (hu : X.A.units + 9 < cLine) (ho : PE X o td) (he : PE X e ty) (m : M1 X o "get" apos e cpos) : PE X (.Call (.Attribute o "get" apos) [e] [] cpos) (tDGetE td ty) := by
  refine ⟨fun pins s σ H Q I h => ?_⟩
  refine wpAny_Call_method m.base m.few m.line PySem.F.plainAttrs_dict PySem.F.slot_dict_get PySem.F.type_dict_get (thn (ho.run pins s σ H _ I h) fun u s1 ⟨x, H1, I1, rx, a, ex, d, q1⟩ => ?_)
  subst ex
  obtain rfl : u = Value.ref a := rx
  obtain ⟨t1, t2, _⟩ := isD_at I1 (.inl ⟨[], .inl d⟩)
  refine ⟨t1, t2, ?_⟩
  rw [m.trees]
  refine Calls.callWith_builtin rfl (Calls.evalArgs_plain (Calls.spliced_cons (thn (he.run pins s1 σ H1 _ I1 q1) fun iv s2 ⟨y, H2, I2, ry, d2, l, q2⟩ => Calls.spliced_nil ?_)))
  obtain ⟨b, rfl, hk⟩ := line_key I2 l ry
  obtain ⟨hm, hd⟩ := keyed_empty I2 d2
  exact get_keyed (by show X.A.units + 1 + 8 < cLine; omega) hk hd hm ⟨.non, H2, I2.tok _, rfl, q2⟩
theorem ps_dputE (hu : X.A.units + 9 < cLine) (ho : PE X o td) (hi : PE X i ty) (hv : PE X value tv) (hs : swapsWith value (some (.Subscript o i pos')) pos.line X.env = pure false) :
    PS X (.Assign [.Subscript o i pos'] value pos) (sDPutE td ty tv) := by
  refine ⟨fun pins s σ H D I h => ?_⟩
  refine wpAny_Assign_Subscript (thn (hv.run pins s σ H _ I h) fun r s1 ⟨v, H1, I1, rv, q1⟩ => thn (ho.run pins s1 σ H1 _ I1 q1) fun u s2 ⟨x, H2, I2, rx, q2⟩ => thn (hi.run pins s2 σ H2 _ I2 q2) fun iv s3 ⟨y, H3, I3, ry, a, ex, d3, l, q3⟩ => ?_) hs
  subst ex
  obtain rfl : u = Value.ref a := rx
  obtain ⟨b, rfl, hk⟩ := line_key I3 l ry
  obtain ⟨hm, hd⟩ := keyed_empty I3 d3
  refine setItem_keyed (hsz := by decide) (by show X.A.units + 1 + 8 < cLine; omega) hk hm fun h' hm' hs' => ?_
  obtain ⟨xs, ⟨q, es, ep, hq, _⟩, _⟩ := hm'
  exact ⟨σ, _, d_write I3 (by rw [d3]; exact True.intro) hs' ⟨q, hq⟩ (ob := .own a) (show ObjOk X.prog X.w _ h' a (.own a) from ⟨q, hq⟩), q3⟩
end
end L2
set_option Elab.async false
set_option linter.all false
set_option maxRecDepth 100000
set_option maxHeartbeats 4000000
/-! a function of no arguments that a name holds: called anywhere below -/
namespace L2
open PySem PySem.Spec PyProof.Rows
/-- at f stands a function -/
def FnObj (H : Hp) (f : Addr) : Prop := ∃ φ : Heap → Prop, H f = some (.ext φ) ∧ ∀ h : Heap, φ h → ∃ oc od fd osl, h.get? f = some ⟨oc, od, .func fd, osl⟩
theorem FnObj.same {H H' : Hp} {f : Addr} (o : FnObj H f) (s : ∀ b u, H b = some u → H' b = some u) : FnObj H' f := by
  obtain ⟨φ, h1, h2⟩ := o
  exact ⟨φ, s _ _ h1, h2⟩
/-- f(), wherever it is called: what act asks of the heap, of what comes and of what is raised -/
def LamP (P : Program) (w : World) (K : PySem.W.Frag) (mg : Str → Option Value) (base : Heap) (k : Nat) (f : Addr) (R : Hp → Prop) (act : Hp → VK → XK → Prop) : Prop :=
  ∀ (A : Around) (outer : List Env) (st : Shared) (H : Hp) (Q : VK) (E : XK), Room k A → A.guards = some [] → Env0 P w K mg base A outer st H → R H → act H Q E → codeAny (model P w) A (.call (.ref f) ⟨[], []⟩) (CR (L2.CX P w) outer P w H st Q E) st
/-- x(), x a name that holds such a function -/
def tCallV (P : Program) (w : World) (K : PySem.W.Frag) (mg : Str → Option Value) (base : Heap) (k i : Nat) (E : XK) : TE := fun σ H Q => ∃ (f : Addr) (R : Hp → Prop) (act : Hp → VK → XK → Prop), σ[i]? = some (some (.ref f)) ∧ FnObj H f ∧ R H ∧ LamP P w K mg base k f R act ∧ act H Q E
section
variable {X : Cx} {k i : Nat} {E : XK} {x : Str} {p pos : Pos}
theorem pe_callV (free : X.A.guards = some []) (hr : Room k X.A) (out : Passes (L2.CX X.prog X.w) X E) (hN : X.N[i]? = some x) (hv : Vis X.env.scope x) (hd : (x == ("__debug__" : Str)) = false := by decide) (hcd : (x == ("__classdict__" : Str)) = false := by decide) :
    PE X (.Call (.Name x p) [] [] pos) (tCallV X.prog X.w X.K X.mg X.base k i E) := by
  refine ⟨fun pins s σ H Q I h => ?_⟩
  obtain ⟨f, R, act, hs, fo, hR, lp, goal⟩ := h
  refine wpAny_Call_Name_kw (thn ((pe_var (pos := p) (i := i) hN hv hd hcd).run pins s σ H (fun v H1 => v = .ref f ∧ H1 = H) I ⟨.ref f, hs, rfl, rfl⟩) fun u s1 ⟨v, H1, I1, r1, q1⟩ => ?_)
  obtain ⟨ev, eH⟩ := q1
  subst ev
  rw [eH] at I1
  obtain rfl : u = Value.ref f := r1
  obtain ⟨φ, hf, hφ⟩ := fo
  obtain ⟨h1, _, _⟩ := (show ObjOk X.prog X.w H s1.heap f (.ext φ) from I1.hok f _ hf)
  obtain ⟨oc, od, fd, osl, ho⟩ := hφ _ h1
  refine PySem.W.callWith_F0 ⟨_, _, _, _, ho⟩ ?_
  refine wpAny_call (codeAny_mono (lp X.A X.stack s1 H Q E hr free I1.env0 hR goal) fun r s2 hq => ?_)
  match r, hq with
  | .error e, hq => exact out pins σ H s1 e s2 I1 hq
  | .ok (.ret u), hq => exact I1.after hq
/-- the same in a try: the wish about what is raised, with the frame's values -/
def tCallVW (P : Program) (w : World) (K : PySem.W.Frag) (mg : Str → Option Value) (base : Heap) (k i : Nat) (W : WX) : TE := fun σ H Q => ∃ (f : Addr) (R : Hp → Prop) (act : Hp → VK → XK → Prop) (E : XK), σ[i]? = some (some (.ref f)) ∧ FnObj H f ∧ R H ∧ LamP P w K mg base k f R act ∧ (∀ cls d H', E cls d H' → W cls d σ H') ∧ act H Q E
theorem pe_callVW {W : WX} (free : X.A.guards = some []) (hr : Room k X.A) (tk : Takes X W) (hN : X.N[i]? = some x) (hv : Vis X.env.scope x) (hd : (x == ("__debug__" : Str)) = false := by decide) (hcd : (x == ("__classdict__" : Str)) = false := by decide) :
    PE X (.Call (.Name x p) [] [] pos) (tCallVW X.prog X.w X.K X.mg X.base k i W) := by
  refine ⟨fun pins s σ H Q I h => ?_⟩
  obtain ⟨f, R, act, E, hs, fo, hR, lp, hW, goal⟩ := h
  refine wpAny_Call_Name_kw (thn ((pe_var (pos := p) (i := i) hN hv hd hcd).run pins s σ H (fun v H1 => v = .ref f ∧ H1 = H) I ⟨.ref f, hs, rfl, rfl⟩) fun u s1 ⟨v, H1, I1, r1, q1⟩ => ?_)
  obtain ⟨ev, eH⟩ := q1
  subst ev
  rw [eH] at I1
  obtain rfl : u = Value.ref f := r1
  obtain ⟨φ, hf, hφ⟩ := fo
  obtain ⟨h1, _, _⟩ := (show ObjOk X.prog X.w H s1.heap f (.ext φ) from I1.hok f _ hf)
  obtain ⟨oc, od, fd, osl, ho⟩ := hφ _ h1
  refine PySem.W.callWith_F0 ⟨_, _, _, _, ho⟩ ?_
  refine wpAny_call (codeAny_mono (lp X.A X.stack s1 H Q E hr free I1.env0 hR goal) fun r s2 hq => ?_)
  match r, hq with
  | .error e, hq => exact tk e s2 (XE.of_call I1 (fun cls d H' h => hW cls d H' h) hq)
  | .ok (.ret u), hq => exact I1.after hq
end
end L2
set_option Elab.async false
set_option linter.all false
set_option maxRecDepth 100000
set_option maxHeartbeats 4000000
/-! isinstance of a caught error that has a dict of its own -/
namespace L2
open PySem PySem.Spec PyProof.Rows
/-- isinstance(e, c), e the error that the suite holds (at a; its dict d) -/
def rIsO (K : PySem.W.Frag) (cls : Value) (C a : Addr) (d : Option Addr) : List V → Hp → VK → Prop := fun xs H Q => ∃ (c : V) (cv : Value) (b : Bool) (dd : Addr) (fs : List (Str × V)), xs = [.ref a, c] ∧ cls = .ref C ∧ (∀ u, RelV c u → u = cv) ∧ PySem.W.kitOne K (.ref C) cv = some b ∧ d = some dd ∧ H dd = some (.xd fs) ∧ Q (.bl b) H
theorem call_isO {X : Cx} {a C : Addr} {cls : Value} {d : Option Addr} {oe : Obj} {pn : List (Addr × Obj)} (EC : ExcC X.K C) (hz : Zc cls d oe) (hf : ∃ vs, oe.data = .fields vs) : CallR (X.suite a ((a, oe) :: pn)) (.builtin "isinstance") (rIsO X.K cls C a d) := by
  intro pins s σ H xs us Q I r h
  obtain ⟨c, cv, b, dd, fs, rfl, ec, hcv, e, ed, hx, q⟩ := h
  subst ec
  subst ed
  cases r with
  | cons rx rr =>
    cases rr with
    | cons rt rr =>
      cases rr
      cases rx
      have ec2 := hcv _ rt
      subst ec2
      obtain ⟨hget, _⟩ := I.pin (a, oe) (List.mem_append.mpr (.inl List.mem_cons_self))
      obtain ⟨vs, hv⟩ := hf
      obtain ⟨mA, hns, _⟩ := (show ObjOk X.prog X.w H s.heap dd (.xd fs) from I.hok dd _ hx)
      obtain ⟨od, ho, _⟩ := lookIn_ns hns
      have J : PySem.W.InstAt s.heap a oe C (some od) := ⟨hget, hz.1, by unfold PySem.W.notCls; rw [hv] <;> rfl, by rw [hz.2]; exact ho⟩
      have hcl : (PySem.W.clsIn X.K C).isSome = true := by
        obtain ⟨cd, hc, _⟩ := PySem.W.any_some EC.hd
        rw [hc]
        rfl
      exact PySem.W.kia_one (PySem.W.kitx_exc hcl EC.hg EC.hk EC.hs EC.ha EC.hn EC.ht EC.hm) I.kIn J e (fun z => nomatch z) fun tk => ⟨.bl b, H, I.kept (t' := tk) fun _ _ z => z, rfl, q⟩
end L2
set_option Elab.async false
set_option linter.all false
set_option maxRecDepth 100000
set_option maxHeartbeats 4000000
namespace Hk
open PySem PySem.Spec PyProof.Rows L2
def top (i : Nat) : Stmt := PySem.Challenge.pw_heirlines_k58_deals.main.body.getD i (.Pass ⟨0, 0, 0, 0⟩)
/-- the built-in names stand as at the boot -/
structure Txt (K : PySem.W.Frag) (mg : Str → Option Value) : Prop where
  b_int : mg "int" = none
  b_len : mg "len" = none
  b_range : mg "range" = none
  b_enumerate : mg "enumerate" = none
  b_isinstance : mg "isinstance" = none
  b_all : mg "all" = none
  b_sum : mg "sum" = none
  b_repr : mg "repr" = none
  b_tuple : mg "tuple" = none
  b_list : mg "list" = none
  b_str : mg "str" = none
  b_bool : mg "bool" = none
/-- all but what stands at a and b is kept -/
def Kp (a b : Addr) (H H' : Hp) : Prop := ∀ x o, H x = some o → x ≠ a → x ≠ b → H' x = some o
theorem Kp.refl {a b : Addr} {H : Hp} : Kp a b H H := fun _ _ h _ _ => h
theorem Kp.trans {a b : Addr} {H H1 H2 : Hp} (k : Kp a b H H1) (l : Kp a b H1 H2) : Kp a b H H2 := fun x o h h1 h2 => l x o (k x o h h1 h2) h1 h2
theorem Kp.of {a b : Addr} {H H' : Hp} (k : Same H H') : Kp a b H H' := fun x o h _ _ => k x o h
theorem Kp.free {a b p : Addr} {H H' : Hp} (k : Kp a b H H') (na : p ≠ a) (nb : p ≠ b) (h : H' p = none) : H p = none := by
  cases q : H p with
  | none => rfl
  | some o => rw [k p o q na nb] at h; cases h
theorem same_new {H H' : Hp} {p : Addr} {o : HO} (s : Same H H') (h : H' p = none) : Same H (upd H' p o) := fun b u q => by
  rw [upd_ne (ne_of_none (s b u q) h)]
  exact s b u q
theorem same_upd {H : Hp} {p : Addr} {o : HO} (h : H p = none) : Same H (upd H p o) := same_new (Same.refl H) h
mutual
/-- the value is these data; lists among them don't stand at m and g -/
inductive Dt (H : Hp) (m g : Addr) : V → PyData → Prop
  | non : Dt H m g .non .none
  | bl (b : Bool) : Dt H m g (.bl b) (.bool b)
  | int (i : Int) : Dt H m g (.int i) (.int i)
  | str (x : Str) : Dt H m g (.str x) (.str x)
  | lst {a : Addr} {xs : List V} {ds : List PyData} : H a = some (.lst xs) → a ≠ m → a ≠ g → DtA H m g xs ds → Dt H m g (.ref a) (.list ds)
  | tup {a : Addr} {xs : List V} {ds : List PyData} : H a = some (.tup xs) → a ≠ m → a ≠ g → DtA H m g xs ds → Dt H m g (.ref a) (.tuple ds)
inductive DtA (H : Hp) (m g : Addr) : List V → List PyData → Prop
  | nil : DtA H m g [] []
  | cons {v : V} {vs : List V} {d : PyData} {ds : List PyData} : Dt H m g v d → DtA H m g vs ds → DtA H m g (v :: vs) (d :: ds)
end
section
variable {H H' : Hp} {m g : Addr} {v : V} {d : PyData} {vs : List V} {ds : List PyData}
mutual
theorem Dt.keep (k : Kp m g H H') : ∀ {v : V} {d : PyData}, Dt H m g v d → Dt H' m g v d
  | _, _, .non => .non
  | _, _, .bl b => .bl b
  | _, _, .int i => .int i
  | _, _, .str x => .str x
  | _, _, .lst h h1 h2 a => .lst (k _ _ h h1 h2) h1 h2 (DtA.keep k a)
  | _, _, .tup h h1 h2 a => .tup (k _ _ h h1 h2) h1 h2 (DtA.keep k a)
theorem DtA.keep (k : Kp m g H H') : ∀ {vs : List V} {ds : List PyData}, DtA H m g vs ds → DtA H' m g vs ds
  | _, _, .nil => .nil
  | _, _, .cons h t => .cons (Dt.keep k h) (DtA.keep k t)
end
mutual
theorem Dt.dp {K : PySem.W.Frag} : ∀ {v : V} {d : PyData}, Dt H m g v d → Dp K H v d
  | _, _, .non => .non
  | _, _, .bl b => .bl b
  | _, _, .int i => .int i
  | _, _, .str x => .str x
  | _, _, .lst h _ _ a => .lst (SqL.of h) (DtA.dp a)
  | _, _, .tup h _ _ a => .tup (SqT.of h) (DtA.dp a)
theorem DtA.dp {K : PySem.W.Frag} : ∀ {vs : List V} {ds : List PyData}, DtA H m g vs ds → DpAll K H vs ds
  | _, _, .nil => .nil
  | _, _, .cons h t => .cons (Dt.dp h) (DtA.dp t)
end
theorem DtA.len : ∀ {vs : List V} {ds : List PyData}, DtA H m g vs ds → vs.length = ds.length
  | _, _, .nil => rfl
  | _, _, .cons _ t => by simp [DtA.len t]
theorem DtA.at : ∀ {vs : List V} {ds : List PyData} {i : Nat} {d : PyData}, DtA H m g vs ds → ds[i]? = some d → ∃ v, vs[i]? = some v ∧ Dt H m g v d
  | _, _, _, _, .nil, e => by simp at e
  | _, _, 0, _, .cons h _, e => by simp at e; subst e; exact ⟨_, rfl, h⟩
  | _, _, i + 1, _, .cons _ t, e => by
    obtain ⟨v, a, b⟩ := DtA.at (i := i) t (by simpa using e)
    exact ⟨v, by simpa using a, b⟩
theorem DtA.at' : ∀ {vs : List V} {ds : List PyData} {i : Nat} {v : V}, DtA H m g vs ds → vs[i]? = some v → ∃ d, ds[i]? = some d ∧ Dt H m g v d
  | _, _, _, _, .nil, e => by simp at e
  | _, _, 0, _, .cons h _, e => by simp at e; subst e; exact ⟨_, rfl, h⟩
  | _, _, i + 1, _, .cons _ t, e => by
    obtain ⟨v, a, b⟩ := DtA.at' (i := i) t (by simpa using e)
    exact ⟨v, by simpa using a, b⟩
theorem Dt.same (k : Same H H') (h : Dt H m g v d) : Dt H' m g v d := h.keep (Kp.of k)
theorem DtA.same (k : Same H H') (h : DtA H m g vs ds) : DtA H' m g vs ds := h.keep (Kp.of k)
end
/-! ### types -/
def tyN : PyData → String
  | .none => "NoneType"
  | .bool _ => "bool"
  | .int _ => "int"
  | .str _ => "str"
  | .list _ => "list"
  | .tuple _ => "tuple"
  | .dict _ => "dict"
theorem Dt.ty {K : PySem.W.Frag} {H : Hp} {m g : Addr} {v : V} {d : PyData} (h : Dt H m g v d) : TyX K H v (.type (tyN d)) := by
  cases h with
  | non => exact .base .non
  | bl b => exact .base (.bl b)
  | int i => exact .base (.int i)
  | str x => exact .base (.str x)
  | lst h _ _ _ => exact .base (.lst h)
  | tup h _ _ _ => exact .base (.tup h)
def isI : PyData → Bool
  | .int _ | .bool _ => true
  | _ => false
def isB : PyData → Bool
  | .bool _ => true
  | _ => false
def isT : PyData → Bool
  | .tuple _ => true
  | _ => false
def isS : PyData → Bool
  | .str _ => true
  | _ => false
theorem kit_I {K : PySem.W.Frag} {H : Hp} {m g : Addr} {v : V} {d : PyData} (h : Dt H m g v d) : PySem.W.kitOne K (.type (tyN d)) (.type "int") = some (isI d) := by
  cases h <;> exact kit_ty (by simp only [tyN, isI]; decide +kernel)
theorem kit_B {K : PySem.W.Frag} {H : Hp} {m g : Addr} {v : V} {d : PyData} (h : Dt H m g v d) : PySem.W.kitOne K (.type (tyN d)) (.type "bool") = some (isB d) := by
  cases h <;> exact kit_ty (by simp only [tyN, isB]; decide +kernel)
theorem kit_T {K : PySem.W.Frag} {H : Hp} {m g : Addr} {v : V} {d : PyData} (h : Dt H m g v d) : PySem.W.kitOne K (.type (tyN d)) (.type "tuple") = some (isT d) := by
  cases h <;> exact kit_ty (by simp only [tyN, isT]; decide +kernel)
theorem kit_S {K : PySem.W.Frag} {H : Hp} {m g : Addr} {v : V} {d : PyData} (h : Dt H m g v d) : PySem.W.kitOne K (.type (tyN d)) (.type "str") = some (isS d) := by
  cases h <;> exact kit_ty (by simp only [tyN, isS]; decide +kernel)
/-- x is True, x is False, x any of these data -/
def isTF (b : Bool) : PyData → Bool
  | .bool c => decide (c = b)
  | _ => false
def rIsTF : R2 := fun x y H Q => ∃ (d : PyData) (m g : Addr) (b : Bool), Dt H m g x d ∧ y = .bl b ∧ Q (.bl (isTF b d)) H
theorem op_isTF {X : Cx} : OpR X (compareOp .Is) rIsTF := by
  intro pins s σ H x y v u Q I rx ry h
  obtain ⟨d, m, g, b, dt, rfl, q⟩ := h
  cases (show u = Value.bool b from ry)
  cases dt with
  | bl c =>
    cases (show v = Value.bool c from rx)
    by_cases e : c = b
    · subst e
      exact wpAny_is_self rfl ⟨.bl true, H, I, rfl, by simpa [isTF] using q⟩
    · exact wpAny_is_other rfl (fun z => e (Value.bool.inj z)) ⟨.bl false, H, I, rfl, by simpa [e, isTF] using q⟩
  | non =>
    cases (show v = Value.none from rx)
    exact wpAny_is_other rfl (fun z => nomatch z) ⟨.bl false, H, I, rfl, q⟩
  | int i =>
    obtain ⟨t, rfl⟩ := (show ∃ t, v = Value.int i t from rx)
    exact wpAny_is_other rfl (fun z => nomatch z) ⟨.bl false, H, I, rfl, q⟩
  | str i =>
    obtain ⟨t, rfl⟩ := (show ∃ t, v = Value.str i t from rx)
    exact wpAny_is_other rfl (fun z => nomatch z) ⟨.bl false, H, I, rfl, q⟩
  | lst _ _ _ _ =>
    cases rx
    exact wpAny_is_other rfl (fun z => nomatch z) ⟨.bl false, H, I, rfl, q⟩
  | tup _ _ _ _ =>
    cases rx
    exact wpAny_is_other rfl (fun z => nomatch z) ⟨.bl false, H, I, rfl, q⟩
end Hk
set_option Elab.async false
set_option linter.all false
set_option maxRecDepth 100000
set_option maxHeartbeats 4000000
namespace Hk
open PySem PySem.Spec PyProof.Rows L2
/-! ### what is asked of data -/
def isWh : PyData → Bool
  | .int _ => true
  | _ => false
def isBt (lo hi : Int) : PyData → Bool
  | .int i => decide (lo ≤ i) && decide (i ≤ hi)
  | _ => false
/-- a def that asks something of one thing -/
def spD1 (f : PyData → Bool) : Sp := fun vs H Q _ => ∃ (v : V) (d : PyData) (m g : Addr), vs = [v] ∧ Dt H m g v d ∧ ∀ H', Same H H' → Q (.bl (f d)) H'
def spD1I (f : Int → Int → PyData → Bool) : Sp := fun vs H Q _ => ∃ (v : V) (d : PyData) (m g : Addr) (lo hi : Int), vs = [v, .int lo, .int hi] ∧ Dt H m g v d ∧ ∀ H', Same H H' → Q (.bl (f lo hi d)) H'
section
variable {P : Program} {w : World} {K : PySem.W.Frag} {mg : Str → Option Value} {base : Heap}
abbrev s_is_whole : Stmt := top 6
theorem sc_is_whole : FnScope ["value"] ["value"] (defScope s_is_whole) := ⟨rfl, rfl, rfl, by decide +kernel, rfl, by decide +kernel, by decide +kernel⟩
theorem ok_is_whole (T : Txt K mg) (at_ : At K mg "is_whole" s_is_whole ["value"]) : Kn P w K mg base 1 "is_whole" ["value"] (spD1 isWh) := by
  refine Kn.mkN (st := s_is_whole) (N := ["value"]) at_ sc_is_whole (fun vs H Q E h => ?_) (fun f cdv A outer s H vs Q E hr free h => ?_)
  · obtain ⟨v, d, m, g, rfl, _⟩ := h
    rfl
  · obtain ⟨v, d, m, g, rfl, dt, k⟩ := h
    refine ⟨_, (pss_one (ps_ret (pe_and (pe_callB (id := "isinstance") (show CallR _ (.builtin "isinstance") (rIsi K) from call_isi) (by rfl) T.b_isinstance (by decide +kernel) (pa_cons (pv 0) (pa_cons (pe_bltn (v := .ty "int") (by rfl) T.b_int (by decide +kernel) rfl) pa_nil))) (pe_one (pe_not (pe_callB (id := "isinstance") (show CallR _ (.builtin "isinstance") (rIsi K) from call_isi) (by rfl) T.b_isinstance (by decide +kernel) (pa_cons (pv 0) (pa_cons (pe_bltn (v := .ty "bool") (by rfl) T.b_bool (by decide +kernel) rfl) pa_nil)))))))), ?_⟩
    refine ⟨_, rfl, v, .ty "int", .type (tyN d), .type "int", isI d, rfl, .ty _, dt.ty, kit_I dt, _, rfl, ?_⟩
    have k' := k H (Same.refl H)
    cases hI : isI d with
    | false =>
      refine iteF ?_
      have e : isWh d = false := by cases d <;> simp_all [isI, isWh]
      rw [e] at k'
      exact k'
    | true =>
      refine iteT ⟨_, rfl, v, .ty "bool", .type (tyN d), .type "bool", isB d, rfl, .ty _, dt.ty, kit_B dt, _, rfl, ?_⟩
      have e : isWh d = !(isB d) := by cases d <;> simp_all [isI, isB, isWh]
      rw [e] at k'
      exact k'
abbrev s_is_truth : Stmt := top 7
theorem sc_is_truth : FnScope ["value"] ["value"] (defScope s_is_truth) := ⟨rfl, rfl, rfl, by decide +kernel, rfl, by decide +kernel, by decide +kernel⟩
theorem ok_is_truth (T : Txt K mg) (at_ : At K mg "is_truth" s_is_truth ["value"]) : Kn P w K mg base 1 "is_truth" ["value"] (spD1 isB) := by
  refine Kn.mkN (st := s_is_truth) (N := ["value"]) at_ sc_is_truth (fun vs H Q E h => ?_) (fun f cdv A outer s H vs Q E hr free h => ?_)
  · obtain ⟨v, d, m, g, rfl, _⟩ := h
    rfl
  · obtain ⟨v, d, m, g, rfl, dt, k⟩ := h
    refine ⟨_, (pss_one (ps_ret (pe_or (pe_cmpR op_isTF (pv 0) pe_bl (nomark _)) (pe_one (pe_cmpR op_isTF (pv 0) pe_bl (nomark _)))))), ?_⟩
    refine ⟨_, rfl, d, m, g, true, dt, rfl, _, rfl, ?_⟩
    have k' := k H (Same.refl H)
    cases h1 : isTF true d with
    | true =>
      have e : isB d = true := by cases d <;> simp_all [isB, isTF]
      rw [e] at k'
      exact iteT k'
    | false =>
      refine iteF ⟨_, rfl, d, m, g, false, dt, rfl, ?_⟩
      have e : isB d = isTF false d := by cases d <;> simp_all [isB, isTF]
      rw [e] at k'
      exact k'
abbrev s_is_between : Stmt := top 8
theorem sc_is_between : FnScope ["value", "low", "high"] ["value", "low", "high"] (defScope s_is_between) := ⟨rfl, rfl, rfl, by decide +kernel, rfl, by decide +kernel, by decide +kernel⟩
theorem ok_is_between (T : Txt K mg) (k_is_whole : Kn P w K mg base 1 "is_whole" ["value"] (spD1 isWh)) (at_ : At K mg "is_between" s_is_between ["value", "low", "high"]) : Kn P w K mg base 2 "is_between" ["value", "low", "high"] (spD1I isBt) := by
  refine Kn.mkN (st := s_is_between) (N := ["value", "low", "high"]) at_ sc_is_between (fun vs H Q E h => ?_) (fun f cdv A outer s H vs Q E hr free h => ?_)
  · obtain ⟨v, d, m, g, lo, hi, rfl, _⟩ := h
    rfl
  · obtain ⟨v, d, m, g, lo, hi, rfl, dt, k⟩ := h
    refine ⟨_, (pss_one (ps_ret (pe_and (pe_callN k_is_whole free (hr.mono (by decide)) rfl passL (pa_cons (pv 0) pa_nil)) (pe_one (pe_chain op_le op_le (pv 1) (pv 0) (pv 2)))))), ?_⟩
    refine ⟨_, rfl, v, d, m, g, rfl, dt, fun H1 s1 => ⟨_, rfl, ?_⟩⟩
    have k' := k H1 s1
    cases hW : isWh d with
    | false =>
      refine iteF ?_
      have e : isBt lo hi d = false := by cases d <;> simp_all [isWh, isBt]
      rw [e] at k'
      exact k'
    | true =>
      obtain ⟨i, rfl⟩ : ∃ i, d = .int i := by cases d <;> simp_all [isWh]
      cases dt
      refine iteT ⟨_, rfl, _, rfl, _, _, rfl, rfl, _, rfl, ?_⟩
      have e : isBt lo hi (.int i) = (decide (lo ≤ i) && decide (i ≤ hi)) := rfl
      rw [e] at k'
      by_cases c : lo ≤ i
      · rw [decide_eq_true c] at k' ⊢
        exact iteT ⟨_, rfl, _, _, rfl, rfl, k'⟩
      · rw [decide_eq_false c] at k' ⊢
        exact iteF k'
end
end Hk
set_option Elab.async false
set_option linter.all false
set_option maxRecDepth 100000
set_option maxHeartbeats 4000000
namespace Hk
open PySem PySem.Spec PyProof.Rows L2
/-- a comprehension over a tuple whose step leaves all as it was -/
theorem lc_map {K : PySem.W.Frag} {a D : Addr} {xs : List V} {g : TG} {te : TE} {own : List Nat} {σ : L2.St} {H1 : Hp} {Qd : Hp → Prop} (f : Nat → V) (hx : H1 a = some (.tup xs)) (nD : H1 D = none) (small : xs.length < sizeLine)
    (step : ∀ i x H (Q' : VK), xs[i]? = some x → Same H1 H → (∀ H4, Same H H4 → Q' (f i) H4) → g x (wipe σ own) H fun σ2 H2 => wipe σ2 own = wipe σ own ∧ te σ2 H2 Q')
    (hd : ∀ H, Same H1 H → H D = some (.lst ((List.range xs.length).map f)) → Qd H) :
    ∃ W : Nat → Nat → Hp → Prop, (∃ m, W 0 m (upd H1 D (.lst []))) ∧ ∀ i m H, W i m H →
      ((Itt K a).stop i H ∧ Qd H) ∨ ((Itt K a).go i H ∧ ∃ Nx : Hp → Prop, (∀ H', Nx H' → ∃ m', m' < m ∧ W (i + 1) m' H') ∧ ∀ x H', (Itt K a).yld i H x H' → g x (wipe σ own) H' fun σ2 H2 => wipe σ2 own = wipe σ own ∧ tYes σ2 H2 fun b H3 =>
        if b = true then te σ2 H3 fun y H4 => ∃ acc, H4 D = some (.lst acc) ∧ acc.length < sizeLine ∧ Nx (upd H4 D (.lst (acc ++ [y]))) else Nx H3) := by
  refine lc_it (walk_tup (xs := xs)) (fun i H => Same H1 H ∧ H D = some (.lst ((List.range i).map f))) ⟨same_upd nD, upd_same⟩ (fun i H _ p => SqT.of (p.1 _ _ hx)) ?_ (fun H p => hd H p.1 p.2)
  rintro i x H H' hi ⟨s1, e1⟩ ⟨rfl, hxi⟩
  have z := step i x H' (fun y H4 => ∃ acc, H4 D = some (.lst acc) ∧ acc.length < sizeLine ∧ Same H1 (upd H4 D (.lst (acc ++ [y]))) ∧ upd H4 D (.lst (acc ++ [y])) D = some (.lst ((List.range (i + 1)).map f))) hxi s1 (fun H4 s4 => ?_)
  · exact z
  · refine ⟨_, s4 _ _ e1, by rw [List.length_map, List.length_range]; omega, fun b o q => ?_, ?_⟩
    · rw [upd_ne (ne_of_none q nD)]
      exact s4 _ _ (s1 _ _ q)
    · rw [upd_same, List.range_succ, List.map_append]
      rfl
/-- a row of truths that a comprehension made -/
theorem all_range {p : Nat → Bool} {n : Nat} : ((List.range n).map p).all id = true ↔ ∀ i, i < n → p i = true := by
  simp
def isTRow : PyData → Bool
  | .tuple ds => decide (1 ≤ ds.length) && decide (ds.length ≤ 8) && ds.all isB
  | _ => false
theorem small_of {n k : Nat} (h : n ≤ k) (hk : k < 1000) : n < sizeLine := small1000 (by omega)
theorem range_all {ds : List PyData} {p : PyData → Bool} : ((List.range ds.length).map fun i => ((ds[i]?).map p).getD false).all id = ds.all p := by
  rw [Bool.eq_iff_iff]
  simp only [List.all_eq_true, List.mem_map, List.mem_range, id]
  constructor
  · intro h x hx
    obtain ⟨i, hi, e⟩ := List.mem_iff_getElem.mp hx
    have z := h _ ⟨i, hi, rfl⟩
    rw [List.getElem?_eq_getElem hi, e] at z
    simpa using z
  · rintro h x ⟨i, hi, rfl⟩
    rw [List.getElem?_eq_getElem hi]
    simpa using h _ (List.getElem_mem hi)
end Hk
set_option Elab.async false
set_option linter.all false
set_option maxRecDepth 100000
set_option maxHeartbeats 4000000
namespace Hk
open PySem PySem.Spec PyProof.Rows L2
/-! ### data that == and in may look at -/
abbrev Okd (d : PyData) : Prop := SeqAt.shaped d = true
theorem lay_mem : ∀ {ds : List PyData} {d : PyData}, PyData.canLayAll0 ds = true → d ∈ ds → d.canLay0 = true
  | [], _, _, h => by cases h
  | x :: xs, d, h, hm => by
    simp [PyData.canLayAll0] at h
    rcases List.mem_cons.mp hm with e | e
    · subst e
      exact h.1
    · exact lay_mem h.2 e
theorem depth_mem : ∀ {ds : List PyData} {d : PyData}, d ∈ ds → d.depth ≤ PyData.depthAll ds
  | [], _, h => by cases h
  | x :: xs, d, hm => by
    simp [PyData.depthAll]
    rcases List.mem_cons.mp hm with e | e
    · subst e
      omega
    · have := depth_mem e
      omega
theorem okd_iff {d : PyData} : Okd d ↔ d.canLay0 = true ∧ d.depth ≤ 64 := by
  unfold Okd SeqAt.shaped
  simp
theorem okd_tup {ds : List PyData} {d : PyData} (h : Okd (.tuple ds)) (hm : d ∈ ds) : Okd d := by
  rw [okd_iff] at h ⊢
  simp [PyData.canLay0, PyData.depth] at h
  have := depth_mem hm
  exact ⟨lay_mem h.1 hm, by omega⟩
theorem okd_lst {ds : List PyData} {d : PyData} (h : Okd (.list ds)) (hm : d ∈ ds) : Okd d := by
  rw [okd_iff] at h ⊢
  simp [PyData.canLay0, PyData.depth] at h
  have := depth_mem hm
  exact ⟨lay_mem h.1 hm, by omega⟩
/-- x in t, t a tuple, both any data -/
def rInT (K : PySem.W.Frag) : R2 := fun x y H Q => ∃ d ds, Dp K H x d ∧ Dp K H y (.tuple ds) ∧ Okd d ∧ Okd (.tuple ds) ∧ Q (.bl (ds.any fun z => PyData.eqv z d)) H
theorem op_inT {X : Cx} (hu : X.A.units + 65 < cLine) : OpR X (compareOp .In) (rInT X.K) := by
  intro pins s σ H x y v u Q I rx ry h
  obtain ⟨d, ds, hd, he, sd, se, q⟩ := h
  obtain ⟨as, r1⟩ := Dp.reads I d x v hd rx
  obtain ⟨bs, r2⟩ := Dp.reads I (.tuple ds) y u he ry
  exact SeqAt.in_tuple_reads r2 r1 (SeqAt.canLay_of_shaped se) (SeqAt.canLay_of_shaped sd) (room_in_shaped sd hu) ⟨.bl _, H, I, rfl, q⟩
/-! ### words -/
def inW (ws : List Str) : PyData → Bool
  | .str y => ws.any (· == y)
  | _ => false
theorem inW_any (ws : List Str) (d : PyData) : ((ws.map PyData.str).any fun z => PyData.eqv z d) = inW ws d := by
  cases d with
  | str y => simp only [inW, List.any_map]; rfl
  | none => simp [inW, List.any_map, PyData.eqv, Function.comp_def]
  | bool b => simp [inW, List.any_map, PyData.eqv, Function.comp_def]
  | int i => simp [inW, List.any_map, PyData.eqv, Function.comp_def]
  | list xs => simp [inW, List.any_map, PyData.eqv, Function.comp_def]
  | tuple xs => simp [inW, List.any_map, PyData.eqv, Function.comp_def]
  | dict xs => simp [inW, List.any_map, PyData.eqv, Function.comp_def]
theorem eqv_str (x : Str) (d : PyData) : PyData.eqv d (.str x) = inW [x] d := by
  cases d with
  | str y =>
    simp only [PyData.eqv, inW, List.any_cons, List.any_nil, Bool.or_false]
    by_cases e : y = x
    · subst e
      rfl
    · rw [beq_eq_false_iff_ne.mpr e, beq_eq_false_iff_ne.mpr (Ne.symm e)]
  | none => simp [inW, PyData.eqv]
  | bool b => simp [inW, PyData.eqv]
  | int i => simp [inW, PyData.eqv]
  | list xs => simp [inW, PyData.eqv]
  | tuple xs => simp [inW, PyData.eqv]
  | dict xs => simp [inW, PyData.eqv]
/-! ### what the parts of a custom are -/
def isPair : PyData → Bool
  | .tuple ds => decide (ds.length = 2)
  | _ => false
def cellOk (hs : List Bool) (ws : List Str) (w : PyData) : PyData → Bool
  | .int i => decide (0 ≤ i) && decide (i ≤ (hs.length : Int) - 1) && (if hs.getD i.toNat false then inW ws w else inW ["none"] w)
  | _ => false
def isCell (hs : List Bool) (ws : List Str) : PyData → Bool
  | .tuple [c, w] => cellOk hs ws w c
  | _ => false
theorem cell_pair {hs : List Bool} {ws : List Str} {d : PyData} (h : isPair d = false) : isCell hs ws d = false := by
  cases d with
  | tuple ds =>
    match ds, h with
    | [_, _], h => simp [isPair] at h
    | [], _ => rfl
    | [_], _ => rfl
    | _ :: _ :: _ :: _, _ => rfl
  | _ => rfl
theorem cell_bt {hs : List Bool} {ws : List Str} {w c : PyData} (h : isBt 0 ((hs.length : Int) - 1) c = false) : cellOk hs ws w c = false := by
  cases c with
  | int i =>
    have h' : (decide (0 ≤ i) && decide (i ≤ (hs.length : Int) - 1)) = false := h
    show (decide (0 ≤ i) && decide (i ≤ (hs.length : Int) - 1) && _) = false
    rw [h']
    rfl
  | _ => rfl
theorem pair_two {d : PyData} (h : isPair d = true) : ∃ a b, d = .tuple [a, b] := by
  cases d with
  | tuple ds =>
    match ds, h with
    | [a, b], _ => exact ⟨a, b, rfl⟩
    | [], h => simp [isPair] at h
    | [_], h => simp [isPair] at h
    | _ :: _ :: _ :: _, h => simp [isPair] at h
  | _ => simp [isPair] at h
theorem room65 {k : Nat} {A : Around} (r : Room k A) : A.units + 65 < cLine := by
  have := r.un
  omega
def isRowOf (n : Nat) (p : Nat → PyData → Bool) : PyData → Bool
  | .tuple ds => decide (ds.length = n) && (List.range ds.length).all fun i => ((ds[i]?).map (p i)).getD false
  | _ => false
def oldW (st : List Bool) (w : Str) (i : Nat) : List Str := if st.getD i false then [w] else []
def isRead (st rk : List Bool) : PyData → Bool := isRowOf st.length fun s => isRowOf rk.length fun r => isCell st (oldW st "old" s ++ oldW rk "new" r)
def isCloseRow (st rk : List Bool) (own : List Str) : PyData → Bool := isRowOf st.length fun s => isCell rk (oldW st "line" s ++ own)
def isBoth (st rk : List Bool) : PyData → Bool
  | .tuple [a, b] => isCloseRow st rk [] a && isCloseRow st rk ["self"] b
  | _ => false
def isClose (n : Int) (st rk : List Bool) : PyData → Bool
  | .tuple ds => decide ((ds.length : Int) = n) && ds.all (isBoth st rk)
  | _ => false
def boolsOf : PyData → List Bool
  | .tuple ds => ds.map fun d => match d with | .bool b => b | _ => false
  | _ => []
def fault : PyData → Option Str
  | .tuple [mk, st, rk, rd, cl] =>
    if isBt 1 3 mk then
      if isTRow st && !(boolsOf st).getD 0 false then
        if isTRow rk then
          if isRead (boolsOf st) (boolsOf rk) rd then
            if isClose (match mk with | .int n => n | _ => 0) (boolsOf st) (boolsOf rk) cl then none else some "close"
          else some "read"
        else some "ranks"
      else some "stands"
    else some "form"
  | _ => some "form"
end Hk
set_option Elab.async false
set_option linter.all false
set_option maxRecDepth 100000
set_option maxHeartbeats 4000000
namespace Hk
open PySem PySem.Spec PyProof.Rows L2
/-- a comprehension with tests whose step leaves all as it was -/
theorem lc_filt {J : It} {n : Nat} {G : Hp → Prop} {Y : Nat → Hp → V → Hp → Prop} (w : Walk J n G Y) {D : Addr} {g : TG} {tt : TT} {te : TE} {own : List Nat} {σ : L2.St} {H1 : Hp} {Qd : Hp → Prop} (p : Nat → Bool) (f : Nat → V) (hG : ∀ H, Same H1 H → G H) (hY : ∀ i H x H', Y i H x H' → Same H H') (nD : H1 D = none) (small : n < sizeLine)
    (step : ∀ i x H H' (Qy : VK) (Qn : Hp → Prop), i < n → Y i H x H' → Same H1 H' → (p i = true → ∀ H4, Same H' H4 → Qy (f i) H4) → (p i = false → ∀ H4, Same H' H4 → Qn H4) → g x (wipe σ own) H' fun σ2 H2 => wipe σ2 own = wipe σ own ∧ tt σ2 H2 fun b H3 => if b = true then te σ2 H3 Qy else Qn H3)
    (hd : ∀ H, Same H1 H → H D = some (.lst (((List.range n).filter p).map f)) → Qd H) :
    ∃ W : Nat → Nat → Hp → Prop, (∃ m, W 0 m (upd H1 D (.lst []))) ∧ ∀ i m H, W i m H →
      (J.stop i H ∧ Qd H) ∨ (J.go i H ∧ ∃ Nx : Hp → Prop, (∀ H', Nx H' → ∃ m', m' < m ∧ W (i + 1) m' H') ∧ ∀ x H', J.yld i H x H' → g x (wipe σ own) H' fun σ2 H2 => wipe σ2 own = wipe σ own ∧ tt σ2 H2 fun b H3 =>
        if b = true then te σ2 H3 fun y H4 => ∃ acc, H4 D = some (.lst acc) ∧ acc.length < sizeLine ∧ Nx (upd H4 D (.lst (acc ++ [y]))) else Nx H3) := by
  refine lc_it w (fun i H => Same H1 H ∧ H D = some (.lst (((List.range i).filter p).map f))) ⟨same_upd nD, upd_same⟩ (fun i H _ q => hG H q.1) ?_ (fun H q => hd H q.1 q.2)
  rintro i x H H' hi ⟨s1, e1⟩ y
  have s2 := hY i H x H' y
  have lf : ((List.range i).filter p).length ≤ i := Nat.le_trans (List.length_filter_le _ _) (by simp)
  refine step i x H H' (fun y H4 => ∃ acc, H4 D = some (.lst acc) ∧ acc.length < sizeLine ∧ Same H1 (upd H4 D (.lst (acc ++ [y]))) ∧ upd H4 D (.lst (acc ++ [y])) D = some (.lst (((List.range (i + 1)).filter p).map f))) (fun H4 => Same H1 H4 ∧ H4 D = some (.lst (((List.range (i + 1)).filter p).map f))) hi y (s1.trans s2) (fun hp H4 s4 => ?_) (fun hp H4 s4 => ?_)
  · refine ⟨_, s4 _ _ (s2 _ _ e1), by rw [List.length_map]; omega, fun b o q => ?_, ?_⟩
    · rw [upd_ne (ne_of_none q nD)]
      exact s4 _ _ (s2 _ _ (s1 _ _ q))
    · rw [upd_same, List.range_succ, List.filter_append, List.map_append]
      simp [hp]
  · refine ⟨(s1.trans s2).trans s4, ?_⟩
    rw [s4 _ _ (s2 _ _ e1), List.range_succ, List.filter_append]
    simp [hp]
/-- the ones that a comprehension gathered -/
def onesP (p : Nat → Bool) (n : Nat) : List V := ((List.range n).filter p).map fun _ => .int 1
theorem ones_dp {K : PySem.W.Frag} {H : Hp} (p : Nat → Bool) (n : Nat) : ∃ k, DpAll K H (onesP p n) (List.replicate k (.int 1)) ∧ k ≤ n ∧ ((k = 0) = ∀ i, i < n → p i = false) := by
  refine ⟨((List.range n).filter p).length, ?_, Nat.le_trans (List.length_filter_le _ _) (by simp), ?_⟩
  · unfold onesP
    generalize (List.range n).filter p = l
    induction l with
    | nil => exact .nil
    | cons a l ih => exact .cons (.int 1) ih
  · simp [List.length_eq_zero_iff, List.filter_eq_nil_iff]
theorem lay_repl (k : Nat) : PyData.canLayAll0 (List.replicate k (.int 1)) = true := by
  induction k with
  | zero => rfl
  | succ k ih => simp [List.replicate_succ, PyData.canLayAll0, PyData.canLay0, ih]
theorem depth_repl (k : Nat) : PyData.depthAll (List.replicate k (.int 1)) ≤ 1 := by
  induction k with
  | zero => simp [PyData.depthAll]
  | succ k ih =>
    simp [List.replicate_succ, PyData.depthAll, PyData.depth]
    omega
theorem shaped_repl (k : Nat) : SeqAt.shaped (.list (List.replicate k (.int 1))) = true := by
  have := depth_repl k
  unfold SeqAt.shaped
  simp [PyData.canLay0, lay_repl, PyData.depth]
  omega
theorem eqv_repl (k : Nat) : PyData.eqv (.list (List.replicate k (.int 1))) (.list []) = decide (k = 0) := by
  cases k with
  | zero => simp [PyData.eqv, PyData.eqvAll]
  | succ k => simp [List.replicate_succ, PyData.eqv, PyData.eqvAll]
theorem room65' {k : Nat} {A : Around} (r : Room k A) : A.units + 64 < cLine := by
  have := room65 r
  omega
/-- x in l, l a list, both any data -/
def rInL (K : PySem.W.Frag) : R2 := fun x y H Q => ∃ d ds, Dp K H x d ∧ Dp K H y (.list ds) ∧ Okd d ∧ Okd (.list ds) ∧ Q (.bl (ds.any fun z => PyData.eqv z d)) H
theorem op_inL {X : Cx} (hu : X.A.units + 65 < cLine) : OpR X (compareOp .In) (rInL X.K) := by
  intro pins s σ H x y v u Q I rx ry h
  obtain ⟨d, ds, hd, he, sd, se, q⟩ := h
  obtain ⟨as, r1⟩ := Dp.reads I d x v hd rx
  obtain ⟨bs, r2⟩ := Dp.reads I (.list ds) y u he ry
  exact SeqAt.in_list_reads r2 r1 (SeqAt.canLay_of_shaped se) (SeqAt.canLay_of_shaped sd) (room_in_shaped sd hu) ⟨.bl _, H, I, rfl, q⟩
/-- [1 for ..] == [] -/
theorem ones_eq {K : PySem.W.Frag} {σ : L2.St} {H1 : Hp} {D : Addr} {p : Nat → Bool} {n : Nat} {Qv : VK} (hD : H1 D = some (.lst (((List.range n).filter p).map fun _ => .int 1))) (q : ∀ H', Same H1 H' → Qv (.bl ((List.range n).all fun i => !p i)) H') :
    tLst tNil σ H1 fun y H2 => rEqD K (.ref D) y H2 Qv := by
  refine ⟨Nat.zero_le _, fun e he => ?_⟩
  have s1 := same_upd (o := .lst []) he
  obtain ⟨k, hk, _, hz⟩ := ones_dp (K := K) (H := upd H1 e (.lst [])) p n
  refine ⟨.list (List.replicate k (.int 1)), .list [], .lst (SqL.of (s1 _ _ hD)) hk, .lst (SqL.of upd_same) .nil, shaped_repl k, rfl, ?_⟩
  have q' := q _ s1
  rw [eqv_repl]
  have e2 : ((List.range n).all fun i => !p i) = decide (k = 0) := by
    rw [Bool.eq_iff_iff, decide_eq_true_iff, hz]
    simp
  rw [e2] at q'
  exact q'
theorem sql_same {K : PySem.W.Frag} {H H' : Hp} {a : Addr} {xs : List V} (s : Same H H') (h : SqL K H a xs) : SqL K H' a xs :=
  h.imp (fun r => r.imp (fun q => s _ _ q) fun ⟨o, q⟩ => ⟨o, s _ _ q⟩) id
theorem yes_if {σ : L2.St} {H : Hp} {A B : Hp → Prop} (h : A H) : tYes σ H fun b H3 => if b = true then A H3 else B H3 := h
theorem at_ints {ns : List Int} {i : Nat} {x : V} (h : (ns.map V.int)[i]? = some x) : ∃ z : Int, ns[i]? = some z ∧ x = .int z := by
  rw [List.getElem?_map] at h
  cases e : ns[i]? with
  | none => rw [e] at h; cases h
  | some z => rw [e] at h; exact ⟨z, rfl, (Option.some.inj h).symm⟩
theorem ix_ints {cs : List Int} {j : Nat} (h : j < cs.length) : atI (cs.map V.int) (j : Int) = some (.int (cs[j])) := atI_nat (by rw [List.getElem?_map, List.getElem?_eq_getElem h]; rfl)
theorem ixN_nat {n j : Nat} (h : j < n) : ixN n (j : Int) = some j := by
  unfold ixN
  rw [if_pos (by omega), if_pos (by omega)]
  simp
theorem same_set {H H4 : Hp} {D : Addr} {o : HO} (s : Same H H4) (h : H D = none) : Same H (upd H4 D o) := fun b u q => by
  rw [upd_ne (ne_of_none q h)]
  exact s b u q
end Hk
set_option Elab.async false
set_option linter.all false
set_option maxRecDepth 100000
set_option maxHeartbeats 4000000
namespace Hk
open PySem PySem.Spec PyProof.Rows L2
theorem isT_tup' {d : PyData} (h : isT d = true) : ∃ ds, d = .tuple ds := by cases d <;> simp_all [isT]
/-- a row of at most so many numbers from 0 to high -/
def isNRow (most high : Int) : PyData → Bool
  | .tuple ds => decide ((ds.length : Int) ≤ most) && ds.all (isBt 0 high)
  | _ => false
section
variable {P : Program} {w : World} {K : PySem.W.Frag} {mg : Str → Option Value} {base : Heap}
abbrev s_is_pair : Stmt := top 14
theorem sc_is_pair : FnScope ["value"] ["value"] (defScope s_is_pair) := ⟨rfl, rfl, rfl, by decide +kernel, rfl, by decide +kernel, by decide +kernel⟩
theorem ok_is_pair (T : Txt K mg) (at_ : At K mg "is_pair" s_is_pair ["value"]) : Kn P w K mg base 1 "is_pair" ["value"] (spD1 isPair) := by
  refine Kn.mkN (st := s_is_pair) (N := ["value"]) at_ sc_is_pair (fun vs H Q E h => ?_) (fun f cdv A outer s H vs Q E hr free h => ?_)
  · obtain ⟨v, d, m, g, rfl, _⟩ := h
    rfl
  · obtain ⟨v, d, m, g, rfl, dt, k⟩ := h
    refine ⟨_, (pss_one (ps_ret (pe_and (pe_callB (id := "isinstance") (show CallR _ (.builtin "isinstance") (rIsi K) from call_isi) (by rfl) T.b_isinstance (by decide +kernel) (pa_cons (pv 0) (pa_cons (pe_bltn (v := .ty "tuple") (by rfl) T.b_tuple (by decide +kernel) rfl) pa_nil))) (pe_one (pe_cmpR op_eq (pe_callB (id := "len") call_len_seq (by rfl) T.b_len (by decide +kernel) (pa_cons (pv 0) pa_nil)) pe_int (nomark _)))))), ?_⟩
    refine ⟨_, rfl, v, .ty "tuple", .type (tyN d), .type "tuple", isT d, rfl, .ty _, dt.ty, kit_T dt, _, rfl, ?_⟩
    have k' := k H (Same.refl H)
    cases hT : isT d with
    | false =>
      have e : isPair d = false := by cases d <;> simp_all [isT, isPair]
      rw [e] at k'
      exact iteF k'
    | true =>
      obtain ⟨ds, rfl⟩ := isT_tup' hT
      cases dt with
      | @tup a xs _ hx n1 n2 da =>
      refine iteT ⟨_, rfl, a, xs, rfl, .inr (SqT.of hx), rfl, ?_⟩
      have e : isPair (.tuple ds) = decide (V.int (xs.length : Int) = V.int 2) := by
        show decide (ds.length = 2) = _
        rw [da.len]
        by_cases c : ds.length = 2
        · rw [decide_eq_true c, decide_eq_true (by rw [c]; rfl)]
        · rw [decide_eq_false c, decide_eq_false (fun z => c (by have := V.int.inj z; omega))]
      rw [e] at k'
      exact k'
abbrev s_is_number_row : Stmt := top 9
theorem sc_is_number_row : FnScope ["value", "most", "high", "item"] ["value", "most", "high"] (defScope s_is_number_row) := ⟨rfl, rfl, rfl, by decide +kernel, rfl, by decide +kernel, by decide +kernel⟩
def spNRow : Sp := fun vs H Q _ => ∃ (v : V) (d : PyData) (m g : Addr) (most high : Int), vs = [v, .int most, .int high] ∧ Dt H m g v d ∧ most < 16000000 ∧ ∀ H', Same H H' → Q (.bl (isNRow most high d)) H'
theorem ok_is_number_row (T : Txt K mg) (at_ : At K mg "is_number_row" s_is_number_row ["value", "most", "high"]) : Kn P w K mg base 1 "is_number_row" ["value", "most", "high"] spNRow := by
  refine Kn.mkN (st := s_is_number_row) (N := ["value", "most", "high", "item"]) at_ sc_is_number_row (fun vs H Q E h => ?_) (fun f cdv A outer s H vs Q E hr free h => ?_)
  · obtain ⟨v, d, m, g, most, high, rfl, _⟩ := h
    rfl
  · obtain ⟨v, d, m, g, most, high, rfl, dt, big, k⟩ := h
    refine ⟨_, (pss_cons (ps_if (PW.pt (pw_or (pt_not (pt_val (pe_callB (id := "isinstance") (show CallR _ (.builtin "isinstance") (rIsi K) from call_isi) (by rfl) T.b_isinstance (by decide +kernel) (pa_cons (pv 0) (pa_cons (pe_bltn (v := .ty "tuple") (by rfl) T.b_tuple (by decide +kernel) rfl) pa_nil))))) (pw_or1 (pt_cmpR op_gt (pe_callB (id := "len") call_len_seq (by rfl) T.b_len (by decide +kernel) (pa_cons (pv 0) pa_nil)) (pv 1) (nomark _))))) (pss_one (ps_ret pe_bl)) pss_nil) (pss_one (ps_ret (pe_callB (id := "all") (cr_all rfl) (by rfl) T.b_all (by decide +kernel) (pa_cons (pe_lc (own := [("item", 3)]) (by rfl) sc_is_number_row.nd (tt := tYes) (pi_tup (pv 0)) (blkOk_by (own := [("item", 3)]) (N := ["value", "most", "high", "item"]) (sc := defScope s_is_number_row) (by decide +kernel)) (fun _ _ _ _ _ => pg_name (i := 3) sc_is_number_row.nd rfl (Or.inl rfl)) (fun _ _ _ _ _ => pts_nil) (fun _ _ _ _ _ => (pe_and (pe_callB (id := "isinstance") (show CallR _ (.builtin "isinstance") (rIsi K) from call_isi) (by rfl) T.b_isinstance (by decide +kernel) (pa_cons (pv 3) (pa_cons (pe_bltn (v := .ty "int") (by rfl) T.b_int (by decide +kernel) rfl) pa_nil))) (pe_and (pe_not (pe_callB (id := "isinstance") (show CallR _ (.builtin "isinstance") (rIsi K) from call_isi) (by rfl) T.b_isinstance (by decide +kernel) (pa_cons (pv 3) (pa_cons (pe_bltn (v := .ty "bool") (by rfl) T.b_bool (by decide +kernel) rfl) pa_nil)))) (pe_one (pe_chain op_le op_le pe_int (pv 3) (pv 2))))))) pa_nil))))), ?_⟩
    refine ⟨_, rfl, v, .ty "tuple", .type (tyN d), .type "tuple", isT d, rfl, .ty _, dt.ty, kit_T dt, _, rfl, ?_⟩
    cases hT : isT d with
    | false =>
      have k' := k H (Same.refl H)
      have e : isNRow most high d = false := by cases d <;> simp_all [isT, isNRow]
      rw [e] at k'
      exact iteT (iteT k')
    | true =>
      obtain ⟨ds, rfl⟩ := isT_tup' hT
      cases dt with
      | @tup a xs _ hx n1 n2 da =>
      have el := da.len
      refine iteF ⟨_, rfl, a, xs, rfl, .inr (SqT.of hx), _, rfl, _, _, rfl, rfl, _, rfl, ?_⟩
      by_cases c : most < (xs.length : Int)
      · refine (if_pos (decide_eq_true c)).mpr ?_
        have k' := k H (Same.refl H)
        have e : isNRow most high (.tuple ds) = false := by
          show (decide ((ds.length : Int) ≤ most) && _) = false
          rw [decide_eq_false (by omega)]
          rfl
        rw [e] at k'
        exact k'
      · refine (if_neg (by simpa using c)).mpr ?_
        refine ⟨_, rfl, a, rfl, ⟨_, SqT.of hx⟩, fun D nD => ?_⟩
        refine lc_map (fun i => .bl (((ds[i]?).map (isBt 0 high)).getD false)) hx nD (by show _ < 16777216; omega) (fun i x H1 Q' hxi s1 q => ?_) (fun H1 s1 hD => ?_)
        · obtain ⟨di, hdi, dti⟩ := da.at' hxi
          have dti1 := dti.same s1
          have z := q H1 (Same.refl H1)
          rw [hdi] at z
          have z : Q' (.bl (isBt 0 high di)) H1 := z
          refine ⟨rfl, _, rfl, x, .ty "int", .type (tyN di), .type "int", isI di, rfl, .ty _, dti1.ty, kit_I dti1, _, rfl, ?_⟩
          cases hI : isI di with
          | false =>
            have e : isBt 0 high di = false := by cases di <;> simp_all [isI, isBt]
            rw [e] at z
            exact iteF z
          | true =>
            refine iteT ⟨_, rfl, x, .ty "bool", .type (tyN di), .type "bool", isB di, rfl, .ty _, dti1.ty, kit_B dti1, _, rfl, ?_⟩
            cases hB : isB di with
            | true =>
              have e : isBt 0 high di = false := by cases di <;> simp_all [isB, isBt]
              rw [e] at z
              exact ⟨_, rfl, iteF z⟩
            | false =>
              obtain ⟨j, rfl⟩ : ∃ j, di = .int j := by cases di <;> simp_all [isI, isB]
              cases dti1
              have e : isBt 0 high (.int j) = (decide (0 ≤ j) && decide (j ≤ high)) := rfl
              rw [e] at z
              refine ⟨_, rfl, iteT ⟨_, rfl, _, _, rfl, rfl, _, rfl, ?_⟩⟩
              by_cases c0 : (0 : Int) ≤ j
              · rw [decide_eq_true c0] at z ⊢
                exact iteT ⟨_, rfl, _, _, rfl, rfl, z⟩
              · rw [decide_eq_false c0] at z ⊢
                exact iteF z
        · refine ⟨D, (List.range xs.length).map (fun i => ((ds[i]?).map (isBt 0 high)).getD false), rfl, SqL.of (by rw [hD, List.map_map]; rfl), ?_⟩
          have k' := k H1 s1
          rw [el, range_all]
          have e2 : isNRow most high (.tuple ds) = ds.all (isBt 0 high) := by
            show (decide ((ds.length : Int) ≤ most) && _) = _
            rw [decide_eq_true (by omega)]
            rfl
          rw [e2] at k'
          exact k'
end
end Hk
set_option Elab.async false
set_option linter.all false
set_option maxRecDepth 100000
set_option maxHeartbeats 4000000
namespace Hk
open PySem PySem.Spec PyProof.Rows L2
def isLine (place marks : Int) : PyData → Bool
  | .tuple [mk, al, ch] => isBt 0 (marks - 1) mk && isB al && isNRow 600 (place - 1) ch
  | _ => false
def isRows (d : PyData) : Bool := match d with
  | .tuple ds => decide (1 ≤ ds.length) && decide (ds.length ≤ 2000)
  | _ => false
/-- the number of the first line that is none -/
def wrongAt (marks : Int) : Nat → List PyData → Option Nat
  | _, [] => none
  | i, d :: ds => if isLine (i : Nat) marks d = true then wrongAt marks (i + 1) ds else some i
theorem wrong_first {marks : Int} : ∀ {ds : List PyData} {k i : Nat}, (∀ j d, j < i → ds[j]? = some d → isLine ((k + j : Nat) : Int) marks d = true) → ∀ {d}, ds[i]? = some d → isLine ((k + i : Nat) : Int) marks d = false → wrongAt marks k ds = some (k + i)
  | [], _, _, _, d, e, _ => by simp at e
  | x :: ds, k, 0, _, d, e, b => by
    simp at e
    subst e
    show (if isLine ((k : Nat) : Int) marks x = true then _ else some k) = some (k + 0)
    rw [if_neg (by rw [show k = k + 0 from rfl, b]; simp)]
    rfl
  | x :: ds, k, i + 1, good, d, e, b => by
    have g0 := good 0 x (Nat.succ_pos _) rfl
    show (if isLine ((k : Nat) : Int) marks x = true then wrongAt marks (k + 1) ds else some k) = _
    rw [if_pos (by simpa using g0)]
    rw [wrong_first (k := k + 1) (i := i) (fun j d hj e => by have := good (j + 1) d (by omega) (by simpa using e); rw [show k + 1 + j = k + (j + 1) by omega]; exact this) (d := d) (by simpa using e) (by rw [show k + 1 + i = k + (i + 1) by omega]; exact b)]
    rw [show k + 1 + i = k + (i + 1) by omega]
theorem wrong_none {marks : Int} : ∀ {ds : List PyData} {k : Nat}, (∀ j d, ds[j]? = some d → isLine ((k + j : Nat) : Int) marks d = true) → wrongAt marks k ds = none
  | [], _, _ => rfl
  | x :: ds, k, good => by
    show (if isLine ((k : Nat) : Int) marks x = true then wrongAt marks (k + 1) ds else some k) = none
    rw [if_pos (by have := good 0 x rfl; simpa using this)]
    exact wrong_none (k := k + 1) fun j d e => by have := good (j + 1) d (by simpa using e); rw [show k + 1 + j = k + (j + 1) by omega]; exact this
theorem none_good {marks : Int} : ∀ {ds : List PyData} {k : Nat}, wrongAt marks k ds = none → ∀ j d, ds[j]? = some d → isLine ((k + j : Nat) : Int) marks d = true
  | [], _, _, _, _, e => by simp at e
  | x :: ds, k, h, j, d, e => by
    have h : (if isLine ((k : Nat) : Int) marks x = true then wrongAt marks (k + 1) ds else some k) = none := h
    by_cases c : isLine ((k : Nat) : Int) marks x = true
    · rw [if_pos c] at h
      cases j with
      | zero =>
        simp at e
        subst e
        exact c
      | succ j =>
        have := none_good h j d (by simpa using e)
        rw [show k + 1 + j = k + (j + 1) by omega] at this
        exact this
    · rw [if_neg c] at h
      cases h
def placeV : Option Nat → V
  | none => .non
  | some i => .int (i : Nat)
section
variable {P : Program} {w : World} {K : PySem.W.Frag} {mg : Str → Option Value} {base : Heap}
abbrev s_need_between : Stmt := top 10
theorem sc_need_between : FnScope ["value", "low", "high"] ["value", "low", "high"] (defScope s_need_between) := ⟨rfl, rfl, rfl, by decide +kernel, rfl, by decide +kernel, by decide +kernel⟩
def spNeedB : Sp := fun vs H Q _ => ∃ n lo hi : Int, vs = [.int n, .int lo, .int hi] ∧ lo ≤ n ∧ n ≤ hi ∧ ∀ H', Same H H' → Q .non H'
theorem ok_need_between (T : Txt K mg) (k_is_between : Kn P w K mg base 2 "is_between" ["value", "low", "high"] (spD1I isBt)) (at_ : At K mg "need_between" s_need_between ["value", "low", "high"]) : Kn P w K mg base 3 "need_between" ["value", "low", "high"] spNeedB := by
  refine Kn.mkN (st := s_need_between) (N := ["value", "low", "high"]) at_ sc_need_between (fun vs H Q E h => ?_) (fun f cdv A outer s H vs Q E hr free h => ?_)
  · obtain ⟨n, lo, hi, rfl, _⟩ := h
    rfl
  · obtain ⟨n, lo, hi, rfl, h1, h2, k⟩ := h
    refine ⟨_, (pss_one (ps_if (pt_not (pt_val (pe_callN k_is_between free (hr.mono (by decide)) rfl passL (pa_cons (pv 0) (pa_cons (pv 1) (pa_cons (pv 2) pa_nil)))))) (pss_one ps_never) pss_nil)), ?_⟩
    refine ⟨_, rfl, _, rfl, _, rfl, .int n, .int n, 0, 0, lo, hi, rfl, .int n, fun H1 s1 => ⟨_, rfl, ?_⟩⟩
    have e : isBt lo hi (.int n) = true := by
      show (decide (lo ≤ n) && decide (n ≤ hi)) = true
      rw [decide_eq_true h1, decide_eq_true h2]
      rfl
    rw [e]
    exact iteF (k H1 s1)
abbrev s_need_marks : Stmt := top 11
theorem sc_need_marks : FnScope ["marks"] ["marks"] (defScope s_need_marks) := ⟨rfl, rfl, rfl, by decide +kernel, rfl, by decide +kernel, by decide +kernel⟩
def spNeedM : Sp := fun vs H Q _ => ∃ n : Int, vs = [.int n] ∧ 1 ≤ n ∧ n ≤ 3 ∧ ∀ H', Same H H' → Q .non H'
theorem ok_need_marks (T : Txt K mg) (k_need_between : Kn P w K mg base 3 "need_between" ["value", "low", "high"] spNeedB) (at_ : At K mg "need_marks" s_need_marks ["marks"]) : Kn P w K mg base 4 "need_marks" ["marks"] spNeedM := by
  refine Kn.mkN (st := s_need_marks) (N := ["marks"]) at_ sc_need_marks (fun vs H Q E h => ?_) (fun f cdv A outer s H vs Q E hr free h => ?_)
  · obtain ⟨n, rfl, _⟩ := h
    rfl
  · obtain ⟨n, rfl, h1, h2, k⟩ := h
    refine ⟨_, (pss_one (ps_expr (pe_callN k_need_between free (hr.mono (by decide)) rfl passL (pa_cons (pv 0) (pa_cons pe_int (pa_cons pe_int pa_nil)))))), ?_⟩
    exact ⟨_, rfl, n, 1, 3, rfl, h1, h2, fun H' s' => k H' s'⟩
abbrev s_is_line : Stmt := top 19
theorem sc_is_line : FnScope ["value", "place", "marks", "mark", "is_alive", "children"] ["value", "place", "marks"] (defScope s_is_line) := ⟨rfl, rfl, rfl, by decide +kernel, rfl, by decide +kernel, by decide +kernel⟩
def spLine : Sp := fun vs H Q _ => ∃ (v : V) (d : PyData) (m g : Addr) (place n : Int), vs = [v, .int place, .int n] ∧ Dt H m g v d ∧ ∀ H', Same H H' → Q (.bl (isLine place n d)) H'
theorem ok_is_line (T : Txt K mg) (hmc : ∃ t, mg "MOST_CHILDREN" = some (.int 600 t)) (k_is_between : Kn P w K mg base 2 "is_between" ["value", "low", "high"] (spD1I isBt)) (k_is_truth : Kn P w K mg base 1 "is_truth" ["value"] (spD1 isB)) (k_is_number_row : Kn P w K mg base 1 "is_number_row" ["value", "most", "high"] spNRow)
    (at_ : At K mg "is_line" s_is_line ["value", "place", "marks"]) : Kn P w K mg base 3 "is_line" ["value", "place", "marks"] spLine := by
  refine Kn.mkN (st := s_is_line) (N := ["value", "place", "marks", "mark", "is_alive", "children"]) at_ sc_is_line (fun vs H Q E h => ?_) (fun f cdv A outer s H vs Q E hr free h => ?_)
  · obtain ⟨v, d, m, g, place, n, rfl, _⟩ := h
    rfl
  · obtain ⟨v, d, m, g, place, n, rfl, dt, k⟩ := h
    obtain ⟨t, hmc⟩ := hmc
    refine ⟨_, (pss_cons (ps_if (PW.pt (pw_or (pt_not (pt_val (pe_callB (id := "isinstance") (show CallR _ (.builtin "isinstance") (rIsi K) from call_isi) (by rfl) T.b_isinstance (by decide +kernel) (pa_cons (pv 0) (pa_cons (pe_bltn (v := .ty "tuple") (by rfl) T.b_tuple (by decide +kernel) rfl) pa_nil))))) (pw_or1 (pt_cmpR op_ne (pe_callB (id := "len") call_len_seq (by rfl) T.b_len (by decide +kernel) (pa_cons (pv 0) pa_nil)) pe_int (nomark _))))) (pss_one (ps_ret pe_bl)) pss_nil) (pss_cons (ps_asg (pv 0) (pg_tup rfl (pgs_cons (pg_name (i := 3) sc_is_line.nd rfl (Or.inl rfl)) (pgs_cons (pg_name (i := 4) sc_is_line.nd rfl (Or.inl rfl)) (pgs_cons (pg_name (i := 5) sc_is_line.nd rfl (Or.inl rfl)) pgs_nil))))) (pss_cons (ps_if (PW.pt (pw_or (pt_not (pt_val (pe_callN k_is_between free (hr.mono (by decide)) rfl passL (pa_cons (pv 3) (pa_cons pe_int (pa_cons (pe_op op_sub (pv 2) pe_int) pa_nil)))))) (pw_or1 (pt_not (pt_val (pe_callN k_is_truth free (hr.mono (by decide)) rfl passL (pa_cons (pv 4) pa_nil))))))) (pss_one (ps_ret pe_bl)) pss_nil) (pss_one (ps_ret (pe_callN k_is_number_row free (hr.mono (by decide)) rfl passL (pa_cons (pv 5) (pa_cons (pe_glob (v := .int 600) rfl hmc ⟨_, rfl⟩) (pa_cons (pe_op op_sub (pv 1) pe_int) pa_nil))))))))), ?_⟩
    refine ⟨_, rfl, v, .ty "tuple", .type (tyN d), .type "tuple", isT d, rfl, .ty _, dt.ty, kit_T dt, _, rfl, ?_⟩
    cases hT : isT d with
    | false =>
      have k' := k H (Same.refl H)
      have e : isLine place n d = false := by cases d <;> simp_all [isT, isLine]
      rw [e] at k'
      exact iteT (iteT k')
    | true =>
      obtain ⟨ds, rfl⟩ := isT_tup' hT
      cases dt with
      | @tup a xs _ hx n1 n2 da =>
      have el := da.len
      refine iteF ⟨_, rfl, a, xs, rfl, .inr (SqT.of hx), rfl, _, rfl, ?_⟩
      by_cases c : ds.length = 3
      · refine (if_neg (by have h3 : xs.length = 3 := (by omega); simp [h3])).mpr ?_
        match ds, c, da, k with
        | [mk, al, ch], _, da, k =>
        match xs, da, hx with
        | [x0, x1, x2], .cons t0 (.cons t1 (.cons t2 .nil)), hx =>
        refine ⟨_, rfl, a, _, rfl, SqT.of hx, rfl, _, _, rfl, _, _, rfl, _, _, rfl, rfl, ?_⟩
        have e : isLine place n (.tuple [mk, al, ch]) = (isBt 0 (n - 1) mk && isB al && isNRow 600 (place - 1) ch) := rfl
        refine ⟨_, rfl, _, rfl, _, _, rfl, rfl, x0, mk, m, g, 0, n - 1, rfl, t0, fun H1 s1 => ⟨_, rfl, ?_⟩⟩
        cases hb : isBt 0 (n - 1) mk with
        | false =>
          have k' := k H1 s1
          rw [e, hb] at k'
          exact iteT (iteT k')
        | true =>
          refine iteF ⟨_, rfl, x1, al, m, g, rfl, t1.same s1, fun H2 s2 => ⟨_, rfl, ?_⟩⟩
          cases ha : isB al with
          | false =>
            have k' := k H2 (s1.trans s2)
            rw [e, hb, ha] at k'
            exact iteT k'
          | true =>
            refine iteF ?_
            refine ⟨_, rfl, _, rfl, _, _, rfl, rfl, x2, ch, m, g, 600, place - 1, rfl, t2.same (s1.trans s2), by decide, fun H3 s3 => ?_⟩
            have k' := k H3 ((s1.trans s2).trans s3)
            rw [e, hb, ha] at k'
            exact k'
      · refine (if_pos (by have h3 : ¬ xs.length = 3 := (by omega); simp; omega)).mpr ?_
        have k' := k H (Same.refl H)
        have e : isLine place n (.tuple ds) = false := by
          match ds, c with
          | [], _ => rfl
          | [_], _ => rfl
          | [_, _], _ => rfl
          | [_, _, _], c => exact (c rfl).elim
          | _ :: _ :: _ :: _ :: _, _ => rfl
        rw [e] at k'
        exact k'
abbrev s_is_row_of_lines : Stmt := top 20
theorem sc_is_row_of_lines : FnScope ["value"] ["value"] (defScope s_is_row_of_lines) := ⟨rfl, rfl, rfl, by decide +kernel, rfl, by decide +kernel, by decide +kernel⟩
theorem ok_is_row_of_lines (T : Txt K mg) (hml : ∃ t, mg "MOST_LINES" = some (.int 2000 t)) (at_ : At K mg "is_row_of_lines" s_is_row_of_lines ["value"]) : Kn P w K mg base 1 "is_row_of_lines" ["value"] (spD1 isRows) := by
  refine Kn.mkN (st := s_is_row_of_lines) (N := ["value"]) at_ sc_is_row_of_lines (fun vs H Q E h => ?_) (fun f cdv A outer s H vs Q E hr free h => ?_)
  · obtain ⟨v, d, m, g, rfl, _⟩ := h
    rfl
  · obtain ⟨v, d, m, g, rfl, dt, k⟩ := h
    obtain ⟨t, hml⟩ := hml
    refine ⟨_, (pss_one (ps_ret (pe_and (pe_callB (id := "isinstance") (show CallR _ (.builtin "isinstance") (rIsi K) from call_isi) (by rfl) T.b_isinstance (by decide +kernel) (pa_cons (pv 0) (pa_cons (pe_bltn (v := .ty "tuple") (by rfl) T.b_tuple (by decide +kernel) rfl) pa_nil))) (pe_one (pe_chain op_le op_le pe_int (pe_callB (id := "len") call_len_seq (by rfl) T.b_len (by decide +kernel) (pa_cons (pv 0) pa_nil)) (pe_glob (v := .int 2000) rfl hml ⟨_, rfl⟩)))))), ?_⟩
    have k' := k H (Same.refl H)
    refine ⟨_, rfl, v, .ty "tuple", .type (tyN d), .type "tuple", isT d, rfl, .ty _, dt.ty, kit_T dt, _, rfl, ?_⟩
    cases hT : isT d with
    | false =>
      have e : isRows d = false := by cases d <;> simp_all [isT, isRows]
      rw [e] at k'
      exact iteF k'
    | true =>
      obtain ⟨ds, rfl⟩ := isT_tup' hT
      cases dt with
      | @tup a xs _ hx n1 n2 da =>
      have el := da.len
      refine iteT ⟨_, rfl, a, xs, rfl, .inr (SqT.of hx), _, _, rfl, rfl, _, rfl, ?_⟩
      have e : isRows (.tuple ds) = (decide (1 ≤ ds.length) && decide (ds.length ≤ 2000)) := rfl
      rw [e, ← el] at k'
      by_cases c1 : (1 : Int) ≤ (xs.length : Int)
      · rw [decide_eq_true c1]
        rw [decide_eq_true (show 1 ≤ xs.length by omega), Bool.true_and] at k'
        refine iteT ⟨_, _, rfl, rfl, ?_⟩
        have e2 : decide ((xs.length : Int) ≤ 2000) = decide (xs.length ≤ 2000) := by
          by_cases c2 : xs.length ≤ 2000
          · rw [decide_eq_true c2, decide_eq_true (by omega)]
          · rw [decide_eq_false c2, decide_eq_false (by omega)]
        show Q (.bl (decide ((xs.length : Int) ≤ 2000))) H
        rw [e2]
        exact k'
      · rw [decide_eq_false c1]
        rw [decide_eq_false (show ¬ 1 ≤ xs.length by omega), Bool.false_and] at k'
        exact iteF k'
abbrev s_wrong_line : Stmt := top 21
theorem sc_wrong_line : FnScope ["family", "marks", "place", "line"] ["family", "marks"] (defScope s_wrong_line) := ⟨rfl, rfl, rfl, by decide +kernel, rfl, by decide +kernel, by decide +kernel⟩
def spWrong : Sp := fun vs H Q _ => ∃ (v : V) (ds : List PyData) (m g : Addr) (n : Int), vs = [v, .int n] ∧ Dt H m g v (.tuple ds) ∧ ∀ H', Same H H' → Q (placeV (wrongAt n 0 ds)) H'
theorem ok_wrong_line (T : Txt K mg) (k_is_line : Kn P w K mg base 3 "is_line" ["value", "place", "marks"] spLine) (at_ : At K mg "wrong_line" s_wrong_line ["family", "marks"]) : Kn P w K mg base 4 "wrong_line" ["family", "marks"] spWrong := by
  refine Kn.mkN (st := s_wrong_line) (N := ["family", "marks", "place", "line"]) at_ sc_wrong_line (fun vs H Q E h => ?_) (fun f cdv A outer s H vs Q E hr free h => ?_)
  · obtain ⟨v, ds, m, g, n, rfl, _⟩ := h
    rfl
  · obtain ⟨v, ds, m, g, n, rfl, dt, k⟩ := h
    refine ⟨_, (pss_cons (ps_for PassesOwn.never rfl (pi_enT (by rfl) T.b_enumerate (pa_cons (pv 0) pa_nil)) (pg_tup rfl (pgs_cons (pg_name (i := 2) sc_wrong_line.nd rfl (Or.inl rfl)) (pgs_cons (pg_name (i := 3) sc_wrong_line.nd rfl (Or.inl rfl)) pgs_nil))) (pss_one (ps_if (pt_not (pt_val (pe_callN k_is_line free (hr.mono (by decide)) rfl passL (pa_cons (pv 3) (pa_cons (pv 2) (pa_cons (pv 1) pa_nil)))))) (pss_one (ps_ret (pv 2))) pss_nil))) (pss_one (ps_ret pe_non))), ?_⟩
    cases dt with
    | @tup a xs _ hx n1 n2 da =>
    have el := da.len
    refine ⟨_, rfl, a, _, rfl, SqT.of hx, ?_⟩
    refine for_it (walk_enT (xs := xs)) (fun i σ H' => Same H H' ∧ (∀ j d, j < i → ds[j]? = some d → isLine ((0 + j : Nat) : Int) n d = true) ∧ ∃ v2 v3, σ = [some (.ref a), some (.int n), v2, v3]) ⟨Same.refl _, fun j d hj => absurd hj (Nat.not_lt_zero _), ⟨_, _, rfl⟩⟩ (fun i σ H' _ p => SqT.of (p.1 _ _ hx)) ?_ ?_
    · rintro i x σ H1 H2 hi ⟨s1, good, ⟨v2, v3, rfl⟩⟩ ⟨Tp, x1, x2, rfl, nT, rfl, hx1, hx2⟩
      cases hx1
      obtain ⟨di, hdi, dti⟩ := da.at' hx2
      have s2 : Same H (upd H1 Tp (.tup [.int (i : Nat), x2])) := same_new s1 nT
      have hTp : upd H1 Tp (.tup [.int (i : Nat), x2]) Tp = some (.tup [.int (i : Nat), x2]) := upd_same
      generalize upd H1 Tp (.tup [.int (i : Nat), x2]) = H2 at s2 hTp ⊢
      refine ⟨Tp, _, rfl, SqT.of hTp, rfl, _, _, rfl, _, _, rfl, rfl, ?_⟩
      refine ⟨_, rfl, _, rfl, _, rfl, x2, di, m, g, (i : Nat), n, rfl, dti.same s2, fun H3 s3 => ⟨_, rfl, ?_⟩⟩
      cases hl : isLine (i : Nat) n di with
      | true =>
        refine iteF ⟨s2.trans s3, fun j d hj e => ?_, _, _, rfl⟩
        by_cases c : j < i
        · exact good j d c e
        · have ji : j = i := by omega
          rw [ji, hdi] at e
          cases e
          rw [ji, Nat.zero_add]
          exact hl
      | false =>
        refine iteT ⟨_, rfl, ?_⟩
        have z := k H3 (s2.trans s3)
        rw [wrong_first (k := 0) (i := i) good hdi (by rw [Nat.zero_add]; exact hl), Nat.zero_add] at z
        exact z
    · rintro σ H2 ⟨s2, good, v2, v3, rfl⟩
      have z := k H2 s2
      rw [wrong_none (k := 0) (fun j d e => good j d (by have := (List.getElem?_eq_some_iff.mp e).1; omega) e)] at z
      exact z
end
end Hk
set_option Elab.async false
set_option linter.all false
set_option maxRecDepth 100000
set_option maxHeartbeats 4000000
namespace Hk
open PySem PySem.Spec PyProof.Rows L2
/-- an error of the class at C, its field fl holding x -/
def Raised (fl : Str) (C : Addr) (x : V) (H : Hp) (E : XK) : Prop := ∀ H' dd p, Same H H' → H' dd = some (errD fl x p) → E (.ref C) (some dd) H'
theorem Raised.same {fl : Str} {C : Addr} {x : V} {H H1 : Hp} {E : XK} (r : Raised fl C x H E) (s : Same H H1) : Raised fl C x H1 E := fun H' dd p s2 h => r H' dd p (s.trans s2) h
/-- what is told of a value that is no family, without the bound of members -/
def famBad (n : Int) (d : PyData) : Option V := if isRows d = true then (match d with
  | .tuple ds => (wrongAt n 0 ds).map fun i => V.int (i : Nat)
  | _ => none) else some .non
/-- sizes, line by line -/
def kidsOf : PyData → List Nat
  | .tuple [_, _, .tuple cs] => cs.map fun c => match c with
    | .int i => i.toNat
    | _ => 0
  | _ => []
def sizeStep (acc : List Int) (d : PyData) : List Int := acc ++ [1 + ((kidsOf d).map fun c => acc.getD c 0).sum]
def sizesL (ds : List PyData) : List Int := ds.foldl sizeStep []
theorem sizes_snoc (ds : List PyData) (d : PyData) : sizesL (ds ++ [d]) = sizeStep (sizesL ds) d := by
  unfold sizesL
  rw [List.foldl_append]
  rfl
theorem sizes_len (ds : List PyData) : (sizesL ds).length = ds.length := by
  have key : ∀ (ds : List PyData) (acc : List Int), (ds.foldl sizeStep acc).length = acc.length + ds.length := by
    intro ds
    induction ds with
    | nil => intro acc; simp
    | cons d ds ih =>
      intro acc
      rw [List.foldl_cons, ih]
      unfold sizeStep
      simp
      omega
  have := key ds []
  simpa [sizesL] using this
/-- a line that is one, taken apart -/
theorem line_parts {place n : Int} {d : PyData} (h : isLine place n d = true) : ∃ (mk : Int) (al : Bool) (cs : List Int), d = .tuple [.int mk, .bool al, .tuple (cs.map PyData.int)] ∧ 0 ≤ mk ∧ mk ≤ n - 1 ∧ cs.length ≤ 600 ∧ ∀ c ∈ cs, 0 ≤ c ∧ c ≤ place - 1 := by
  unfold isLine at h
  split at h
  · rename_i mk al ch
    simp only [Bool.and_eq_true] at h
    obtain ⟨⟨h1, h2⟩, h3⟩ := h
    obtain ⟨i, rfl, i0, i1⟩ : ∃ i, mk = .int i ∧ 0 ≤ i ∧ i ≤ n - 1 := by
      cases mk with
      | int i => simp [isBt] at h1; exact ⟨i, rfl, h1.1, h1.2⟩
      | _ => simp [isBt] at h1
    obtain ⟨b, rfl⟩ : ∃ b, al = .bool b := by
      cases al with
      | bool b => exact ⟨b, rfl⟩
      | _ => simp [isB] at h2
    cases ch with
    | tuple es =>
      simp only [isNRow, Bool.and_eq_true, decide_eq_true_eq, List.all_eq_true] at h3
      have nums : ∀ es : List PyData, (∀ x ∈ es, isBt 0 (place - 1) x = true) → ∃ cs : List Int, es = cs.map PyData.int ∧ ∀ c ∈ cs, 0 ≤ c ∧ c ≤ place - 1 := by
        intro es
        induction es with
        | nil => intro _; exact ⟨[], rfl, fun c z => by cases z⟩
        | cons e es ih =>
          intro all
          obtain ⟨cs, e2, b2⟩ := ih fun x hx => all x (List.mem_cons_of_mem _ hx)
          have b1 := all e List.mem_cons_self
          cases e with
          | int j =>
            simp [isBt] at b1
            exact ⟨j :: cs, by rw [e2] <;> rfl, fun c hc => by
              rcases List.mem_cons.mp hc with z | z
              · rw [z]; exact b1
              · exact b2 c z⟩
          | _ => simp [isBt] at b1
      obtain ⟨cs, rfl, b2⟩ := nums es h3.2
      exact ⟨i, b, cs, rfl, i0, i1, by have := h3.1; simp at this; omega, b2⟩
    | _ => simp [isNRow] at h3
  · cases h
theorem kids_ints {mk : Int} {al : Bool} {cs : List Int} : kidsOf (.tuple [.int mk, .bool al, .tuple (cs.map PyData.int)]) = cs.map Int.toNat := by
  simp [kidsOf, List.map_map, Function.comp_def]
/-- a row of numbers as data -/
theorem dta_ints {H : Hp} {m g : Addr} : ∀ {vs : List V} {cs : List Int}, DtA H m g vs (cs.map PyData.int) → vs = cs.map V.int
  | [], [], _ => rfl
  | _ :: _, _ :: _, .cons (.int _) t => by rw [dta_ints t] <;> rfl
section
variable {P : Program} {w : World} {K : PySem.W.Frag} {mg : Str → Option Value} {base : Heap} {CF B fJ fB : Addr}
abbrev s_need_lines : Stmt := top 22
theorem sc_need_lines : FnScope ["family", "marks", "place"] ["family", "marks"] (defScope s_need_lines) := ⟨rfl, rfl, rfl, by decide +kernel, rfl, by decide +kernel, by decide +kernel⟩
def spLines (CF : Addr) : Sp := fun vs H Q E => ∃ (v : V) (d : PyData) (m g : Addr) (n : Int), vs = [v, .int n] ∧ Dt H m g v d ∧ (famBad n d = none → ∀ H', Same H H' → Q v H') ∧ ∀ x, famBad n d = some x → Raised "place" CF x H E
theorem ok_need_lines (O : PySem.OwnX.OwnTxt P K mg "BadFamily" "place" CF B fJ fB) (k_is_row_of_lines : Kn P w K mg base 1 "is_row_of_lines" ["value"] (spD1 isRows)) (k_wrong_line : Kn P w K mg base 4 "wrong_line" ["family", "marks"] spWrong) (at_ : At K mg "need_lines" s_need_lines ["family", "marks"]) : Kn P w K mg base 5 "need_lines" ["family", "marks"] (spLines CF) := by
  refine Kn.mk (st := s_need_lines) (N := ["family", "marks", "place"]) at_ sc_need_lines (fun vs H Q E h => ?_) (fun f cdv A outer s H vs Q E hr free h => ?_)
  · obtain ⟨v, d, m, g, n, rfl, _⟩ := h
    rfl
  · obtain ⟨v, d, m, g, n, rfl, dt, k1, k2⟩ := h
    refine ⟨_, (pss_cons (ps_if (pt_not (pt_val (pe_callN k_is_row_of_lines free (hr.mono (by decide)) rfl passL (pa_cons (pv 0) pa_nil)))) (pss_one (ps_raiseOwn (k := 2) (fl := "place") rfl O (hr.mono (by decide)) (takes_of rfl rfl rfl rfl) (pa_cons pe_non pa_nil) rfl)) pss_nil) (pss_cons (ps_set (i := 2) sc_need_lines.nd rfl (Or.inl rfl) (pe_callN k_wrong_line free (hr.mono (by decide)) rfl passL (pa_cons (pv 0) (pa_cons (pv 1) pa_nil)))) (pss_cons (ps_if (pt_cmpR op_notN (pv 2) pe_non (nomark _)) (pss_one (ps_raiseOwn (k := 2) (fl := "place") rfl O (hr.mono (by decide)) (takes_of rfl rfl rfl rfl) (pa_cons (pv 2) pa_nil) rfl)) pss_nil) (pss_one (ps_ret (pv 0)))))), ?_⟩
    refine ⟨_, rfl, v, d, m, g, rfl, dt, fun H1 s1 => ⟨_, rfl, ?_⟩⟩
    cases hR : isRows d with
    | false =>
      have e : famBad n d = some .non := by unfold famBad; rw [hR]; rfl
      exact iteT ⟨_, rfl, fun dd p h1 => k2 _ e _ dd p (same_new s1 h1) upd_same⟩
    | true =>
      refine iteF ?_
      obtain ⟨ds, rfl⟩ : ∃ ds, d = .tuple ds := by cases d <;> simp_all [isRows]
      have e : famBad n (.tuple ds) = (wrongAt n 0 ds).map fun i => V.int (i : Nat) := by unfold famBad; rw [hR]; rfl
      refine ⟨_, rfl, _, rfl, v, ds, m, g, n, rfl, dt.same s1, fun H2 s2 => ?_⟩
      cases hw : wrongAt n 0 ds with
      | none =>
        rw [hw] at e
        exact ⟨_, rfl, rfl, _, rfl, iteF ⟨_, rfl, k1 e H2 (s1.trans s2)⟩⟩
      | some i =>
        rw [hw] at e
        exact ⟨_, rfl, rfl, _, rfl, iteT ⟨_, rfl, _, rfl, fun dd p h1 => k2 _ e _ dd p (same_new (s1.trans s2) h1) upd_same⟩⟩
abbrev s_line_sizes : Stmt := top 24
theorem sc_line_sizes : FnScope ["lines", "sizes", "line", "child"] ["lines"] (defScope s_line_sizes) := ⟨rfl, rfl, rfl, by decide +kernel, rfl, by decide +kernel, by decide +kernel⟩
def spSizes : Sp := fun vs H Q _ => ∃ (v : V) (ds : List PyData) (m g : Addr) (n : Int), vs = [v] ∧ Dt H m g v (.tuple ds) ∧ wrongAt n 0 ds = none ∧ ds.length ≤ 2000 ∧ ∀ (p : Addr) H', Same H H' → H' p = some (.lst ((sizesL ds).map V.int)) → Q (.ref p) H'
theorem ok_line_sizes (T : Txt K mg) (at_ : At K mg "line_sizes" s_line_sizes ["lines"]) : Kn P w K mg base 1 "line_sizes" ["lines"] spSizes := by
  refine Kn.mkN (st := s_line_sizes) (N := ["lines", "sizes", "line", "child"]) at_ sc_line_sizes (fun vs H Q E h => ?_) (fun f cdv A outer s H vs Q E hr free h => ?_)
  · obtain ⟨v, ds, m, g, n, rfl, _⟩ := h
    rfl
  · obtain ⟨v, ds, m, g, n, rfl, dt, good, l2, k⟩ := h
    refine ⟨_, (pss_cons (ps_set (i := 1) sc_line_sizes.nd rfl (Or.inr rfl) (pe_lst pa_nil)) (pss_cons (ps_for PassesOwn.never rfl (pi_tup (pv 0)) (pg_name (i := 2) sc_line_sizes.nd rfl (Or.inl rfl)) (pss_one (ps_expr (pe_bm PySem.F.plainAttrs_list PySem.F.slot_list_append PySem.F.type_list_append mt_append (pv 1) (pa_cons (pe_op op_add pe_int (pe_callB (id := "sum") (cr_sum rfl) (by rfl) T.b_sum (by decide +kernel) (pa_cons (pe_lc (own := [("child", 3)]) (by rfl) sc_line_sizes.nd (tt := tYes) (pi_tup (pe_ix ix_tup (pv 2) pe_int (fun _ _ => rfl))) (blkOk_by (own := [("child", 3)]) (N := ["lines", "sizes", "line", "child"]) (sc := defScope s_line_sizes) (by decide +kernel)) (fun _ _ _ _ _ => pg_name (i := 3) sc_line_sizes.nd rfl (Or.inl rfl)) (fun _ _ _ _ _ => pts_nil) (fun _ _ _ _ _ => (pe_ix (ix_list : IxR _ (rIxL K)) (pv 1) (pv 3) (fun _ _ => rfl)))) pa_nil))) pa_nil))))) (pss_one (ps_ret (pv 1))))), ?_⟩
    cases dt with
    | @tup a xs _ hx n1 n2 da =>
    have el := da.len
    refine ⟨Nat.zero_le _, fun p np => ?_⟩
    have s1 := same_upd (o := .lst []) np
    have hp : upd H p (.lst []) p = some (.lst []) := upd_same
    generalize upd H p (.lst []) = H1 at s1 hp ⊢
    refine ⟨_, rfl, a, rfl, ⟨_, SqT.of (s1 _ _ hx)⟩, ?_⟩
    refine for_it (walk_tup (xs := xs)) (fun i σ H' => Same H H' ∧ (∃ v2 v3, σ = [some (.ref a), some (.ref p), v2, v3]) ∧ H' p = some (.lst ((sizesL (ds.take i)).map V.int))) ⟨s1, ⟨_, _, rfl⟩, hp⟩ (fun i σ H' _ q => SqT.of (q.1 _ _ hx)) ?_ ?_
    · rintro i x σ H2 H3 hi ⟨s2, ⟨v2, v3, rfl⟩, hp2⟩ ⟨rfl, hxi⟩
      obtain ⟨di, hdi, dti⟩ := da.at' hxi
      have gi := none_good good i di hdi
      rw [Nat.zero_add] at gi
      obtain ⟨mk, al, cs, rfl, k0, k1, c6, cb⟩ := line_parts gi
      have dti2 := dti.same s2
      cases dti2 with
      | @tup la lx _ hl m1 m2 dl =>
      match lx, dl, hl with
      | [w0, w1, w2], .cons _ (.cons _ (.cons tc .nil)), hl =>
      cases tc with
      | @tup ca cx _ hc m3 m4 dc =>
      obtain rfl := dta_ints dc
      have acc : (sizesL (ds.take i)).length = i := by
        rw [sizes_len, List.length_take]
        omega
      refine ⟨_, rfl, .inl ⟨rfl, _, SqL.of hp2⟩, ?_⟩
      refine ⟨_, rfl, la, _, 2, .ref ca, rfl, rfl, SqT.of hl, rfl, ca, rfl, ⟨_, SqT.of hc⟩, fun D nD => ?_⟩
      refine lc_filt (walk_tup (xs := cs.map V.int)) (fun _ => true) (fun j => .int ((sizesL (ds.take i)).getD ((cs.getD j 0).toNat) 0)) (fun H' s' => SqT.of (s' _ _ hc)) (fun i H x H' y => by obtain ⟨rfl, _⟩ := y; exact Same.refl _) nD (by rw [List.length_map]; exact small_of (k := 600) c6 (by decide)) (fun j x H4 H5 Qy Qn hj y s4 q1 q2 => ?_) (fun H4 s4 hD4 => ?_)
      · obtain ⟨rfl, hy⟩ := y
        rw [List.getElem?_map] at hy
        cases hcj : cs[j]? with
        | none => rw [hcj] at hy; cases hy
        | some c =>
          rw [hcj] at hy
          obtain rfl := Option.some.inj hy
          have cm := cb c (List.mem_of_getElem? hcj)
          obtain ⟨c', rfl⟩ : ∃ c' : Nat, c = (c' : Int) := ⟨c.toNat, by omega⟩
          have z := q1 rfl _ (Same.refl _)
          have hcd : cs.getD j 0 = (c' : Int) := by
            rw [List.getD_eq_getElem?_getD, hcj]
            rfl
          rw [hcd] at z
          have lt : c' < (sizesL (ds.take i)).length := by omega
          refine ⟨rfl, yes_if ⟨_, rfl, _, rfl, p, _, _, _, rfl, rfl, SqL.of (s4 _ _ hp2), ix_ints lt, ?_⟩⟩
          rw [Int.toNat_natCast] at z
          rw [List.getD_eq_getElem?_getD, List.getElem?_eq_getElem lt] at z
          exact z
      · refine ⟨D, ((List.range (cs.map V.int).length).filter fun _ => true).map (fun j => (sizesL (ds.take i)).getD ((cs.getD j 0).toNat) 0), rfl, SqL.of (by rw [hD4, List.map_map]; rfl), _, _, rfl, rfl, ?_⟩
        have hp4 := s4 _ _ hp2
        refine ⟨p, _, _, rfl, rfl, hp4, by rw [List.length_map, acc]; exact Nat.lt_of_lt_of_le hi (by rw [el]; exact Nat.le_trans l2 (by decide)), same_set (s2.trans s4) np, ⟨_, _, rfl⟩, ?_⟩
        rw [upd_same]
        have step : sizesL (ds.take (i + 1)) = sizeStep (sizesL (ds.take i)) (.tuple [.int mk, .bool al, .tuple (cs.map PyData.int)]) := by
          rw [List.take_add_one, hdi]
          exact sizes_snoc _ _
        rw [step]
        unfold sizeStep
        rw [kids_ints, List.map_append]
        have sums : (((List.range (cs.map V.int).length).filter fun _ => true).map (fun j => (sizesL (ds.take i)).getD ((cs.getD j 0).toNat) 0)) = (cs.map Int.toNat).map fun c => (sizesL (ds.take i)).getD c 0 := by
          rw [List.filter_eq_self.mpr (fun _ _ => rfl)]
          refine List.ext_getElem? fun j => ?_
          simp only [List.getElem?_map, List.length_map, List.getElem?_range']
          by_cases c : j < cs.length
          · simp [c]
          · simp [c]
        rw [sums]
        rfl
    · rintro σ H2 ⟨s2, ⟨v2, v3, rfl⟩, hp2⟩
      rw [List.take_of_length_le (by omega)] at hp2
      exact ⟨_, rfl, k p H2 s2 hp2⟩
end
end Hk
set_option Elab.async false
set_option linter.all false
set_option maxRecDepth 100000
set_option maxHeartbeats 4000000
namespace Hk
open PySem PySem.Spec PyProof.Rows L2
/-- a named def with defaults, that all its callers give all arguments -/
def AtD (K : PySem.W.Frag) (mg : Str → Option Value) (nm : Str) (st : Stmt) (ps : List Str) (dvs : List V) : Prop := ∃ (f : Addr) (fd : FuncData), FunD K nm nm (defArgs st) (defBody st) (defScope st) dvs [] f fd ∧ mg nm = some (.ref f) ∧ Binds K fd ps []
theorem Kn.mkDX {P : Program} {w : World} {K : PySem.W.Frag} {mg : Str → Option Value} {base : Heap} {k : Nat} {nm : Str} {st : Stmt} {N ps : List Str} {sp : Sp} {dvs : List V} (at_ : AtD K mg nm st ps dvs) (S : FnScope N ps (defScope st)) (many : ∀ vs H Q E, sp vs H Q E → vs.length = ps.length)
    (body : ∀ (f : Addr) (cdv : Value) (A : Around) (outer : List Env) (s : Shared) (H : Hp) (vs : List V) (Q : VK) (E : XK), Room k (A.deeper (envOfC nm (defScope st) s.heap.objs.size f cdv)) → (A.deeper (envOfC nm (defScope st) s.heap.objs.size f cdv)).guards = some [] → sp vs H Q E →
      ∃ t, PSs (cxOf (L2.CX P w) P w K mg base N nm (defScope st) f cdv A outer s H E) (defBody st) t ∧ t { nx := fun _ H' => Q .non H', rt := Q } (start N vs) H) : Kn P w K mg base (k + 1) nm ps sp := by
  obtain ⟨f, fd, F, hm, hb⟩ := at_
  have kp := F.kp
  obtain ⟨oc, od, dV, kV, doc, pm, an, cdv, ct, osl, rfl, lk, hcd, _, _⟩ := F.ex
  refine ⟨f, _, ⟨many, fun A outer s H given us vs Q E hr free e0 hb rel want => ?_⟩, hm, kp, hb⟩
  exact LamX.run_ofS lk hcd S hr e0 hb rel (many _ _ _ _ want) fun hr' => body f cdv A outer s H vs Q E hr' free want
/-- what is told of a value that is no family -/
def famErr (n : Int) (d : PyData) : Option V := match famBad n d, d with
  | some x, _ => some x
  | none, .tuple ds => if (10 : Int) ^ 60 < (sizesL ds).getLastD 0 then some .non else none
  | none, _ => none
theorem atI_last {xs : List Int} (h : 1 ≤ xs.length) : atI (xs.map V.int) (-1) = some (.int (xs.getLastD 0)) := by
  have hx : ixN (xs.map V.int).length (-1) = some (xs.length - 1) := by
    unfold ixN
    rw [List.length_map, if_neg (by omega), if_pos (by omega)]
    congr 1
    omega
  unfold atI
  rw [hx]
  show (xs.map V.int)[xs.length - 1]? = _
  rw [List.getElem?_map, ← List.getLast?_eq_getElem?]
  cases xs with
  | nil => simp at h
  | cons x xs => simp [List.getLast?_cons, List.getLastD_cons]
section
variable {P : Program} {w : World} {K : PySem.W.Frag} {mg : Str → Option Value} {base : Heap} {CF B fJ fB : Addr}
abbrev s_need_family : Stmt := top 23
theorem sc_need_family : FnScope ["family", "marks"] ["family", "marks"] (defScope s_need_family) := ⟨rfl, rfl, rfl, by decide +kernel, rfl, by decide +kernel, by decide +kernel⟩
def spFamily (CF : Addr) : Sp := fun vs H Q E => ∃ (v : V) (d : PyData) (m g : Addr) (n : Int), vs = [v, .int n] ∧ Dt H m g v d ∧ 1 ≤ n ∧ n ≤ 3 ∧ (famErr n d = none → ∀ H', Same H H' → Q v H') ∧ ∀ x, famErr n d = some x → Raised "place" CF x H E
theorem ok_need_family (O : PySem.OwnX.OwnTxt P K mg "BadFamily" "place" CF B fJ fB) (hmm : ∃ t, mg "MOST_MEMBERS" = some (.int (10 ^ 60) t)) (k_need_marks : Kn P w K mg base 4 "need_marks" ["marks"] spNeedM) (k_need_lines : Kn P w K mg base 5 "need_lines" ["family", "marks"] (spLines CF)) (k_line_sizes : Kn P w K mg base 1 "line_sizes" ["lines"] spSizes)
    (at_ : AtD K mg "need_family" s_need_family ["family", "marks"] [.int 3]) : Kn P w K mg base 6 "need_family" ["family", "marks"] (spFamily CF) := by
  refine Kn.mkDX (st := s_need_family) (N := ["family", "marks"]) at_ sc_need_family (fun vs H Q E h => ?_) (fun f cdv A outer s H vs Q E hr free h => ?_)
  · obtain ⟨v, d, m, g, n, rfl, _⟩ := h
    rfl
  · obtain ⟨v, d, m, g, n, rfl, dt, n1, n3, k1, k2⟩ := h
    obtain ⟨t, hmm⟩ := hmm
    refine ⟨_, (pss_cons (ps_expr (pe_callN k_need_marks free (hr.mono (by decide)) rfl passL (pa_cons (pv 1) pa_nil))) (pss_cons (ps_expr (pe_callN k_need_lines free (hr.mono (by decide)) rfl (passes_call (takes_of rfl rfl rfl rfl) fun _ _ _ _ h => h) (pa_cons (pv 0) (pa_cons (pv 1) pa_nil)))) (pss_cons (ps_if (pt_cmpR op_gt (pe_ix ix_list (pe_callN k_line_sizes free (hr.mono (by decide)) rfl passL (pa_cons (pv 0) pa_nil)) (pe_un un_neg pe_int) (fun _ _ => rfl)) (pe_glob (v := .int (10 ^ 60)) rfl hmm ⟨_, rfl⟩) (nomark _)) (pss_one (ps_raiseOwn (k := 3) (fl := "place") rfl O (hr.mono (by decide)) (takes_of rfl rfl rfl rfl) (pa_cons pe_non pa_nil) rfl)) pss_nil) (pss_one (ps_ret (pv 0)))))), ?_⟩
    refine ⟨_, rfl, n, rfl, n1, n3, fun H1 s1 => ?_⟩
    refine ⟨_, rfl, _, rfl, v, d, m, g, n, rfl, dt.same s1, fun hb H2 s2 => ?_, fun x hb => (k2 x (by unfold famErr; rw [hb])).same s1⟩
    have hR : isRows d = true := by
      cases q : isRows d with
      | true => rfl
      | false =>
        unfold famBad at hb
        rw [q] at hb
        cases hb
    obtain ⟨ds, rfl⟩ : ∃ ds, d = .tuple ds := by cases d <;> simp_all [isRows]
    have hw : wrongAt n 0 ds = none := by
      have e : famBad n (.tuple ds) = (wrongAt n 0 ds).map fun i => V.int (i : Nat) := by unfold famBad; rw [hR]; rfl
      rw [hb] at e
      cases q : wrongAt n 0 ds with
      | none => rfl
      | some i => rw [q] at e; cases e
    have len : 1 ≤ ds.length ∧ ds.length ≤ 2000 := by
      have z : (decide (1 ≤ ds.length) && decide (ds.length ≤ 2000)) = true := hR
      simpa using z
    refine ⟨_, rfl, v, ds, m, g, n, rfl, dt.same (s1.trans s2), hw, len.2, fun p H3 s3 hp => ?_⟩
    refine ⟨_, rfl, p, _, _, _, rfl, rfl, SqL.of hp, atI_last (by rw [sizes_len]; exact len.1), _, _, rfl, rfl, _, rfl, ?_⟩
    have e : famErr n (.tuple ds) = if (10 : Int) ^ 60 < (sizesL ds).getLastD 0 then some .non else none := by unfold famErr; rw [hb]
    by_cases c : (10 : Int) ^ 60 < (sizesL ds).getLastD 0
    · refine (if_pos (decide_eq_true c)).mpr ?_
      rw [if_pos c] at e
      exact ⟨_, rfl, fun dd p h1 => k2 _ e _ dd p (same_new ((s1.trans s2).trans s3) h1) upd_same⟩
    · refine (if_neg (by simpa using c)).mpr ?_
      rw [if_neg c] at e
      exact ⟨_, rfl, k1 e H3 ((s1.trans s2).trans s3)⟩
end
end Hk
set_option Elab.async false
set_option linter.all false
set_option maxRecDepth 100000
set_option maxHeartbeats 4000000
namespace Hk
open PySem PySem.Spec PyProof.Rows L2
def rLenQ (K : PySem.W.Frag) : List V → Hp → VK → Prop := fun xs H Q => ∃ p ys, xs = [.ref p] ∧ (SqL K H p ys ∨ SqT K H p ys) ∧ Q (.int ys.length) H
def lenOf : PyData → Nat
  | .tuple ds => ds.length
  | _ => 0
def isWts (d : PyData) : Bool := isNRow 8 99 d && decide (0 < lenOf d)
def isDRow (ranks top : Int) (d : PyData) : Bool := isNRow ranks top d && decide ((lenOf d : Int) = ranks)
def isDRead (ranks : Int) : PyData → Bool
  | .tuple ds => decide (1 ≤ ds.length) && decide (ds.length ≤ 8) && ds.all (isDRow ranks ((ds.length : Int) - 1))
  | _ => false
def isTake (ranks : Int) (ws : List Str) : PyData → Bool
  | .tuple [a, b] => isBt 0 (ranks - 1) a && inW ws b
  | _ => false
def isTakes (stands ranks : Int) (ws : List Str) : PyData → Bool
  | .tuple ds => decide ((ds.length : Int) = stands) && ds.all (isTake ranks ws)
  | _ => false
theorem nrow_tup {most high : Int} {d : PyData} (h : isNRow most high d = true) : ∃ ds, d = .tuple ds := by cases d <;> simp_all [isNRow]
theorem dp_strs {K : PySem.W.Frag} {H : Hp} : ∀ ws : List Str, DpAll K H (ws.map V.str) (ws.map PyData.str)
  | [] => .nil
  | x :: ws => .cons (.str x) (dp_strs ws)
section
variable {P : Program} {w : World} {K : PySem.W.Frag} {mg : Str → Option Value} {base : Heap}
abbrev s_is_weights : Stmt := top 28
theorem sc_is_weights : FnScope ["value"] ["value"] (defScope s_is_weights) := ⟨rfl, rfl, rfl, by decide +kernel, rfl, by decide +kernel, by decide +kernel⟩
theorem ok_is_weights (T : Txt K mg) (hms : ∃ t, mg "MOST_STATES" = some (.int 8 t)) (hmw : ∃ t, mg "MOST_WEIGHT" = some (.int 99 t)) (k_is_number_row : Kn P w K mg base 1 "is_number_row" ["value", "most", "high"] spNRow) (at_ : At K mg "is_weights" s_is_weights ["value"]) : Kn P w K mg base 2 "is_weights" ["value"] (spD1 isWts) := by
  refine Kn.mkN (st := s_is_weights) (N := ["value"]) at_ sc_is_weights (fun vs H Q E h => ?_) (fun f cdv A outer s H vs Q E hr free h => ?_)
  · obtain ⟨v, d, m, g, rfl, _⟩ := h
    rfl
  · obtain ⟨v, d, m, g, rfl, dt, k⟩ := h
    obtain ⟨t, hms⟩ := hms
    obtain ⟨t2, hmw⟩ := hmw
    refine ⟨_, (pss_one (ps_ret (pe_and (pe_callN k_is_number_row free (hr.mono (by decide)) rfl passL (pa_cons (pv 0) (pa_cons (pe_glob (v := .int 8) rfl hms ⟨_, rfl⟩) (pa_cons (pe_glob (v := .int 99) rfl hmw ⟨_, rfl⟩) pa_nil)))) (pe_one (pe_cmpR op_gt (pe_callB (id := "len") call_len_seq (by rfl) T.b_len (by decide +kernel) (pa_cons (pv 0) pa_nil)) pe_int (nomark _)))))), ?_⟩
    refine ⟨_, rfl, v, d, m, g, 8, 99, rfl, dt, by decide, fun H1 s1 => ⟨_, rfl, ?_⟩⟩
    have k' := k H1 s1
    unfold isWts at k'
    cases hn : isNRow 8 99 d with
    | false =>
      rw [hn] at k'
      exact iteF k'
    | true =>
      rw [hn, Bool.true_and] at k'
      obtain ⟨ds, rfl⟩ := nrow_tup hn
      cases dt with
      | @tup a xs _ hx n1 n2 da =>
      have el := da.len
      refine iteT ⟨_, rfl, a, xs, rfl, .inr (SqT.of (s1 _ _ hx)), _, _, rfl, rfl, ?_⟩
      have e : decide (0 < lenOf (.tuple ds)) = decide ((0 : Int) < (xs.length : Int)) := by
        show decide (0 < ds.length) = _
        by_cases c : 0 < ds.length
        · rw [decide_eq_true c, decide_eq_true (by omega)]
        · rw [decide_eq_false c, decide_eq_false (by omega)]
      rw [e] at k'
      exact k'
abbrev s_is_deal_read : Stmt := top 29
theorem sc_is_deal_read : FnScope ["value", "ranks", "row"] ["value", "ranks"] (defScope s_is_deal_read) := ⟨rfl, rfl, rfl, by decide +kernel, rfl, by decide +kernel, by decide +kernel⟩
def spDRead : Sp := fun vs H Q _ => ∃ (v : V) (d : PyData) (m g : Addr) (ranks : Int), vs = [v, .int ranks] ∧ Dt H m g v d ∧ ranks ≤ 8 ∧ ∀ H', Same H H' → Q (.bl (isDRead ranks d)) H'
theorem ok_is_deal_read (T : Txt K mg) (hms : ∃ t, mg "MOST_STATES" = some (.int 8 t)) (k_is_number_row : Kn P w K mg base 1 "is_number_row" ["value", "most", "high"] spNRow) (at_ : At K mg "is_deal_read" s_is_deal_read ["value", "ranks"]) : Kn P w K mg base 2 "is_deal_read" ["value", "ranks"] spDRead := by
  refine Kn.mkN (st := s_is_deal_read) (N := ["value", "ranks", "row"]) at_ sc_is_deal_read (fun vs H Q E h => ?_) (fun f cdv A outer s H vs Q E hr free h => ?_)
  · obtain ⟨v, d, m, g, ranks, rfl, _⟩ := h
    rfl
  · obtain ⟨v, d, m, g, ranks, rfl, dt, r8, k⟩ := h
    obtain ⟨t, hms⟩ := hms
    refine ⟨_, (pss_cons (ps_if (PW.pt (pw_or (pt_not (pt_val (pe_callB (id := "isinstance") (show CallR _ (.builtin "isinstance") (rIsi K) from call_isi) (by rfl) T.b_isinstance (by decide +kernel) (pa_cons (pv 0) (pa_cons (pe_bltn (v := .ty "tuple") (by rfl) T.b_tuple (by decide +kernel) rfl) pa_nil))))) (pw_or1 (pt_not (pt_chain op_le op_le pe_int (pe_callB (id := "len") (show CallR _ (.builtin "len") (rLenQ K) from call_len_seq) (by rfl) T.b_len (by decide +kernel) (pa_cons (pv 0) pa_nil)) (pe_glob (v := .int 8) rfl hms ⟨_, rfl⟩)))))) (pss_one (ps_ret pe_bl)) pss_nil) (pss_one (ps_ret (pe_callB (id := "all") (cr_all rfl) (by rfl) T.b_all (by decide +kernel) (pa_cons (pe_lc (own := [("row", 2)]) (by rfl) sc_is_deal_read.nd (tt := tYes) (pi_tup (pv 0)) (blkOk_by (own := [("row", 2)]) (N := ["value", "ranks", "row"]) (sc := defScope s_is_deal_read) (by decide +kernel)) (fun _ _ _ _ _ => pg_name (i := 2) sc_is_deal_read.nd rfl (Or.inl rfl)) (fun _ _ _ _ _ => pts_nil) (fun _ _ _ _ _ => (pe_and (pe_callN k_is_number_row free (hr.mono (by decide)) rfl (passL : Passes (L2.CX P w) _ E0) (pa_cons (pv 2) (pa_cons (pv 1) (pa_cons (pe_op op_sub (pe_callB (id := "len") (show CallR _ (.builtin "len") (rLenQ K) from call_len_seq) (by rfl) T.b_len (by decide +kernel) (pa_cons (pv 0) pa_nil)) pe_int) pa_nil)))) (pe_one (pe_cmpR op_eq (pe_callB (id := "len") (show CallR _ (.builtin "len") (rLenQ K) from call_len_seq) (by rfl) T.b_len (by decide +kernel) (pa_cons (pv 2) pa_nil)) (pv 1) (nomark _)))))) pa_nil))))), ?_⟩
    refine ⟨_, rfl, v, .ty "tuple", .type (tyN d), .type "tuple", isT d, rfl, .ty _, dt.ty, kit_T dt, _, rfl, ?_⟩
    cases hT : isT d with
    | false =>
      have k' := k H (Same.refl H)
      have e : isDRead ranks d = false := by cases d <;> simp_all [isT, isDRead]
      rw [e] at k'
      exact iteT (iteT k')
    | true =>
      obtain ⟨ds, rfl⟩ := isT_tup' hT
      cases dt with
      | @tup a xs _ hx n1 n2 da =>
      have el := da.len
      have e : isDRead ranks (.tuple ds) = (decide (1 ≤ ds.length) && decide (ds.length ≤ 8) && ds.all (isDRow ranks ((ds.length : Int) - 1))) := rfl
      refine iteF ⟨_, rfl, a, xs, rfl, .inr (SqT.of hx), _, _, rfl, rfl, _, rfl, ?_⟩
      by_cases c1 : (1 : Int) ≤ (xs.length : Int)
      · rw [decide_eq_true c1]
        refine iteT ⟨_, _, rfl, rfl, _, rfl, ?_⟩
        by_cases c2 : (xs.length : Int) ≤ 8
        · rw [decide_eq_true c2]
          refine iteF ?_
          refine ⟨_, rfl, a, rfl, ⟨_, SqT.of hx⟩, fun D nD => ?_⟩
          refine lc_map (fun i => .bl (((ds[i]?).map (isDRow ranks ((ds.length : Int) - 1))).getD false)) hx nD (small_of (k := 8) (by omega) (by decide)) (fun i x H1 Q' hxi s1 q => ?_) (fun H1 s1 hD => ?_)
          · obtain ⟨di, hdi, dti⟩ := da.at' hxi
            refine ⟨rfl, _, rfl, _, rfl, _, rfl, a, xs, rfl, .inr (SqT.of (s1 _ _ hx)), _, _, rfl, rfl, x, di, m, g, ranks, (xs.length : Int) - 1, rfl, dti.same s1, by omega, fun H2 s2 => ⟨_, rfl, ?_⟩⟩
            have z := q H2 s2
            rw [hdi, ← el] at z
            have z : Q' (.bl (isNRow ranks ((xs.length : Int) - 1) di && decide ((lenOf di : Int) = ranks))) H2 := z
            cases hn : isNRow ranks ((xs.length : Int) - 1) di with
            | false =>
              rw [hn] at z
              exact iteF z
            | true =>
              rw [hn, Bool.true_and] at z
              obtain ⟨es, rfl⟩ := nrow_tup hn
              cases dti with
              | @tup ra rx _ hrx m1 m2 dr =>
              refine iteT ⟨_, rfl, ra, rx, rfl, .inr (SqT.of (s2 _ _ (s1 _ _ hrx))), _, rfl, rfl, ?_⟩
              have e3 : decide (V.int (rx.length : Int) = V.int ranks) = decide ((lenOf (.tuple es) : Int) = ranks) := by
                show _ = decide ((es.length : Int) = ranks)
                rw [← dr.len]
                by_cases c : (rx.length : Int) = ranks
                · rw [decide_eq_true c, decide_eq_true (by rw [c])]
                · rw [decide_eq_false c, decide_eq_false (fun z => c (V.int.inj z))]
              rw [e3]
              exact z
          · refine ⟨D, (List.range xs.length).map (fun i => ((ds[i]?).map (isDRow ranks ((ds.length : Int) - 1))).getD false), rfl, SqL.of (by rw [hD, List.map_map]; rfl), ?_⟩
            have k' := k H1 s1
            rw [el, range_all]
            have e2 : isDRead ranks (.tuple ds) = ds.all (isDRow ranks ((ds.length : Int) - 1)) := by
              rw [e, decide_eq_true (show 1 ≤ ds.length by omega), decide_eq_true (show ds.length ≤ 8 by omega)]
              rfl
            rw [e2] at k'
            exact k'
        · rw [decide_eq_false c2]
          refine iteT ?_
          have k' := k H (Same.refl H)
          have e2 : isDRead ranks (.tuple ds) = false := by
            rw [e, decide_eq_false (show ¬ ds.length ≤ 8 by omega)]
            simp
          rw [e2] at k'
          exact k'
      · rw [decide_eq_false c1]
        refine iteF ?_
        refine ⟨_, rfl, ?_⟩
        have k' := k H (Same.refl H)
        have e2 : isDRead ranks (.tuple ds) = false := by
          rw [e, decide_eq_false (show ¬ 1 ≤ ds.length by omega)]
          simp
        rw [e2] at k'
        exact iteT k'
abbrev s_is_takes : Stmt := top 30
theorem sc_is_takes : FnScope ["value", "stands", "ranks", "words", "cell"] ["value", "stands", "ranks", "words"] (defScope s_is_takes) := ⟨rfl, rfl, rfl, by decide +kernel, rfl, by decide +kernel, by decide +kernel⟩
def spTakes (K : PySem.W.Frag) : Sp := fun vs H Q _ => ∃ (v : V) (d : PyData) (m g wa : Addr) (stands ranks : Int) (ws : List Str), vs = [v, .int stands, .int ranks, .ref wa] ∧ Dt H m g v d ∧ Okd d ∧ stands ≤ 8 ∧ (∀ H', Same H H' → SqT K H' wa (ws.map V.str)) ∧ Okd (.tuple (ws.map PyData.str)) ∧ ∀ H', Same H H' → Q (.bl (isTakes stands ranks ws d)) H'
theorem ok_is_takes (T : Txt K mg) (k_is_pair : Kn P w K mg base 1 "is_pair" ["value"] (spD1 isPair)) (k_is_between : Kn P w K mg base 2 "is_between" ["value", "low", "high"] (spD1I isBt)) (at_ : At K mg "is_takes" s_is_takes ["value", "stands", "ranks", "words"]) : Kn P w K mg base 3 "is_takes" ["value", "stands", "ranks", "words"] (spTakes K) := by
  refine Kn.mkN (st := s_is_takes) (N := ["value", "stands", "ranks", "words", "cell"]) at_ sc_is_takes (fun vs H Q E h => ?_) (fun f cdv A outer s H vs Q E hr free h => ?_)
  · obtain ⟨v, d, m, g, wa, stands, ranks, ws, rfl, _⟩ := h
    rfl
  · obtain ⟨v, d, m, g, wa, stands, ranks, ws, rfl, dt, od, s8, hw, ow, k⟩ := h
    refine ⟨_, (pss_cons (ps_if (PW.pt (pw_or (pt_not (pt_val (pe_callB (id := "isinstance") (show CallR _ (.builtin "isinstance") (rIsi K) from call_isi) (by rfl) T.b_isinstance (by decide +kernel) (pa_cons (pv 0) (pa_cons (pe_bltn (v := .ty "tuple") (by rfl) T.b_tuple (by decide +kernel) rfl) pa_nil))))) (pw_or1 (pt_cmpR op_ne (pe_callB (id := "len") call_len_seq (by rfl) T.b_len (by decide +kernel) (pa_cons (pv 0) pa_nil)) (pv 1) (nomark _))))) (pss_one (ps_ret pe_bl)) pss_nil) (pss_one (ps_ret (pe_callB (id := "all") (cr_all rfl) (by rfl) T.b_all (by decide +kernel) (pa_cons (pe_lc (own := [("cell", 4)]) (by rfl) sc_is_takes.nd (tt := tYes) (pi_tup (pv 0)) (blkOk_by (own := [("cell", 4)]) (N := ["value", "stands", "ranks", "words", "cell"]) (sc := defScope s_is_takes) (by decide +kernel)) (fun _ _ _ _ _ => pg_name (i := 4) sc_is_takes.nd rfl (Or.inl rfl)) (fun _ _ _ _ _ => pts_nil) (fun _ _ _ _ _ => (pe_and (pe_callN k_is_pair free (hr.mono (by decide)) rfl (passL : Passes (L2.CX P w) _ E0) (pa_cons (pv 4) pa_nil)) (pe_and (pe_callN k_is_between free (hr.mono (by decide)) rfl (passL : Passes (L2.CX P w) _ E0) (pa_cons (pe_ix (show IxR _ (rIxT K) from ix_tup) (pv 4) pe_int (fun _ _ => rfl)) (pa_cons pe_int (pa_cons (pe_op op_sub (pv 2) pe_int) pa_nil)))) (pe_one (pe_cmpR (show OpR _ (compareOp .In) (rInT K) from op_inT (room65 hr)) (pe_ix (show IxR _ (rIxT K) from ix_tup) (pv 4) pe_int (fun _ _ => rfl)) (pv 3) (by rfl))))))) pa_nil))))), ?_⟩
    refine ⟨_, rfl, v, .ty "tuple", .type (tyN d), .type "tuple", isT d, rfl, .ty _, dt.ty, kit_T dt, _, rfl, ?_⟩
    cases hT : isT d with
    | false =>
      have k' := k H (Same.refl H)
      have e : isTakes stands ranks ws d = false := by cases d <;> simp_all [isT, isTakes]
      rw [e] at k'
      exact iteT (iteT k')
    | true =>
      obtain ⟨ds, rfl⟩ := isT_tup' hT
      cases dt with
      | @tup a xs _ hx n1 n2 da =>
      have el := da.len
      have e : isTakes stands ranks ws (.tuple ds) = (decide ((ds.length : Int) = stands) && ds.all (isTake ranks ws)) := rfl
      refine iteF ⟨_, rfl, a, xs, rfl, .inr (SqT.of hx), _, rfl, rfl, _, rfl, ?_⟩
      by_cases c : (ds.length : Int) = stands
      · refine (if_neg (by have h3 : (xs.length : Int) = stands := (by omega); simp [h3])).mpr ?_
        refine ⟨_, rfl, a, rfl, ⟨_, SqT.of hx⟩, fun D nD => ?_⟩
        refine lc_map (fun i => .bl (((ds[i]?).map (isTake ranks ws)).getD false)) hx nD (small_of (k := 8) (by omega) (by decide)) (fun i x H1 Q' hxi s1 q => ?_) (fun H1 s1 hD => ?_)
        · obtain ⟨di, hdi, dti⟩ := da.at' hxi
          have odi : Okd di := okd_tup od (List.mem_of_getElem? hdi)
          refine ⟨rfl, _, rfl, x, di, m, g, rfl, dti.same s1, fun H2 s2 => ⟨_, rfl, ?_⟩⟩
          have s12 := s1.trans s2
          cases hp : isPair di with
          | false =>
            have z := q H2 s2
            have e0 : isTake ranks ws di = false := by
              unfold isTake
              split
              · simp [isPair] at hp
              · rfl
            rw [hdi] at z
            have z : Q' (.bl (isTake ranks ws di)) H2 := z
            rw [e0] at z
            exact iteF z
          | true =>
            obtain ⟨d0, d1, rfl⟩ := pair_two hp
            refine iteT ?_
            cases dti with
            | @tup ca cx _ hcx m1 m2 dc =>
            match cx, dc, hcx with
            | [x0, x1], .cons t0 (.cons t1 .nil), hcx =>
            have hc2 := s12 _ _ hcx
            refine ⟨_, rfl, ca, _, 0, x0, rfl, rfl, SqT.of hc2, rfl, _, rfl, _, _, rfl, rfl, x0, d0, m, g, 0, ranks - 1, rfl, t0.same s12, fun H3 s3 => ⟨_, rfl, ?_⟩⟩
            cases hb : isBt 0 (ranks - 1) d0 with
            | false =>
              have z := q H3 (s2.trans s3)
              rw [hdi] at z
              have z : Q' (.bl (isBt 0 (ranks - 1) d0 && inW ws d1)) H3 := z
              rw [hb] at z
              exact iteF z
            | true =>
              have z := q H3 (s2.trans s3)
              rw [hdi] at z
              have z : Q' (.bl (isBt 0 (ranks - 1) d0 && inW ws d1)) H3 := z
              rw [hb, Bool.true_and] at z
              refine iteT ⟨_, rfl, ca, _, 1, x1, rfl, rfl, SqT.of (s3 _ _ hc2), rfl, _, rfl, d1, ws.map PyData.str, (t1.same (s12.trans s3)).dp, .tup (hw _ (s12.trans s3)) (dp_strs ws), okd_tup odi (by simp), ow, ?_⟩
              rw [inW_any]
              exact z
        · refine ⟨D, (List.range xs.length).map (fun i => ((ds[i]?).map (isTake ranks ws)).getD false), rfl, SqL.of (by rw [hD, List.map_map]; rfl), ?_⟩
          have k' := k H1 s1
          rw [el, range_all]
          rw [e, decide_eq_true c, Bool.true_and] at k'
          exact k'
      · refine (if_pos (by have h3 : ¬ (xs.length : Int) = stands := (by omega); simp [h3])).mpr ?_
        have k' := k H (Same.refl H)
        rw [e, decide_eq_false c, Bool.false_and] at k'
        exact k'
end
end Hk
set_option Elab.async false
set_option linter.all false
set_option maxRecDepth 100000
set_option maxHeartbeats 4000000
namespace Hk
open PySem PySem.Spec PyProof.Rows L2
def takeW : List Str := ["lines", "lost"]
def takeS : List Str := ["lines", "lost", "self"]
def isDPair (stands ranks : Int) : PyData → Bool
  | .tuple [a, b] => isTakes stands ranks takeW a && isTakes stands ranks takeS b
  | _ => false
def isDClose (marks stands ranks : Int) : PyData → Bool
  | .tuple ds => decide ((ds.length : Int) = marks) && ds.all (isDPair stands ranks)
  | _ => false
def intOf : PyData → Int
  | .int n => n
  | _ => 0
def dealFault : PyData → Option Str
  | .tuple [mk, ws, rd, cl] =>
    if isBt 1 3 mk then
      if isWts ws then
        if isDRead (lenOf ws) rd then
          if isDClose (intOf mk) (lenOf rd) (lenOf ws) cl then none else some "close"
        else some "read"
      else some "weights"
    else some "form"
  | _ => some "form"
def wordV : Option Str → V
  | none => .non
  | some w => .str w
theorem okd_words : Okd (.tuple (takeW.map PyData.str)) ∧ Okd (.tuple (takeS.map PyData.str)) := by decide +kernel
theorem cat_tup' {K : PySem.W.Frag} {H : Hp} {a b : Addr} {xs ys : List V} {Q : VK} (ha : SqT K H a xs) (hb : SqT K H b ys) (small : xs.length + ys.length ≤ sizeLine) (nx : xs ≠ []) (ny : ys ≠ []) (k : ∀ p H', Same H H' → H' p = some (.tup (xs ++ ys)) → Q (.ref p) H') : rCatA K (.ref a) (.ref b) H Q :=
  ⟨a, b, xs, ys, rfl, rfl, ha, hb, small, fun e => absurd e nx, fun _ e => absurd e ny, fun _ _ p np => k p _ (same_upd np) upd_same⟩
section
variable {P : Program} {w : World} {K : PySem.W.Frag} {mg : Str → Option Value} {base : Heap} {CD B fI fB : Addr}
abbrev s_is_deal_close : Stmt := top 31
theorem sc_is_deal_close : FnScope ["value", "marks", "stands", "ranks", "pair"] ["value", "marks", "stands", "ranks"] (defScope s_is_deal_close) := ⟨rfl, rfl, rfl, by decide +kernel, rfl, by decide +kernel, by decide +kernel⟩
def spDClose : Sp := fun vs H Q _ => ∃ (v : V) (d : PyData) (m g : Addr) (marks stands ranks : Int), vs = [v, .int marks, .int stands, .int ranks] ∧ Dt H m g v d ∧ Okd d ∧ stands ≤ 8 ∧ ∀ H', Same H H' → Q (.bl (isDClose marks stands ranks d)) H'
theorem ok_is_deal_close (T : Txt K mg) (hta : ∃ ta, mg "TAKES" = some (.ref ta) ∧ ∀ H, SqT K H ta (takeW.map V.str)) (k_is_pair : Kn P w K mg base 1 "is_pair" ["value"] (spD1 isPair)) (k_is_takes : Kn P w K mg base 3 "is_takes" ["value", "stands", "ranks", "words"] (spTakes K)) (at_ : At K mg "is_deal_close" s_is_deal_close ["value", "marks", "stands", "ranks"]) : Kn P w K mg base 4 "is_deal_close" ["value", "marks", "stands", "ranks"] spDClose := by
  refine Kn.mkN (st := s_is_deal_close) (N := ["value", "marks", "stands", "ranks", "pair"]) at_ sc_is_deal_close (fun vs H Q E h => ?_) (fun f cdv A outer s H vs Q E hr free h => ?_)
  · obtain ⟨v, d, m, g, marks, stands, ranks, rfl, _⟩ := h
    rfl
  · obtain ⟨v, d, m, g, marks, stands, ranks, rfl, dt, od, s8, k⟩ := h
    obtain ⟨ta, hta, hTA⟩ := hta
    refine ⟨_, (pss_cons (ps_if (PW.pt (pw_or (pt_not (pt_val (pe_callB (id := "isinstance") (show CallR _ (.builtin "isinstance") (rIsi K) from call_isi) (by rfl) T.b_isinstance (by decide +kernel) (pa_cons (pv 0) (pa_cons (pe_bltn (v := .ty "tuple") (by rfl) T.b_tuple (by decide +kernel) rfl) pa_nil))))) (pw_or1 (pt_cmpR op_ne (pe_callB (id := "len") call_len_seq (by rfl) T.b_len (by decide +kernel) (pa_cons (pv 0) pa_nil)) (pv 1) (nomark _))))) (pss_one (ps_ret pe_bl)) pss_nil) (pss_cons (ps_for PassesOwn.never rfl (pi_tup (pv 0)) (pg_name (i := 4) sc_is_deal_close.nd rfl (Or.inl rfl)) (pss_cons (ps_if (PW.pt (pw_or (pt_not (pt_val (pe_callN k_is_pair free (hr.mono (by decide)) rfl passL (pa_cons (pv 4) pa_nil)))) (pw_or1 (pt_not (pt_val (pe_callN k_is_takes free (hr.mono (by decide)) rfl passL (pa_cons (pe_ix ix_tup (pv 4) pe_int (fun _ _ => rfl)) (pa_cons (pv 2) (pa_cons (pv 3) (pa_cons (pe_glob (v := .ref ta) rfl hta rfl) pa_nil)))))))))) (pss_one (ps_ret pe_bl)) pss_nil) (pss_one (ps_if (pt_not (pt_val (pe_callN k_is_takes free (hr.mono (by decide)) rfl passL (pa_cons (pe_ix ix_tup (pv 4) pe_int (fun _ _ => rfl)) (pa_cons (pv 2) (pa_cons (pv 3) (pa_cons (pe_op op_catA (pe_glob (v := .ref ta) rfl hta rfl) (pe_tup (pa_cons pe_str pa_nil))) pa_nil))))))) (pss_one (ps_ret pe_bl)) pss_nil)))) (pss_one (ps_ret pe_bl)))), ?_⟩
    refine ⟨_, rfl, v, .ty "tuple", .type (tyN d), .type "tuple", isT d, rfl, .ty _, dt.ty, kit_T dt, _, rfl, ?_⟩
    cases hT : isT d with
    | false =>
      have k' := k H (Same.refl H)
      have e : isDClose marks stands ranks d = false := by cases d <;> simp_all [isT, isDClose]
      rw [e] at k'
      exact iteT (iteT k')
    | true =>
      obtain ⟨ds, rfl⟩ := isT_tup' hT
      cases dt with
      | @tup a xs _ hx n1 n2 da =>
      have el := da.len
      have e : isDClose marks stands ranks (.tuple ds) = (decide ((ds.length : Int) = marks) && ds.all (isDPair stands ranks)) := rfl
      refine iteF ⟨_, rfl, a, xs, rfl, .inr (SqT.of hx), _, rfl, rfl, _, rfl, ?_⟩
      by_cases c : (ds.length : Int) = marks
      · refine (if_neg (by have h3 : (xs.length : Int) = marks := (by omega); simp [h3])).mpr ?_
        rw [decide_eq_true c, Bool.true_and] at e
        refine ⟨_, rfl, a, rfl, ⟨_, SqT.of hx⟩, ?_⟩
        refine for_it (walk_tup (xs := xs)) (fun i σ H' => Same H H' ∧ (∀ j d, j < i → ds[j]? = some d → isDPair stands ranks d = true) ∧ ∃ v4, σ = [some (.ref a), some (.int marks), some (.int stands), some (.int ranks), v4]) ⟨Same.refl _, fun j d hj => absurd hj (Nat.not_lt_zero _), ⟨_, rfl⟩⟩ (fun i σ H' _ p => SqT.of (p.1 _ _ hx)) ?_ ?_
        · rintro i x σ H1 H2 hi ⟨s1, good, ⟨v4, rfl⟩⟩ ⟨rfl, hxi⟩
          obtain ⟨di, hdi, dti⟩ := da.at' hxi
          have odi : Okd di := okd_tup od (List.mem_of_getElem? hdi)
          have bad : isDPair stands ranks di = false → ∀ H', Same H H' → Q (.bl false) H' := fun hb H' s' => by
            have z := k H' s'
            rw [e, show ds.all (isDPair stands ranks) = false from by
              rw [List.all_eq_false]
              exact ⟨di, List.mem_of_getElem? hdi, by rw [hb]; simp⟩] at z
            exact z
          refine ⟨_, rfl, x, di, m, g, rfl, dti.same s1, fun H3 s3 => ⟨_, rfl, ?_⟩⟩
          have s13 := s1.trans s3
          cases hp : isPair di with
          | false =>
            have e0 : isDPair stands ranks di = false := by
              unfold isDPair
              split
              · simp [isPair] at hp
              · rfl
            exact iteT (iteT (bad e0 _ s13))
          | true =>
            obtain ⟨d0, d1, rfl⟩ := pair_two hp
            cases dti with
            | @tup ca cx _ hcx m1 m2 dc =>
            match cx, dc, hcx with
            | [x0, x1], .cons t0 (.cons t1 .nil), hcx =>
            have e0 : isDPair stands ranks (.tuple [d0, d1]) = (isTakes stands ranks takeW d0 && isTakes stands ranks takeS d1) := rfl
            refine iteF ⟨_, rfl, ca, _, 0, x0, rfl, rfl, SqT.of (s13 _ _ hcx), rfl, _, rfl, _, rfl, x0, d0, m, g, ta, stands, ranks, takeW, rfl, t0.same s13, okd_tup odi (by simp), s8, fun H' _ => hTA H', okd_words.1, fun H4 s4 => ⟨_, rfl, ?_⟩⟩
            have s14 := s13.trans s4
            cases h0 : isTakes stands ranks takeW d0 with
            | false =>
              rw [h0] at e0
              exact iteT (bad e0 _ s14)
            | true =>
              refine iteF ⟨_, rfl, ca, _, 1, x1, rfl, rfl, SqT.of (s14 _ _ hcx), rfl, _, rfl, _, rfl, by show 1 ≤ sizeLine; decide, fun q1 nq1 => ?_⟩
              have hq1 : upd H4 q1 (.tup [.str "self"]) q1 = some (.tup [.str "self"]) := upd_same
              have s5 := same_upd (o := .tup [.str "self"]) nq1
              generalize upd H4 q1 (.tup [.str "self"]) = H5 at hq1 s5 ⊢
              refine cat_tup' (hTA _) (SqT.of hq1) (by decide) (by simp [takeW]) (by simp) fun q2 H6 s6 hq2 => ?_
              have s16 := (s14.trans s5).trans s6
              refine ⟨x1, d1, m, g, q2, stands, ranks, takeS, rfl, t1.same s16, okd_tup odi (by simp), s8, fun H' s' => SqT.of (s' _ _ hq2), okd_words.2, fun H7 s7 => ⟨_, rfl, ?_⟩⟩
              cases h1 : isTakes stands ranks takeS d1 with
              | false =>
                rw [h0, h1] at e0
                exact iteT (bad e0 _ (s16.trans s7))
              | true =>
                rw [h0, h1] at e0
                refine iteF ⟨s16.trans s7, fun j d hj ej => ?_, _, rfl⟩
                by_cases cj : j < i
                · exact good j d cj ej
                · have ji : j = i := by omega
                  rw [ji, hdi] at ej
                  cases ej
                  exact e0
        · rintro σ H2 ⟨s2, good, v4, rfl⟩
          have z := k H2 s2
          rw [e, show ds.all (isDPair stands ranks) = true from by
            rw [List.all_eq_true]
            intro d hd
            obtain ⟨j, hj⟩ := List.mem_iff_getElem?.mp hd
            exact good j d (by have := (List.getElem?_eq_some_iff.mp hj).1; omega) hj] at z
          exact z
      · refine (if_pos (by have h3 : ¬ (xs.length : Int) = marks := (by omega); simp [h3])).mpr ?_
        have k' := k H (Same.refl H)
        rw [e, decide_eq_false c, Bool.false_and] at k'
        exact k'
end
end Hk
set_option Elab.async false
set_option linter.all false
set_option maxRecDepth 100000
set_option maxHeartbeats 4000000
namespace Hk
open PySem PySem.Spec PyProof.Rows L2
theorem dfault_len {ds : List PyData} (h : ¬ ds.length = 4) : dealFault (.tuple ds) = some "form" := by
  match ds, h with
  | [], _ => rfl
  | [_], _ => rfl
  | [_, _], _ => rfl
  | [_, _, _], _ => rfl
  | [_, _, _, _], h => exact (h rfl).elim
  | _ :: _ :: _ :: _ :: _ :: _, _ => rfl
theorem dfault_not {d : PyData} (h : isT d = false) : dealFault d = some "form" := by cases d <;> simp_all [isT, dealFault]
theorem four {ds : List PyData} (h : ds.length = 4) : ∃ a b c d, ds = [a, b, c, d] := by
  match ds, h with
  | [a, b, c, d], _ => exact ⟨a, b, c, d, rfl⟩
theorem wts_tup {d : PyData} (h : isWts d = true) : ∃ ds, d = .tuple ds ∧ ds.length ≤ 8 ∧ 1 ≤ ds.length := by
  unfold isWts at h
  rw [Bool.and_eq_true, decide_eq_true_eq] at h
  obtain ⟨ds, rfl⟩ := nrow_tup h.1
  have z := h.1
  simp only [isNRow, Bool.and_eq_true, decide_eq_true_eq] at z
  exact ⟨ds, rfl, by omega, h.2⟩
theorem dread_tup {r : Int} {d : PyData} (h : isDRead r d = true) : ∃ ds, d = .tuple ds ∧ ds.length ≤ 8 ∧ 1 ≤ ds.length := by
  cases d with
  | tuple ds =>
    simp only [isDRead, Bool.and_eq_true, decide_eq_true_eq] at h
    exact ⟨ds, rfl, h.1.2, h.1.1⟩
  | _ => simp [isDRead] at h
def marksOf : PyData → Int
  | .tuple (.int n :: _) => n
  | _ => 0
/-- a deal that is one, taken apart -/
theorem deal_parts {d : PyData} (h : dealFault d = none) : ∃ n ws rd cl, d = .tuple [.int n, ws, rd, cl] ∧ 1 ≤ n ∧ n ≤ 3 ∧ isWts ws = true ∧ isDRead (lenOf ws) rd = true ∧ isDClose n (lenOf rd) (lenOf ws) cl = true := by
  cases hT : isT d with
  | false => rw [dfault_not hT] at h; cases h
  | true =>
    obtain ⟨ds, rfl⟩ := isT_tup' hT
    by_cases c : ds.length = 4
    · obtain ⟨mk, ws, rd, cl, rfl⟩ := four c
      cases hB : isBt 1 3 mk with
      | false => simp only [dealFault, hB] at h; cases h
      | true =>
        cases mk with
        | int n =>
          have n13 : 1 ≤ n ∧ n ≤ 3 := by simpa [isBt] using hB
          cases h2 : isWts ws with
          | false => simp only [dealFault, hB, h2] at h; cases h
          | true =>
          cases h3 : isDRead (lenOf ws) rd with
          | false => simp only [dealFault, hB, h2, h3] at h; cases h
          | true =>
          cases h4 : isDClose n (lenOf rd) (lenOf ws) cl with
          | false =>
            have e4 : isDClose (intOf (.int n)) (lenOf rd) (lenOf ws) cl = false := h4
            simp only [dealFault, hB, h2, h3, e4] at h
            cases h
          | true => exact ⟨n, ws, rd, cl, rfl, n13.1, n13.2, h2, h3, h4⟩
        | _ => simp [isBt] at hB
    · rw [dfault_len c] at h; cases h
section
variable {P : Program} {w : World} {K : PySem.W.Frag} {mg : Str → Option Value} {base : Heap} {CD CF B fI fJ fB : Addr}
abbrev s_deal_fault : Stmt := top 32
theorem sc_deal_fault : FnScope ["value", "marks", "weights", "read", "close"] ["value"] (defScope s_deal_fault) := ⟨rfl, rfl, rfl, by decide +kernel, rfl, by decide +kernel, by decide +kernel⟩
def spFaultD : Sp := fun vs H Q _ => ∃ (v : V) (d : PyData) (m g : Addr), vs = [v] ∧ Dt H m g v d ∧ Okd d ∧ ∀ H', Same H H' → Q (wordV (dealFault d)) H'
theorem ok_deal_fault (T : Txt K mg) (k_is_between : Kn P w K mg base 2 "is_between" ["value", "low", "high"] (spD1I isBt)) (k_is_weights : Kn P w K mg base 2 "is_weights" ["value"] (spD1 isWts)) (k_is_deal_read : Kn P w K mg base 2 "is_deal_read" ["value", "ranks"] spDRead) (k_is_deal_close : Kn P w K mg base 4 "is_deal_close" ["value", "marks", "stands", "ranks"] spDClose) (at_ : At K mg "deal_fault" s_deal_fault ["value"]) : Kn P w K mg base 5 "deal_fault" ["value"] spFaultD := by
  refine Kn.mkN (st := s_deal_fault) (N := ["value", "marks", "weights", "read", "close"]) at_ sc_deal_fault (fun vs H Q E h => ?_) (fun f cdv A outer s H vs Q E hr free h => ?_)
  · obtain ⟨v, d, m, g, rfl, _⟩ := h
    rfl
  · obtain ⟨v, d, m, g, rfl, dt, od, k⟩ := h
    refine ⟨_, (pss_cons (ps_if (PW.pt (pw_or (pt_not (pt_val (pe_callB (id := "isinstance") (show CallR _ (.builtin "isinstance") (rIsi K) from call_isi) (by rfl) T.b_isinstance (by decide +kernel) (pa_cons (pv 0) (pa_cons (pe_bltn (v := .ty "tuple") (by rfl) T.b_tuple (by decide +kernel) rfl) pa_nil))))) (pw_or (pt_cmpR op_ne (pe_callB (id := "len") call_len_seq (by rfl) T.b_len (by decide +kernel) (pa_cons (pv 0) pa_nil)) pe_int (nomark _)) (pw_or1 (pt_not (pt_val (pe_callN k_is_between free (hr.mono (by decide)) rfl passL (pa_cons (pe_ix ix_tup (pv 0) pe_int (fun _ _ => rfl)) (pa_cons pe_int (pa_cons pe_int pa_nil)))))))))) (pss_one (ps_ret pe_str)) pss_nil) (pss_cons (ps_asg (pv 0) (pg_tup rfl (pgs_cons (pg_name (i := 1) sc_deal_fault.nd rfl (Or.inl rfl)) (pgs_cons (pg_name (i := 2) sc_deal_fault.nd rfl (Or.inl rfl)) (pgs_cons (pg_name (i := 3) sc_deal_fault.nd rfl (Or.inl rfl)) (pgs_cons (pg_name (i := 4) sc_deal_fault.nd rfl (Or.inl rfl)) pgs_nil)))))) (pss_cons (ps_if (pt_not (pt_val (pe_callN k_is_weights free (hr.mono (by decide)) rfl passL (pa_cons (pv 2) pa_nil)))) (pss_one (ps_ret pe_str)) pss_nil) (pss_cons (ps_if (pt_not (pt_val (pe_callN k_is_deal_read free (hr.mono (by decide)) rfl passL (pa_cons (pv 3) (pa_cons (pe_callB (id := "len") call_len_seq (by rfl) T.b_len (by decide +kernel) (pa_cons (pv 2) pa_nil)) pa_nil))))) (pss_one (ps_ret pe_str)) pss_nil) (pss_cons (ps_if (pt_not (pt_val (pe_callN k_is_deal_close free (hr.mono (by decide)) rfl passL (pa_cons (pv 4) (pa_cons (pv 1) (pa_cons (pe_callB (id := "len") call_len_seq (by rfl) T.b_len (by decide +kernel) (pa_cons (pv 3) pa_nil)) (pa_cons (pe_callB (id := "len") call_len_seq (by rfl) T.b_len (by decide +kernel) (pa_cons (pv 2) pa_nil)) pa_nil))))))) (pss_one (ps_ret pe_str)) pss_nil) (pss_one (ps_ret pe_non))))))), ?_⟩
    refine ⟨_, rfl, v, .ty "tuple", .type (tyN d), .type "tuple", isT d, rfl, .ty _, dt.ty, kit_T dt, _, rfl, ?_⟩
    cases hT : isT d with
    | false =>
      have k' := k H (Same.refl H)
      rw [dfault_not hT] at k'
      exact iteT (iteT k')
    | true =>
      obtain ⟨ds, rfl⟩ := isT_tup' hT
      cases dt with
      | @tup a xs _ hx n1 n2 da =>
      have el := da.len
      refine iteF ⟨_, rfl, a, xs, rfl, .inr (SqT.of hx), rfl, _, rfl, ?_⟩
      by_cases c : ds.length = 4
      · refine (if_neg (by have h3 : xs.length = 4 := (by omega); simp [h3])).mpr ?_
        obtain ⟨mk, ws, rd, cl, rfl⟩ := four c
        match xs, da, hx with
        | [x0, x1, x2, x3], .cons t0 (.cons t1 (.cons t2 (.cons t3 .nil))), hx =>
        refine ⟨_, rfl, a, _, 0, x0, rfl, rfl, SqT.of hx, rfl, x0, mk, m, g, 1, 3, rfl, t0, fun H1 s1 => ⟨_, rfl, ?_⟩⟩
        cases hB : isBt 1 3 mk with
        | false =>
          have k' := k H1 s1
          rw [show dealFault (.tuple [mk, ws, rd, cl]) = some "form" by simp only [dealFault, hB]; rfl] at k'
          exact iteT k'
        | true =>
          refine iteF ?_
          obtain ⟨n, rfl⟩ : ∃ n, mk = .int n := by cases mk <;> simp_all [isBt]
          cases t0
          have n3 : n ≤ 3 := by have z : (decide (1 ≤ n) && decide (n ≤ 3)) = true := hB; simp at z; exact z.2
          refine ⟨_, rfl, a, _, rfl, SqT.of (s1 _ _ hx), rfl, _, _, rfl, _, _, rfl, _, _, rfl, _, _, rfl, rfl, ?_⟩
          refine ⟨_, rfl, x1, ws, m, g, rfl, t1.same s1, fun H2 s2 => ⟨_, rfl, ?_⟩⟩
          have s12 := s1.trans s2
          cases hW : isWts ws with
          | false =>
            have k' := k H2 s12
            rw [show dealFault (.tuple [.int n, ws, rd, cl]) = some "weights" by simp only [dealFault, hB, hW]; rfl] at k'
            exact iteT k'
          | true =>
            refine iteF ?_
            obtain ⟨wd, rfl, w8, w1⟩ := wts_tup hW
            cases t1 with
            | @tup wa wx _ hwx p1 p2 dw =>
            have ew := dw.len
            refine ⟨_, rfl, _, rfl, wa, wx, rfl, .inr (SqT.of (s12 _ _ hwx)), x2, rd, m, g, (wx.length : Int), rfl, t2.same s12, by omega, fun H3 s3 => ⟨_, rfl, ?_⟩⟩
            have s13 := s12.trans s3
            rw [ew]
            cases hR : isDRead (wd.length : Int) rd with
            | false =>
              have k' := k H3 s13
              rw [show dealFault (.tuple [.int n, .tuple wd, rd, cl]) = some "read" by simp only [dealFault, hB, hW]; rw [show isDRead ((lenOf (.tuple wd) : Nat) : Int) rd = false from hR]; rfl] at k'
              exact iteT k'
            | true =>
              refine iteF ?_
              obtain ⟨re, rfl, r8, r1⟩ := dread_tup hR
              cases t2 with
              | @tup ra rx _ hrx p3 p4 dr =>
              have er := dr.len
              refine ⟨_, rfl, _, rfl, _, rfl, ra, rx, rfl, .inr (SqT.of (s13 _ _ hrx)), _, rfl, wa, wx, rfl, .inr (SqT.of (s13 _ _ hwx)), x3, cl, m, g, n, (rx.length : Int), (wx.length : Int), rfl, t3.same s13, okd_tup od (by simp), by omega, fun H4 s4 => ⟨_, rfl, ?_⟩⟩
              have k' := k H4 (s13.trans s4)
              have e5 : dealFault (.tuple [.int n, .tuple wd, .tuple re, cl]) = (if isDClose n (re.length : Int) (wd.length : Int) cl = true then (none : Option Str) else some ("close" : Str)) := by
                show (if isBt 1 3 (.int n) = true then (if isWts (.tuple wd) = true then (if isDRead (wd.length : Int) (.tuple re) = true then (if isDClose n (re.length : Int) (wd.length : Int) cl = true then (none : Option Str) else some ("close" : Str)) else some ("read" : Str)) else some ("weights" : Str)) else some ("form" : Str)) = _
                rw [if_pos hB, if_pos hW, if_pos hR]
              rw [e5] at k'
              rw [er, ew]
              cases hC : isDClose n (re.length : Int) (wd.length : Int) cl with
              | false =>
                rw [hC] at k'
                exact iteT k'
              | true =>
                rw [hC] at k'
                exact iteF k'
      · refine (if_pos (by have h3 : ¬ xs.length = 4 := (by omega); simp; omega)).mpr ?_
        have k' := k H (Same.refl H)
        rw [dfault_len c] at k'
        exact iteT k'
abbrev s_need_deal : Stmt := top 33
theorem sc_need_deal : FnScope ["deal", "word"] ["deal"] (defScope s_need_deal) := ⟨rfl, rfl, rfl, by decide +kernel, rfl, by decide +kernel, by decide +kernel⟩
def spDeal (CD : Addr) : Sp := fun vs H Q E => ∃ (v : V) (d : PyData) (m g : Addr), vs = [v] ∧ Dt H m g v d ∧ Okd d ∧ (dealFault d = none → ∀ H', Same H H' → Q v H') ∧ ∀ wd, dealFault d = some wd → Raised "word" CD (.str wd) H E
theorem ok_need_deal (O : PySem.OwnX.OwnTxt P K mg "BadDeal" "word" CD B fI fB) (k_deal_fault : Kn P w K mg base 5 "deal_fault" ["value"] spFaultD) (at_ : At K mg "need_deal" s_need_deal ["deal"]) : Kn P w K mg base 7 "need_deal" ["deal"] (spDeal CD) := by
  refine Kn.mk (st := s_need_deal) (N := ["deal", "word"]) at_ sc_need_deal (fun vs H Q E h => ?_) (fun f cdv A outer s H vs Q E hr free h => ?_)
  · obtain ⟨v, d, m, g, rfl, _⟩ := h
    rfl
  · obtain ⟨v, d, m, g, rfl, dt, od, k1, k2⟩ := h
    refine ⟨_, (pss_cons (ps_set (i := 1) sc_need_deal.nd rfl (Or.inl rfl) (pe_callN k_deal_fault free (hr.mono (by decide)) rfl passL (pa_cons (pv 0) pa_nil))) (pss_cons (ps_if (pt_cmpR op_notN (pv 1) pe_non (nomark _)) (pss_one (ps_raiseOwn (k := 4) (fl := "word") rfl O (hr.mono (by decide)) (takes_of rfl rfl rfl rfl) (pa_cons (pv 1) pa_nil) rfl)) pss_nil) (pss_one (ps_ret (pv 0))))), ?_⟩
    refine ⟨_, rfl, v, d, m, g, rfl, dt, od, fun H1 s1 => ?_⟩
    cases hf : dealFault d with
    | none => exact ⟨_, rfl, rfl, _, rfl, iteF ⟨_, rfl, k1 hf H1 s1⟩⟩
    | some wd => exact ⟨_, rfl, rfl, _, rfl, iteT ⟨_, rfl, ⟨_, rfl, fun dd p h1 => k2 wd hf _ dd p (same_new s1 h1) upd_same⟩⟩⟩
abbrev s_need_dealt : Stmt := top 34
theorem sc_need_dealt : FnScope ["deal", "family"] ["deal", "family"] (defScope s_need_dealt) := ⟨rfl, rfl, rfl, by decide +kernel, rfl, by decide +kernel, by decide +kernel⟩
def spDealt (CD CF : Addr) : Sp := fun vs H Q E => ∃ (v u : V) (d e : PyData) (m g : Addr), vs = [v, u] ∧ Dt H m g v d ∧ Okd d ∧ Dt H m g u e ∧ (dealFault d = none → famErr (marksOf d) e = none → ∀ H', Same H H' → Q .non H') ∧
  (∀ wd, dealFault d = some wd → Raised "word" CD (.str wd) H E) ∧ (dealFault d = none → ∀ x, famErr (marksOf d) e = some x → Raised "place" CF x H E)
theorem ok_need_dealt (k_need_deal : Kn P w K mg base 7 "need_deal" ["deal"] (spDeal CD)) (k_need_family : Kn P w K mg base 6 "need_family" ["family", "marks"] (spFamily CF)) (at_ : At K mg "need_dealt" s_need_dealt ["deal", "family"]) : Kn P w K mg base 8 "need_dealt" ["deal", "family"] (spDealt CD CF) := by
  refine Kn.mk (st := s_need_dealt) (N := ["deal", "family"]) at_ sc_need_dealt (fun vs H Q E h => ?_) (fun f cdv A outer s H vs Q E hr free h => ?_)
  · obtain ⟨v, u, d, e, m, g, rfl, _⟩ := h
    rfl
  · obtain ⟨v, u, d, e, m, g, rfl, dt, od, et, k1, k2, k3⟩ := h
    refine ⟨_, (pss_cons (ps_expr (pe_callN k_need_deal free (hr.mono (by decide)) rfl (passes_call (takes_of rfl rfl rfl rfl) fun _ _ _ _ h => h) (pa_cons (pv 0) pa_nil))) (pss_one (ps_expr (pe_callN k_need_family free (hr.mono (by decide)) rfl (passes_call (takes_of rfl rfl rfl rfl) fun _ _ _ _ h => h) (pa_cons (pv 1) (pa_cons (pe_ix ix_tup (pv 0) pe_int (fun _ _ => rfl)) pa_nil)))))), ?_⟩
    refine ⟨_, rfl, v, d, m, g, rfl, dt, od, fun hf H1 s1 => ?_, k2⟩
    obtain ⟨n, ws, rd, cl, rfl, n1, n3, _⟩ := deal_parts hf
    cases dt with
    | @tup a xs _ hx m1 m2 da =>
    match xs, da, hx with
    | [x0, x1, x2, x3], .cons t0 _, hx =>
    cases t0
    exact ⟨_, rfl, _, rfl, a, _, 0, .int n, rfl, rfl, SqT.of (s1 _ _ hx), rfl, u, e, m, g, n, rfl, et.same s1, n1, n3, fun he H2 s2 => k1 hf he H2 (s1.trans s2), fun x he => (k3 hf x he).same s1⟩
end
end Hk
set_option Elab.async false
set_option linter.all false
set_option maxRecDepth 100000
set_option maxHeartbeats 4000000
namespace Hk
open PySem PySem.Spec PyProof.Rows L2
/-! ### what a deal tells of lines, as data -/
def elems : PyData → List PyData
  | .tuple ds => ds
  | _ => []
def nth (d : PyData) (i : Nat) : PyData := (elems d).getD i .none
def rdAt (d : PyData) (s r : Nat) : Nat := (intOf (nth (nth (nth d 2) s) r)).toNat
def clAt (d : PyData) (mk : Nat) (al : Bool) (s : Nat) : PyData := nth (nth (nth (nth d 3) mk) (if al then 1 else 0)) s
def rankOf (c : PyData) : Nat := (intOf (nth c 0)).toNat
def standStep (d : PyData) (acc : List PyData) (s c : Nat) : Nat := rdAt d s (rankOf (acc.getD c .none))
def standB (d : PyData) (acc : List PyData) (kids : List Nat) : Nat := kids.foldl (standStep d acc) 0
def truthOf : PyData → Bool
  | .bool b => b
  | _ => false
def dealtStep (d : PyData) (acc : List PyData) (line : PyData) : List PyData := acc ++ [clAt d (intOf (nth line 0)).toNat (truthOf (nth line 1)) (standB d acc (kidsOf line))]
def dealt (d : PyData) (ds : List PyData) : List PyData := ds.foldl (dealtStep d) []
theorem dealt_snoc (d : PyData) (ds : List PyData) (x : PyData) : dealt d (ds ++ [x]) = dealtStep d (dealt d ds) x := by
  unfold dealt
  rw [List.foldl_append]
  rfl
theorem dealt_len (d : PyData) (ds : List PyData) : (dealt d ds).length = ds.length := by
  have key : ∀ (ds acc : List PyData), (ds.foldl (dealtStep d) acc).length = acc.length + ds.length := by
    intro ds
    induction ds with
    | nil => intro acc; simp
    | cons x ds ih =>
      intro acc
      rw [List.foldl_cons, ih]
      unfold dealtStep
      simp
      omega
  have := key ds []
  simpa [dealt] using this
/-- a cell of a deal with so many ranks -/
def CellD (ranks : Nat) (c : PyData) : Prop := ∃ (r : Nat) (w : Str), c = .tuple [.int (r : Nat), .str w] ∧ r < ranks ∧ w ∈ takeS
theorem CellD.rank {ranks : Nat} {c : PyData} (h : CellD ranks c) : rankOf c < ranks := by
  obtain ⟨r, w, rfl, hr, _⟩ := h
  exact hr
/-- a deal that is one, as it is read -/
structure DealOk (d : PyData) (marks stands ranks : Nat) : Prop where
  ex : ∃ ws rd cl, d = .tuple [.int (marks : Nat), .tuple ws, .tuple rd, .tuple cl] ∧ ws.length = ranks ∧ rd.length = stands ∧ cl.length = marks
  m3 : marks ≤ 3
  s8 : stands ≤ 8
  r8 : ranks ≤ 8
  s1 : 1 ≤ stands
  rows : ∀ s, s < stands → ∃ es, nth (nth d 2) s = .tuple es ∧ es.length = ranks ∧ ∀ r, r < ranks → ∃ t : Nat, es.getD r .none = .int (t : Nat) ∧ t < stands
  cells : ∀ k, k < marks → ∃ both, nth (nth d 3) k = .tuple both ∧ both.length = 2 ∧ ∀ b, b < 2 → ∃ row, both.getD b .none = .tuple row ∧ row.length = stands ∧ ∀ s, s < stands → CellD ranks (row.getD s .none)
theorem getD_mem {ds : List PyData} {i : Nat} (h : i < ds.length) : ds.getD i .none ∈ ds := by
  rw [List.getD_eq_getElem?_getD, List.getElem?_eq_getElem h]
  exact List.getElem_mem h
theorem takes_cells {stands ranks : Nat} {ws : List Str} {d : PyData} (hw : ∀ x ∈ ws, x ∈ takeS) (h : isTakes (stands : Nat) (ranks : Nat) ws d = true) : ∃ row, d = .tuple row ∧ row.length = stands ∧ ∀ s, s < stands → CellD ranks (row.getD s .none) := by
  cases d with
  | tuple row =>
    simp only [isTakes, Bool.and_eq_true, decide_eq_true_eq, List.all_eq_true] at h
    have l : row.length = stands := by omega
    refine ⟨row, rfl, l, fun s hs => ?_⟩
    have z := h.2 _ (getD_mem (ds := row) (i := s) (by omega))
    generalize row.getD s .none = c at z
    unfold isTake at z
    split at z
    · rename_i a b
      simp only [Bool.and_eq_true] at z
      obtain ⟨z1, z2⟩ := z
      cases a with
      | int i =>
        simp only [isBt, Bool.and_eq_true, decide_eq_true_eq] at z1
        cases b with
        | str w =>
          refine ⟨i.toNat, w, ?_, by omega, hw w ?_⟩
          · rw [show ((i.toNat : Nat) : Int) = i by omega]
          · unfold inW at z2
            simpa using z2
        | _ => simp [inW] at z2
      | _ => simp [isBt] at z1
    · cases z
  | _ => simp [isTakes] at h
theorem deal_ok {d : PyData} (h : dealFault d = none) : ∃ marks stands ranks : Nat, DealOk d marks stands ranks ∧ marksOf d = (marks : Nat) ∧ 1 ≤ marks := by
  obtain ⟨n, ws, rd, cl, rfl, n1, n3, hW, hR, hC⟩ := deal_parts h
  obtain ⟨wd, rfl, w8, w1⟩ := wts_tup hW
  obtain ⟨re, rfl, r8, r1⟩ := dread_tup hR
  obtain ⟨k, rfl⟩ : ∃ k : Nat, n = (k : Int) := ⟨n.toNat, by omega⟩
  cases cl with
  | tuple ce =>
    have hC : (decide ((ce.length : Int) = (k : Int)) && ce.all (isDPair (re.length : Nat) (wd.length : Nat))) = true := hC
    simp only [Bool.and_eq_true, decide_eq_true_eq, List.all_eq_true] at hC
    have hR : (decide (1 ≤ re.length) && decide (re.length ≤ 8) && re.all (isDRow (wd.length : Nat) ((re.length : Int) - 1))) = true := hR
    simp only [Bool.and_eq_true, decide_eq_true_eq, List.all_eq_true] at hR
    refine ⟨k, re.length, wd.length, ⟨⟨wd, re, ce, rfl, rfl, rfl, by omega⟩, by omega, r8, w8, r1, fun s hs => ?_, fun j hj => ?_⟩, rfl, by omega⟩
    · have z := hR.2 _ (getD_mem (ds := re) (i := s) hs)
      have e : nth (nth (.tuple [.int (k : Int), .tuple wd, .tuple re, .tuple ce]) 2) s = re.getD s .none := rfl
      rw [e]
      generalize re.getD s .none = row at z
      simp only [isDRow, Bool.and_eq_true, decide_eq_true_eq] at z
      obtain ⟨es, rfl⟩ := nrow_tup z.1
      have l : es.length = wd.length := by have := z.2; simp [lenOf] at this; omega
      refine ⟨es, rfl, l, fun r hr => ?_⟩
      have z1 := z.1
      simp only [isNRow, Bool.and_eq_true, decide_eq_true_eq, List.all_eq_true] at z1
      have y := z1.2 _ (getD_mem (ds := es) (i := r) (by omega))
      generalize es.getD r .none = c at y
      cases c with
      | int i =>
        simp only [isBt, Bool.and_eq_true, decide_eq_true_eq] at y
        exact ⟨i.toNat, by rw [show ((i.toNat : Nat) : Int) = i by omega], by omega⟩
      | _ => simp [isBt] at y
    · have z := hC.2 _ (getD_mem (ds := ce) (i := j) (by omega))
      have e : nth (nth (.tuple [.int (k : Int), .tuple wd, .tuple re, .tuple ce]) 3) j = ce.getD j .none := rfl
      rw [e]
      generalize ce.getD j .none = both at z
      unfold isDPair at z
      split at z
      · rename_i a b
        simp only [Bool.and_eq_true] at z
        refine ⟨[a, b], rfl, rfl, fun q hq => ?_⟩
        match q, hq with
        | 0, _ => exact takes_cells (by decide) z.1
        | 1, _ => exact takes_cells (by decide) z.2
      · cases z
  | _ => simp [isDClose] at hC
theorem deal_cell {d : PyData} {marks stands ranks : Nat} (o : DealOk d marks stands ranks) {k s : Nat} {al : Bool} (hk : k < marks) (hs : s < stands) : CellD ranks (clAt d k al s) := by
  obtain ⟨both, e1, e2, hb⟩ := o.cells k hk
  obtain ⟨row, e3, e4, hc⟩ := hb (if al then 1 else 0) (by cases al <;> decide)
  have z := hc s hs
  unfold clAt
  rw [e1]
  show CellD ranks (nth (both.getD (if al then 1 else 0) .none) s)
  rw [e3]
  exact z
theorem deal_next {d : PyData} {marks stands ranks : Nat} (o : DealOk d marks stands ranks) {s r : Nat} (hs : s < stands) (hr : r < ranks) : rdAt d s r < stands := by
  obtain ⟨es, e1, e2, h⟩ := o.rows s hs
  obtain ⟨t, e3, ht⟩ := h r hr
  unfold rdAt
  rw [e1]
  show (intOf (es.getD r .none)).toNat < stands
  rw [e3]
  exact ht
theorem stand_lt {d : PyData} {marks stands ranks : Nat} (o : DealOk d marks stands ranks) {acc : List PyData} (ha : ∀ c ∈ acc, CellD ranks c) : ∀ (kids : List Nat) (s : Nat), s < stands → (∀ c ∈ kids, c < acc.length) → kids.foldl (standStep d acc) s < stands
  | [], s, hs, _ => hs
  | c :: kids, s, hs, hk => by
    rw [List.foldl_cons]
    refine stand_lt o ha kids _ ?_ fun x hx => hk x (List.mem_cons_of_mem _ hx)
    exact deal_next o hs (ha _ (getD_mem (hk c List.mem_cons_self))).rank
end Hk
set_option Elab.async false
set_option linter.all false
set_option maxRecDepth 100000
set_option pp.maxSteps 1500
set_option maxHeartbeats 4000000
namespace Hk
open PySem PySem.Spec PyProof.Rows L2
theorem ixT_dt {K : PySem.W.Frag} {H H4 : Hp} {m g : Addr} {v : V} {ds : List PyData} {i : Nat} {Q : VK} (s : Same H H4) (d : Dt H m g v (.tuple ds)) (hi : i < ds.length) (k : ∀ u, Dt H m g u (ds.getD i .none) → Q u H4) : rIxT K v (.int (i : Nat)) H4 Q := by
  cases d with
  | @tup a xs _ hx _ _ da =>
    obtain ⟨u, hu, du⟩ := da.at (i := i) (d := ds.getD i .none) (by rw [List.getD_eq_getElem?_getD, List.getElem?_eq_getElem hi]; rfl)
    exact ⟨a, xs, i, u, rfl, rfl, SqT.of (s _ _ hx), atI_nat hu, k u du⟩
theorem tc_via {c : V} {σ : L2.St} {H : Hp} {Q : VK} (h : Q c H) : tC c σ H Q := h
theorem ixL_dt {K : PySem.W.Frag} {H H4 : Hp} {m g p : Addr} {vs : List V} {acc : List PyData} {c : Nat} {Q : VK} (hp : H4 p = some (.lst vs)) (da : DtA H m g vs acc) (hc : c < acc.length) (k : ∀ u, Dt H m g u (acc.getD c .none) → Q u H4) : rIxL K (.ref p) (.int (c : Nat)) H4 Q := by
  obtain ⟨u, hu, du⟩ := da.at (i := c) (d := acc.getD c .none) (by rw [List.getD_eq_getElem?_getD, List.getElem?_eq_getElem hc]; rfl)
  exact ⟨p, vs, c, u, rfl, rfl, SqL.of hp, atI_nat hu, k u du⟩
theorem dta_snoc {H : Hp} {m g : Addr} {u : V} {d : PyData} : ∀ {vs : List V} {acc : List PyData}, DtA H m g vs acc → Dt H m g u d → DtA H m g (vs ++ [u]) (acc ++ [d])
  | [], [], .nil, du => .cons du .nil
  | _ :: _, _ :: _, .cons h t, du => .cons h (dta_snoc t du)
theorem take_snoc {cs : List Int} {j : Nat} {c : Int} (h : cs[j]? = some c) : cs.take (j + 1) = cs.take j ++ [c] := by
  rw [List.take_add_one, h]
  rfl
section
variable {P : Program} {w : World} {K : PySem.W.Frag} {mg : Str → Option Value} {base : Heap} {CD CF : Addr}
abbrev s_taken : Stmt := top 35
theorem sc_taken : FnScope ["deal", "lines", "pairs", "mark", "is_alive", "children", "stand", "child"] ["deal", "lines"] (defScope s_taken) := ⟨rfl, rfl, rfl, by decide +kernel, rfl, by decide +kernel, by decide +kernel⟩
def spTaken : Sp := fun vs H Q _ => ∃ (v u : V) (d : PyData) (ds : List PyData) (m g : Addr) (marks stands ranks : Nat), vs = [v, u] ∧ Dt H m g v d ∧ Dt H m g u (.tuple ds) ∧ DealOk d marks stands ranks ∧ wrongAt (marks : Nat) 0 ds = none ∧ ds.length ≤ 2000 ∧
  ∀ (p : Addr) (ys : List V) H', Same H H' → H' p = some (.tup ys) → DtA H' m g ys (dealt d ds) → Q (.ref p) H'
theorem ok_taken (T : Txt K mg) (at_ : At K mg "taken" s_taken ["deal", "lines"]) : Kn P w K mg base 1 "taken" ["deal", "lines"] spTaken := by
  refine Kn.mkN (st := s_taken) (N := ["deal", "lines", "pairs", "mark", "is_alive", "children", "stand", "child"]) at_ sc_taken (fun vs H Q E h => ?_) (fun f cdv A outer s H vs Q E hr free h => ?_)
  · obtain ⟨v, u, d, ds, m, g, marks, stands, ranks, rfl, _⟩ := h
    rfl
  · obtain ⟨v, u, d, ds, m, g, marks, stands, ranks, rfl, dt, ut, ok, good, l2, k⟩ := h
    refine ⟨_, (pss_cons (ps_set (i := 2) sc_taken.nd rfl (Or.inl rfl) (pe_lst pa_nil)) (pss_cons (ps_for PassesOwn.never rfl (pi_tup (pv 1)) (pg_tup rfl (pgs_cons (pg_name (i := 3) sc_taken.nd rfl (Or.inl rfl)) (pgs_cons (pg_name (i := 4) sc_taken.nd rfl (Or.inl rfl)) (pgs_cons (pg_name (i := 5) sc_taken.nd rfl (Or.inl rfl)) pgs_nil)))) (pss_cons (ps_set (i := 6) sc_taken.nd rfl (Or.inl rfl) pe_int) (pss_cons (ps_for PassesOwn.never rfl (pi_tup (pv 5)) (pg_name (i := 7) sc_taken.nd rfl (Or.inl rfl)) (pss_one (ps_set (i := 6) sc_taken.nd rfl (Or.inl rfl) (pe_ix ix_tup (pe_ix ix_tup (pe_ix ix_tup (pv 0) pe_int (fun _ _ => rfl)) (pv 6) (fun _ _ => rfl)) (pe_ix ix_tup (pe_ix ix_list (pv 2) (pv 7) (fun _ _ => rfl)) pe_int (fun _ _ => rfl)) (fun _ _ => rfl))))) (pss_one (ps_expr (pe_bm PySem.F.plainAttrs_list PySem.F.slot_list_append PySem.F.type_list_append mt_append (pv 2) (pa_cons (pe_ix ix_tup (pe_ix ix_tup (pe_ix ix_tup (pe_ix ix_tup (pv 0) pe_int (fun _ _ => rfl)) (pv 3) (fun _ _ => rfl)) (pe_ifExp (pt_val (pv 4)) pe_int pe_int) (fun _ _ => rfl)) (pv 6) (fun _ _ => rfl)) pa_nil))))))) (pss_one (ps_ret (pe_callTy call_tuple_of (by rfl) T.b_tuple (by decide +kernel) (pa_cons (pv 2) pa_nil)))))), ?_⟩
    cases ut with
    | @tup a xs _ hx m1 m2 da =>
    have el := da.len
    obtain ⟨ws, rd, cl, ed, ew, er, ec⟩ := ok.ex
    refine ⟨Nat.zero_le _, fun p np => ?_⟩
    have s1 := same_upd (o := .lst []) np
    have hp : upd H p (.lst []) p = some (.lst []) := upd_same
    generalize upd H p (.lst []) = H1 at s1 hp ⊢
    refine ⟨_, rfl, a, rfl, ⟨_, SqT.of (s1 _ _ hx)⟩, ?_⟩
    refine for_it (walk_tup (xs := xs)) (fun i σ H' => Same H H' ∧ (∀ c ∈ dealt d (ds.take i), CellD ranks c) ∧ (∃ ys, H' p = some (.lst ys) ∧ DtA H m g ys (dealt d (ds.take i))) ∧ ∃ v3 v4 v5 v6 v7, σ = [some v, some (.ref a), some (.ref p), v3, v4, v5, v6, v7])
      ⟨s1, (by intro c z; cases z), ⟨[], hp, .nil⟩, ⟨_, _, _, _, _, rfl⟩⟩ (fun i σ H' _ q => SqT.of (q.1 _ _ hx)) ?_ ?_
    · rintro i x σ H2 H3 hi ⟨s2, cells, ⟨ys, hp2, dy⟩, v3, v4, v5, v6, v7, rfl⟩ ⟨rfl, hxi⟩
      obtain ⟨di, hdi, dti⟩ := da.at' hxi
      have gi := none_good good i di hdi
      rw [Nat.zero_add] at gi
      obtain ⟨mk, al, cs, rfl, k0, k1, c6, cb⟩ := line_parts gi
      obtain ⟨mk, rfl⟩ : ∃ j : Nat, mk = (j : Int) := ⟨mk.toNat, by omega⟩
      have acc : (dealt d (ds.take i)).length = i := by
        rw [dealt_len, List.length_take]
        omega
      have dti2 := dti.same s2
      cases dti2 with
      | @tup la lx _ hl p1 p2 dl =>
      match lx, dl, hl with
      | [w0, w1, w2], .cons t0 (.cons t1 (.cons tc .nil)), hl =>
      cases t0
      cases t1
      cases tc with
      | @tup ca cx _ hc p3 p4 dc =>
      obtain rfl := dta_ints dc
      refine ⟨la, _, rfl, SqT.of hl, rfl, _, _, rfl, _, _, rfl, _, _, rfl, rfl, ?_⟩
      refine ⟨_, rfl, ca, rfl, ⟨_, SqT.of hc⟩, ?_⟩
      have hs1 := ok.s1
      refine for_it (walk_tup (xs := cs.map V.int)) (fun j σ H' => Same H3 H' ∧ ∃ (st : Nat) (v7 : Option V), st = ((cs.take j).map Int.toNat).foldl (standStep d (dealt d (ds.take i))) 0 ∧ st < stands ∧ σ = [some v, some (.ref a), some (.ref p), some (.int (mk : Nat)), some (.bl al), some (.ref ca), some (.int (st : Nat)), v7])
        ⟨Same.refl _, 0, _, rfl, hs1, rfl⟩ (fun j σ H' _ q => SqT.of (q.1 _ _ hc)) ?_ ?_
      · rintro j x σ H4 H5 hj ⟨s4, st, w7, est, lst, rfl⟩ ⟨rfl, hxj⟩
        rw [List.getElem?_map] at hxj
        cases hcj : cs[j]? with
        | none => rw [hcj] at hxj; cases hxj
        | some c =>
        rw [hcj] at hxj
        obtain rfl := Option.some.inj hxj
        have cm := cb c (List.mem_of_getElem? hcj)
        obtain ⟨c, rfl⟩ : ∃ c' : Nat, c = (c' : Int) := ⟨c.toNat, by omega⟩
        have s24 := s2.trans s4
        have dd := dt
        rw [ed] at dd
        obtain ⟨es, e1, e2, er3⟩ := ok.rows st lst
        have lc : c < (dealt d (ds.take i)).length := by omega
        obtain ⟨r, wd, e4, hr4, _⟩ := cells _ (getD_mem lc)
        obtain ⟨t, e5, ht⟩ := er3 r hr4
        refine ⟨_, rfl, tc_via (ixT_dt s24 (i := 2) dd (by simp) fun u2 d2 => ?_)⟩
        refine ⟨_, rfl, ixT_dt s24 (i := st) (ds := rd) d2 (by omega) fun u3 d3 => ?_⟩
        have e1' : rd.getD st .none = .tuple es := by rw [ed] at e1; exact e1
        rw [e1'] at d3
        refine ⟨_, rfl, _, rfl, ixL_dt (s4 _ _ hp2) dy lc fun u4 d4 => ?_⟩
        rw [e4] at d4
        refine tc_via (ixT_dt s24 (i := 0) d4 (by simp) fun u5 d5 => ?_)
        have d5 : Dt _ m g u5 (.int (r : Nat)) := d5
        cases d5
        refine ixT_dt s24 (i := r) d3 (by omega) fun u6 d6 => ?_
        rw [e5] at d6
        cases d6
        refine ⟨s4, t, _, ?_, ht, rfl⟩
        rw [take_snoc hcj, List.map_append, List.foldl_append, ← est]
        show t = standStep _ _ st ((c : Int).toNat)
        unfold standStep rdAt
        rw [Int.toNat_natCast, e4, e1]
        show t = (intOf (es.getD r .none)).toNat
        rw [e5]
        rfl
      · rintro σ H4 ⟨s4, st, w7, est, lst, rfl⟩
        have s24 := s2.trans s4
        have dd := dt
        rw [ed] at dd
        have lm : mk < marks := by omega
        obtain ⟨both, f1, f2, f3⟩ := ok.cells mk lm
        obtain ⟨row, f4, f5, f6⟩ := f3 (if al then 1 else 0) (by cases al <;> decide)
        refine ⟨_, rfl, .inl ⟨rfl, _, SqL.of (s4 _ _ hp2)⟩, ?_⟩
        refine ⟨_, rfl, tc_via (ixT_dt s24 (i := 3) dd (by simp) fun u2 d2 => ?_)⟩
        refine ⟨_, rfl, ixT_dt s24 (i := mk) (ds := cl) d2 (by omega) fun u3 d3 => ?_⟩
        have f1' : cl.getD mk .none = .tuple both := by rw [ed] at f1; exact f1
        rw [f1'] at d3
        have s24' := s24
        have cell := deal_cell ok (al := al) lm lst
        have ecell : clAt d mk al st = row.getD st .none := by
          unfold clAt
          rw [f1]
          show nth (both.getD (if al then 1 else 0) .none) st = _
          rw [f4]
          rfl
        have step : dealt d (ds.take (i + 1)) = dealt d (ds.take i) ++ [row.getD st .none] := by
          rw [List.take_add_one, hdi]
          show dealt d (ds.take i ++ [_]) = _
          rw [dealt_snoc]
          unfold dealtStep
          rw [kids_ints]
          have e0 : standB d (dealt d (ds.take i)) (cs.map Int.toNat) = st := by
            have whole : cs.take (cs.map V.int).length = cs := List.take_of_length_le (by simp)
            rw [est, whole]
            rfl
          rw [e0, ← ecell]
          rfl
        have fin : ∀ u4, Dt H m g u4 (.tuple row) → rIxT K u4 (.int (st : Nat)) H4 (fun x H5 => rAppend (.ref p) [x] H5 fun _ H' => Same H H' ∧ (∀ c ∈ dealt d (ds.take (i + 1)), CellD ranks c) ∧ ∃ ys, H' p = some (.lst ys) ∧ DtA H m g ys (dealt d (ds.take (i + 1)))) := by
          intro u4 d4
          refine ixT_dt s24 (i := st) d4 (by omega) fun u5 d5 => ?_
          refine ⟨p, _, u5, rfl, rfl, s4 _ _ hp2, by have := dy.len; rw [this, acc]; exact Nat.lt_of_lt_of_le hi (by rw [el]; exact Nat.le_trans l2 (by decide)), same_set s24 np, ?_, _, upd_same, ?_⟩
          · rw [step]
            intro c hc
            rcases List.mem_append.mp hc with z | z
            · exact cells c z
            · rw [List.mem_singleton.mp z, ← ecell]
              exact cell
          · rw [step]
            exact dta_snoc dy d5
        refine ⟨_, rfl, _, rfl, ?_⟩
        cases al with
        | true =>
          refine iteT (tc_via (ixT_dt s24 (i := 1) d3 (by omega) fun u4 d4 => ?_))
          rw [show both.getD 1 .none = .tuple row from f4] at d4
          refine ⟨_, rfl, ?_⟩
          obtain ⟨a1, a2, a3, a4, b1, b2, b3, b4, c1, c2, c3, b5, b6, b7, b8, q1, q2, ys2, q3, q4⟩ := fin u4 d4
          exact ⟨a1, a2, a3, a4, b1, b2, b3, b4, c1, c2, c3, b5, b6, b7, b8, q1, q2, ⟨ys2, q3, q4⟩, _, _, _, _, _, rfl⟩
        | false =>
          refine iteF (tc_via (ixT_dt s24 (i := 0) d3 (by omega) fun u4 d4 => ?_))
          rw [show both.getD 0 .none = .tuple row from f4] at d4
          refine ⟨_, rfl, ?_⟩
          obtain ⟨a1, a2, a3, a4, b1, b2, b3, b4, c1, c2, c3, b5, b6, b7, b8, q1, q2, ys2, q3, q4⟩ := fin u4 d4
          exact ⟨a1, a2, a3, a4, b1, b2, b3, b4, c1, c2, c3, b5, b6, b7, b8, q1, q2, ⟨ys2, q3, q4⟩, _, _, _, _, _, rfl⟩
    · rintro σ H2 ⟨s2, cells, ⟨ys, hp2, dy⟩, v3, v4, v5, v6, v7, rfl⟩
      rw [List.take_of_length_le (by omega)] at dy
      refine ⟨_, rfl, p, ys, rfl, .inl ⟨SqL.of hp2, fun q nq => ?_⟩⟩
      exact k q ys _ (s2.trans (same_upd nq)) upd_same (dy.same (s2.trans (same_upd nq)))
end
end Hk
set_option Elab.async false
set_option linter.all false
set_option maxRecDepth 100000
set_option maxHeartbeats 4000000
set_option pp.maxSteps 1500
namespace Hk
open PySem PySem.Spec PyProof.Rows L2
theorem fam_ok {n : Int} {e : PyData} (h : famErr n e = none) : ∃ ds, e = .tuple ds ∧ wrongAt n 0 ds = none ∧ 1 ≤ ds.length ∧ ds.length ≤ 2000 := by
  unfold famErr at h
  cases hb : famBad n e with
  | some x => rw [hb] at h; cases h
  | none =>
    unfold famBad at hb
    cases q : isRows e with
    | false => rw [q] at hb; cases hb
    | true =>
      rw [q] at hb
      obtain ⟨ds, rfl⟩ : ∃ ds, e = .tuple ds := by cases e <;> simp_all [isRows]
      have hb : (wrongAt n 0 ds).map (fun i => V.int (i : Nat)) = none := hb
      have z : (decide (1 ≤ ds.length) && decide (ds.length ≤ 2000)) = true := q
      simp only [Bool.and_eq_true, decide_eq_true_eq] at z
      exact ⟨ds, rfl, by simpa using hb, z.1, z.2⟩
section
variable {P : Program} {w : World} {K : PySem.W.Frag} {mg : Str → Option Value} {base : Heap} {CD CF : Addr}
abbrev s_dealt_lines : Stmt := top 36
theorem sc_dealt_lines : FnScope ["deal", "family"] ["deal", "family"] (defScope s_dealt_lines) := ⟨rfl, rfl, rfl, by decide +kernel, rfl, by decide +kernel, by decide +kernel⟩
def spDLines (CD CF : Addr) : Sp := fun vs H Q E => ∃ (v u : V) (d e : PyData) (m g : Addr), vs = [v, u] ∧ Dt H m g v d ∧ Okd d ∧ Dt H m g u e ∧
  (dealFault d = none → famErr (marksOf d) e = none → ∀ (p : Addr) (ys : List V) H', Same H H' → H' p = some (.tup ys) → DtA H' m g ys (dealt d (elems e)) → Q (.ref p) H') ∧
  (∀ wd, dealFault d = some wd → Raised "word" CD (.str wd) H E) ∧ (dealFault d = none → ∀ x, famErr (marksOf d) e = some x → Raised "place" CF x H E)
theorem ok_dealt_lines (k_need_dealt : Kn P w K mg base 8 "need_dealt" ["deal", "family"] (spDealt CD CF)) (k_taken : Kn P w K mg base 1 "taken" ["deal", "lines"] spTaken) (at_ : At K mg "dealt_lines" s_dealt_lines ["deal", "family"]) : Kn P w K mg base 9 "dealt_lines" ["deal", "family"] (spDLines CD CF) := by
  refine Kn.mk (st := s_dealt_lines) (N := ["deal", "family"]) at_ sc_dealt_lines (fun vs H Q E h => ?_) (fun f cdv A outer s H vs Q E hr free h => ?_)
  · obtain ⟨v, u, d, e, m, g, rfl, _⟩ := h
    rfl
  · obtain ⟨v, u, d, e, m, g, rfl, dt, od, et, k1, k2, k3⟩ := h
    refine ⟨_, (pss_cons (ps_expr (pe_callN k_need_dealt free (hr.mono (by decide)) rfl (passes_call (takes_of rfl rfl rfl rfl) fun _ _ _ _ h => h) (pa_cons (pv 0) (pa_cons (pv 1) pa_nil)))) (pss_one (ps_ret (pe_callN k_taken free (hr.mono (by decide)) rfl passL (pa_cons (pv 0) (pa_cons (pv 1) pa_nil)))))), ?_⟩
    refine ⟨_, rfl, _, rfl, v, u, d, e, m, g, rfl, dt, od, et, fun hf he H1 s1 => ?_, k2, k3⟩
    obtain ⟨marks, stands, ranks, ok, em, m1⟩ := deal_ok hf
    obtain ⟨ds, rfl, good, l1, l2⟩ := fam_ok he
    rw [em] at good
    exact ⟨_, rfl, _, rfl, v, u, d, ds, m, g, marks, stands, ranks, rfl, dt.same s1, et.same s1, ok, good, l2, fun p ys H2 s2 hp dy => k1 hf he p ys H2 (s1.trans s2) hp dy⟩
end
end Hk
set_option Elab.async false
set_option linter.all false
set_option maxRecDepth 100000
set_option maxHeartbeats 4000000
set_option pp.maxSteps 1500
namespace Hk
open PySem PySem.Spec PyProof.Rows L2
section
variable {P : Program} {w : World} {K : PySem.W.Frag} {mg : Str → Option Value} {base : Heap} {CD CF : Addr}
abbrev s_law_dealt : Stmt := top 47
theorem sc_law_dealt : FnScope ["deal", "family", "told", "line", "stand", "child"] ["deal", "family"] (defScope s_law_dealt) := ⟨rfl, rfl, rfl, by decide +kernel, rfl, by decide +kernel, by decide +kernel⟩
def spLDealt : Sp := fun vs H Q _ => ∃ (v u : V) (d : PyData) (ds : List PyData) (m g : Addr) (marks stands ranks : Nat), vs = [v, u] ∧ Dt H m g v d ∧ Dt H m g u (.tuple ds) ∧ DealOk d marks stands ranks ∧ wrongAt (marks : Nat) 0 ds = none ∧ ds.length ≤ 2000 ∧
  ∀ (p : Addr) (ys : List V) H', Same H H' → H' p = some (.lst ys) → DtA H' m g ys (dealt d ds) → Q (.ref p) H'
theorem ok_law_dealt (T : Txt K mg) (at_ : At K mg "_law_dealt" s_law_dealt ["deal", "family"]) : Kn P w K mg base 1 "_law_dealt" ["deal", "family"] spLDealt := by
  refine Kn.mkN (st := s_law_dealt) (N := ["deal", "family", "told", "line", "stand", "child"]) at_ sc_law_dealt (fun vs H Q E h => ?_) (fun f cdv A outer s H vs Q E hr free h => ?_)
  · obtain ⟨v, u, d, ds, m, g, marks, stands, ranks, rfl, _⟩ := h
    rfl
  · obtain ⟨v, u, d, ds, m, g, marks, stands, ranks, rfl, dt, ut, ok, good, l2, k⟩ := h
    refine ⟨_, (pss_cons (ps_set (i := 2) sc_law_dealt.nd rfl (Or.inl rfl) (pe_lst pa_nil)) (pss_cons (ps_for PassesOwn.never rfl (pi_tup (pv 1)) (pg_name (i := 3) sc_law_dealt.nd rfl (Or.inl rfl)) (pss_cons (ps_set (i := 4) sc_law_dealt.nd rfl (Or.inl rfl) pe_int) (pss_cons (ps_for PassesOwn.never rfl (pi_tup (pe_ix ix_tup (pv 3) pe_int (fun _ _ => rfl))) (pg_name (i := 5) sc_law_dealt.nd rfl (Or.inl rfl)) (pss_one (ps_set (i := 4) sc_law_dealt.nd rfl (Or.inl rfl) (pe_ix ix_tup (pe_ix ix_tup (pe_ix ix_tup (pv 0) pe_int (fun _ _ => rfl)) (pv 4) (fun _ _ => rfl)) (pe_ix ix_tup (pe_ix ix_list (pv 2) (pv 5) (fun _ _ => rfl)) pe_int (fun _ _ => rfl)) (fun _ _ => rfl))))) (pss_one (ps_expr (pe_bm PySem.F.plainAttrs_list PySem.F.slot_list_append PySem.F.type_list_append mt_append (pv 2) (pa_cons (pe_ix ix_tup (pe_ix ix_tup (pe_ix ix_tup (pe_ix ix_tup (pv 0) pe_int (fun _ _ => rfl)) (pe_ix ix_tup (pv 3) pe_int (fun _ _ => rfl)) (fun _ _ => rfl)) (pe_ifExp (pt_val (pe_ix ix_tup (pv 3) pe_int (fun _ _ => rfl))) pe_int pe_int) (fun _ _ => rfl)) (pv 4) (fun _ _ => rfl)) pa_nil))))))) (pss_one (ps_ret (pv 2))))), ?_⟩
    cases ut with
    | @tup a xs _ hx m1 m2 da =>
    have el := da.len
    obtain ⟨ws, rd, cl, ed, ew, er, ec⟩ := ok.ex
    refine ⟨Nat.zero_le _, fun p np => ?_⟩
    have s1 := same_upd (o := .lst []) np
    have hp : upd H p (.lst []) p = some (.lst []) := upd_same
    generalize upd H p (.lst []) = H1 at s1 hp ⊢
    refine ⟨_, rfl, a, rfl, ⟨_, SqT.of (s1 _ _ hx)⟩, ?_⟩
    refine for_it (walk_tup (xs := xs)) (fun i σ H' => Same H H' ∧ (∀ c ∈ dealt d (ds.take i), CellD ranks c) ∧ (∃ ys, H' p = some (.lst ys) ∧ DtA H m g ys (dealt d (ds.take i))) ∧ ∃ v3 v4 v5, σ = [some v, some (.ref a), some (.ref p), v3, v4, v5])
      ⟨s1, (by intro c z; cases z), ⟨[], hp, .nil⟩, ⟨_, _, _, rfl⟩⟩ (fun i σ H' _ q => SqT.of (q.1 _ _ hx)) ?_ ?_
    · rintro i x σ H2 H3 hi ⟨s2, cells, ⟨ys, hp2, dy⟩, v3, v4, v5, rfl⟩ ⟨rfl, hxi⟩
      obtain ⟨di, hdi, dti⟩ := da.at' hxi
      have gi := none_good good i di hdi
      rw [Nat.zero_add] at gi
      obtain ⟨mk, al, cs, rfl, k0, k1, c6, cb⟩ := line_parts gi
      obtain ⟨mk, rfl⟩ : ∃ j : Nat, mk = (j : Int) := ⟨mk.toNat, by omega⟩
      have acc : (dealt d (ds.take i)).length = i := by
        rw [dealt_len, List.length_take]
        omega
      have dline := dti
      have dti2 := dti.same s2
      cases dti2 with
      | @tup la lx _ hl p1 p2 dl =>
      match lx, dl, hl with
      | [w0, w1, w2], .cons t0 (.cons t1 (.cons tc .nil)), hl =>
      cases t0
      cases t1
      cases tc with
      | @tup ca cx _ hc p3 p4 dc =>
      obtain rfl := dta_ints dc
      refine ⟨_, rfl, la, _, 2, .ref ca, rfl, rfl, SqT.of hl, rfl, ca, rfl, ⟨_, SqT.of hc⟩, ?_⟩
      have hs1 := ok.s1
      refine for_it (walk_tup (xs := cs.map V.int)) (fun j σ H' => Same H3 H' ∧ ∃ (st : Nat) (v7 : Option V), st = ((cs.take j).map Int.toNat).foldl (standStep d (dealt d (ds.take i))) 0 ∧ st < stands ∧ σ = [some v, some (.ref a), some (.ref p), some (.ref la), some (.int (st : Nat)), v7])
        ⟨Same.refl _, 0, _, rfl, hs1, rfl⟩ (fun j σ H' _ q => SqT.of (q.1 _ _ hc)) ?_ ?_
      · rintro j x σ H4 H5 hj ⟨s4, st, w7, est, lst, rfl⟩ ⟨rfl, hxj⟩
        rw [List.getElem?_map] at hxj
        cases hcj : cs[j]? with
        | none => rw [hcj] at hxj; cases hxj
        | some c =>
        rw [hcj] at hxj
        obtain rfl := Option.some.inj hxj
        have cm := cb c (List.mem_of_getElem? hcj)
        obtain ⟨c, rfl⟩ : ∃ c' : Nat, c = (c' : Int) := ⟨c.toNat, by omega⟩
        have s24 := s2.trans s4
        have dd := dt
        rw [ed] at dd
        obtain ⟨es, e1, e2, er3⟩ := ok.rows st lst
        have lc : c < (dealt d (ds.take i)).length := by omega
        obtain ⟨r, wd, e4, hr4, _⟩ := cells _ (getD_mem lc)
        obtain ⟨t, e5, ht⟩ := er3 r hr4
        refine ⟨_, rfl, tc_via (ixT_dt s24 (i := 2) dd (by simp) fun u2 d2 => ?_)⟩
        refine ⟨_, rfl, ixT_dt s24 (i := st) (ds := rd) d2 (by omega) fun u3 d3 => ?_⟩
        have e1' : rd.getD st .none = .tuple es := by rw [ed] at e1; exact e1
        rw [e1'] at d3
        refine ⟨_, rfl, _, rfl, ixL_dt (s4 _ _ hp2) dy lc fun u4 d4 => ?_⟩
        rw [e4] at d4
        refine tc_via (ixT_dt s24 (i := 0) d4 (by simp) fun u5 d5 => ?_)
        have d5 : Dt _ m g u5 (.int (r : Nat)) := d5
        cases d5
        refine ixT_dt s24 (i := r) d3 (by omega) fun u6 d6 => ?_
        rw [e5] at d6
        cases d6
        refine ⟨s4, t, _, ?_, ht, rfl⟩
        rw [take_snoc hcj, List.map_append, List.foldl_append, ← est]
        show t = standStep _ _ st ((c : Int).toNat)
        unfold standStep rdAt
        rw [Int.toNat_natCast, e4, e1]
        show t = (intOf (es.getD r .none)).toNat
        rw [e5]
        rfl
      · rintro σ H4 ⟨s4, st, w7, est, lst, rfl⟩
        have s24 := s2.trans s4
        have dd := dt
        rw [ed] at dd
        have lm : mk < marks := by omega
        obtain ⟨both, f1, f2, f3⟩ := ok.cells mk lm
        obtain ⟨row, f4, f5, f6⟩ := f3 (if al then 1 else 0) (by cases al <;> decide)
        refine ⟨_, rfl, .inl ⟨rfl, _, SqL.of (s4 _ _ hp2)⟩, ?_⟩
        refine ⟨_, rfl, tc_via (ixT_dt s24 (i := 3) dd (by simp) fun u2 d2 => ?_)⟩
        refine ⟨_, rfl, tc_via (ixT_dt s24 (i := 0) dline (by simp) fun w3 e3 => ?_)⟩
        have e3 : Dt H m g w3 (.int (mk : Nat)) := e3
        cases e3
        refine ixT_dt s24 (i := mk) (ds := cl) d2 (by omega) fun u3 d3 => ?_
        have f1' : cl.getD mk .none = .tuple both := by rw [ed] at f1; exact f1
        rw [f1'] at d3
        have s24' := s24
        have cell := deal_cell ok (al := al) lm lst
        have ecell : clAt d mk al st = row.getD st .none := by
          unfold clAt
          rw [f1]
          show nth (both.getD (if al then 1 else 0) .none) st = _
          rw [f4]
          rfl
        have step : dealt d (ds.take (i + 1)) = dealt d (ds.take i) ++ [row.getD st .none] := by
          rw [List.take_add_one, hdi]
          show dealt d (ds.take i ++ [_]) = _
          rw [dealt_snoc]
          unfold dealtStep
          rw [kids_ints]
          have e0 : standB d (dealt d (ds.take i)) (cs.map Int.toNat) = st := by
            have whole : cs.take (cs.map V.int).length = cs := List.take_of_length_le (by simp)
            rw [est, whole]
            rfl
          rw [e0, ← ecell]
          rfl
        have fin : ∀ u4, Dt H m g u4 (.tuple row) → rIxT K u4 (.int (st : Nat)) H4 (fun x H5 => rAppend (.ref p) [x] H5 fun _ H' => Same H H' ∧ (∀ c ∈ dealt d (ds.take (i + 1)), CellD ranks c) ∧ ∃ ys, H' p = some (.lst ys) ∧ DtA H m g ys (dealt d (ds.take (i + 1)))) := by
          intro u4 d4
          refine ixT_dt s24 (i := st) d4 (by omega) fun u5 d5 => ?_
          refine ⟨p, _, u5, rfl, rfl, s4 _ _ hp2, by have := dy.len; rw [this, acc]; exact Nat.lt_of_lt_of_le hi (by rw [el]; exact Nat.le_trans l2 (by decide)), same_set s24 np, ?_, _, upd_same, ?_⟩
          · rw [step]
            intro c hc
            rcases List.mem_append.mp hc with z | z
            · exact cells c z
            · rw [List.mem_singleton.mp z, ← ecell]
              exact cell
          · rw [step]
            exact dta_snoc dy d5
        refine ⟨_, rfl, tc_via (ixT_dt s24 (i := 1) dline (by simp) fun w4 e4 => ?_)⟩
        have e4 : Dt H m g w4 (.bool al) := e4
        cases e4
        refine ⟨_, rfl, ?_⟩
        cases al with
        | true =>
          refine iteT (tc_via (ixT_dt s24 (i := 1) d3 (by omega) fun u4 d4 => ?_))
          rw [show both.getD 1 .none = .tuple row from f4] at d4
          refine ⟨_, rfl, ?_⟩
          obtain ⟨a1, a2, a3, a4, b1, b2, b3, b4, c1, c2, c3, b5, b6, b7, b8, q1, q2, ys2, q3, q4⟩ := fin u4 d4
          exact ⟨a1, a2, a3, a4, b1, b2, b3, b4, c1, c2, c3, b5, b6, b7, b8, q1, q2, ⟨ys2, q3, q4⟩, _, _, _, rfl⟩
        | false =>
          refine iteF (tc_via (ixT_dt s24 (i := 0) d3 (by omega) fun u4 d4 => ?_))
          rw [show both.getD 0 .none = .tuple row from f4] at d4
          refine ⟨_, rfl, ?_⟩
          obtain ⟨a1, a2, a3, a4, b1, b2, b3, b4, c1, c2, c3, b5, b6, b7, b8, q1, q2, ys2, q3, q4⟩ := fin u4 d4
          exact ⟨a1, a2, a3, a4, b1, b2, b3, b4, c1, c2, c3, b5, b6, b7, b8, q1, q2, ⟨ys2, q3, q4⟩, _, _, _, rfl⟩
    · rintro σ H2 ⟨s2, cells, ⟨ys, hp2, dy⟩, v3, v4, v5, rfl⟩
      rw [List.take_of_length_le (by omega)] at dy
      exact ⟨_, rfl, k p ys H2 s2 hp2 (dy.same s2)⟩
end
end Hk
set_option Elab.async false
set_option linter.all false
set_option maxRecDepth 100000
set_option maxHeartbeats 4000000
namespace Hk
open PySem PySem.Spec PyProof.Rows L2
section
variable {P : Program} {w : World} {K : PySem.W.Frag} {mg : Str → Option Value} {base : Heap}
/-! ### _law_mixed -/
abbrev s_law_mixed : Stmt := top 38
theorem sc_law_mixed : FnScope ["cell", "n", "blend"] ["cell", "n"] (defScope s_law_mixed) := ⟨rfl, rfl, rfl, by decide +kernel, rfl, by decide +kernel, by decide +kernel⟩
def sp_mixed : Sp := fun vs H Q _ => ∃ c n : Int, vs = [.int c, .int n] ∧ 0 ≤ n ∧ n < 1000000000000 ∧ ∀ r : Int, 0 ≤ r → r < 1000000000 → Q (.int r) H
theorem ok_mixed (T : Txt K mg) (at_ : At K mg "_law_mixed" s_law_mixed ["cell", "n"]) : Kn P w K mg base 1 "_law_mixed" ["cell", "n"] sp_mixed := by
  refine Kn.mkN (st := s_law_mixed) (N := ["cell", "n", "blend"]) at_ sc_law_mixed (fun vs H Q E h => ?_) (fun f cdv A outer s H vs Q E hr free h => ?_)
  · obtain ⟨c, n, rfl, _⟩ := h
    rfl
  · obtain ⟨c, n, rfl, n0, n1, k⟩ := h
    refine ⟨_, (pss_cons (ps_set (i := 2) sc_law_mixed.nd rfl (Or.inl rfl) (pe_op op_add (pe_op op_add (pe_op op_modN (pe_callTy call_int1 (by rfl) T.b_int (by decide +kernel) (pa_cons (pe_op op_mul (pe_op op_mul (pv 0) (pe_op op_add pe_int (pe_op op_mul pe_int (pv 1)))) pe_int) pa_nil)) pe_int) (pe_op op_mul (pe_op op_mul pe_int (pv 1)) (pv 1))) (pe_op op_mul pe_int (pv 1)))) (pss_one (ps_ret (pe_op op_fdivN (pe_op op_modN (pe_callTy call_int1 (by rfl) T.b_int (by decide +kernel) (pa_cons (pe_op op_mul (pv 2) pe_int) pa_nil)) pe_int) pe_int)))), ?_⟩
    simp only [tSeq, tAsg, tOp, rI0, rI, tCB, tCons, tNil, tC, tVar, gName, tRet, L2.start]
    simp [CMul, CDivN]
    refine ⟨by omega, by omega, k _ ?_ ?_⟩
    · rw [Int.fmod_eq_emod_of_nonneg _ (by decide), Int.fdiv_eq_ediv_of_nonneg _ (by decide)]
      omega
    · rw [Int.fmod_eq_emod_of_nonneg _ (by decide), Int.fdiv_eq_ediv_of_nonneg _ (by decide)]
      omega
/-! ### _law_draw -/
abbrev s_law_draw : Stmt := top 40
theorem sc_law_draw : FnScope ["m", "limit", "n", "lot", "here", "cell"] ["m", "limit"] (defScope s_law_draw) := ⟨rfl, rfl, rfl, by decide +kernel, rfl, by decide +kernel, by decide +kernel⟩
/-- the state from which all is drawn, at m: its cells at c, its great ones at g, n drawn so far -/
structure Dr (H : Hp) (m c g : Addr) (n : Int) : Prop where
  hm : H m = some (.dK [(Sum.inr "cells", .ref c), (Sum.inr "great", .ref g), (Sum.inr "spot", .int n)])
  hc : ∃ cs : List Int, H c = some (.lst (cs.map V.int)) ∧ cs.length = 64
  hg : ∃ gs : List Int, H g = some (.lst (gs.map V.int)) ∧ gs.length ≤ 63
  n0 : 0 ≤ n
  ne : c ≠ g
abbrev drD (c g : Addr) (n : Int) : List (Key × V) := [(Sum.inr "cells", .ref c), (Sum.inr "great", .ref g), (Sum.inr "spot", .int n)]
theorem dr_cells (c g : Addr) (n : Int) : valV (drD c g n) (Sum.inr "cells") = some (.ref c) := rfl
theorem dr_great (c g : Addr) (n : Int) : valV (drD c g n) (Sum.inr "great") = some (.ref g) := rfl
theorem dr_spot (c g : Addr) (n : Int) : valV (drD c g n) (Sum.inr "spot") = some (.int n) := rfl
theorem dr_put (c g : Addr) (n k : Int) : putK (drD c g n) (Sum.inr "spot") (.int k) = drD c g k := rfl
theorem dr_putG (c g g' : Addr) (n : Int) : putK (drD c g n) (Sum.inr "great") (.ref g') = drD c g' n := rfl
theorem eqv_list {xs : List PyData} : PyData.eqv (.list xs) (.list []) = xs.isEmpty := by
  cases xs <;> simp [PyData.eqv, PyData.eqvAll]
theorem dp_ints {K : PySem.W.Frag} {H : Hp} : ∀ ns : List Int, DpAll K H (ns.map V.int) (ns.map PyData.int)
  | [] => .nil
  | n :: ns => .cons (.int n) (dp_ints ns)
theorem shaped_ints : ∀ ns : List Int, PyData.canLayAll0 (ns.map PyData.int) = true
  | [] => rfl
  | n :: ns => by simp [PyData.canLayAll0, PyData.canLay0, shaped_ints ns]
theorem depth_ints : ∀ ns : List Int, PyData.depthAll (ns.map PyData.int) ≤ 1
  | [] => by simp [PyData.depthAll]
  | n :: ns => by
    have := depth_ints ns
    simp [PyData.depthAll, PyData.depth]
    omega
theorem shaped_int_list (ns : List Int) : SeqAt.shaped (.list (ns.map PyData.int)) = true := by
  have := depth_ints ns
  unfold SeqAt.shaped
  simp [PyData.canLay0, shaped_ints, PyData.depth]
  omega
theorem upd3 {H : Hp} {a b : Addr} {o : HO} : upd H a o b = if b = a then some o else H b := rfl
def sp_draw : Sp := fun vs H Q _ => ∃ (m c g : Addr) (n limit : Int), vs = [.ref m, .int limit] ∧ Dr H m c g n ∧ n < 100000000 ∧ 1 ≤ limit ∧ limit < 1000000 ∧
  ∀ (H' : Hp) (r : Int), Kp m g H H' → Dr H' m c g (n + 1) → 0 ≤ r → r < limit → Q (.int r) H'
theorem ok_draw (T : Txt K mg) (k_law_mixed : Kn P w K mg base 1 "_law_mixed" ["cell", "n"] sp_mixed) (at_ : At K mg "_law_draw" s_law_draw ["m", "limit"]) : Kn P w K mg base 2 "_law_draw" ["m", "limit"] sp_draw := by
  refine Kn.mkN (st := s_law_draw) (N := ["m", "limit", "n", "lot", "here", "cell"]) at_ sc_law_draw (fun vs H Q E h => ?_) (fun f cdv A outer s H vs Q E hr free h => ?_)
  · obtain ⟨m, c, g, n, limit, rfl, _⟩ := h
    rfl
  · have hu := hu_of hr
    obtain ⟨m, c, g, n, limit, rfl, dr, n1, l0, l1, k⟩ := h
    refine ⟨_, (pss_cons (ps_set (i := 2) sc_law_draw.nd rfl (Or.inl rfl) (pe_dget hu (pv 0) pe_str (fun _ _ => rfl))) (pss_cons (ps_dput hu (pv 0) pe_str (pe_op op_add (pv 2) pe_int) rfl) (pss_cons (ps_if (pt_cmpR (op_neD hr.units) (pe_dget hu (pv 0) pe_str (fun _ _ => rfl)) (pe_lst pa_nil) (nomark _)) (pss_cons (ps_set (i := 3) sc_law_draw.nd rfl (Or.inl rfl) (pe_dget hu (pv 0) pe_str (fun _ _ => rfl))) (pss_cons (ps_set (i := 4) sc_law_draw.nd rfl (Or.inl rfl) (pe_op op_modN (pe_callTy call_int1 (by rfl) T.b_int (by decide +kernel) (pa_cons (pv 2) pa_nil)) (pe_callB (id := "len") call_len_seq (by rfl) T.b_len (by decide +kernel) (pa_cons (pv 3) pa_nil)))) (pss_cons (ps_set (i := 5) sc_law_draw.nd rfl (Or.inl rfl) (pe_ix ix_list (pv 3) (pv 4) (fun _ _ => rfl))) (pss_one (ps_if (pt_cmpR op_gt (pv 5) pe_int (nomark _)) (pss_cons (ps_asg (pe_op op_fdivN (pv 5) (pv 1)) (pg_sub (pv 3) (pv 4) set_list)) (pss_one (ps_ret (pe_op op_modN (pe_callTy call_int1 (by rfl) T.b_int (by decide +kernel) (pa_cons (pv 5) pa_nil)) (pv 1))))) pss_nil))))) pss_nil) (pss_cons (ps_set (i := 3) sc_law_draw.nd rfl (Or.inl rfl) (pe_dget hu (pv 0) pe_str (fun _ _ => rfl))) (pss_one (ps_ret (pe_op op_modN (pe_callTy call_int1 (by rfl) T.b_int (by decide +kernel) (pa_cons (pe_callN k_law_mixed free (hr.mono (by decide)) rfl passL (pa_cons (pe_callN k_law_mixed free (hr.mono (by decide)) rfl passL (pa_cons (pe_op op_add (pe_ix ix_list (pv 3) (pe_op op_modN (pe_callTy call_int1 (by rfl) T.b_int (by decide +kernel) (pa_cons (pv 2) pa_nil)) pe_int) (fun _ _ => rfl)) (pe_op op_mul pe_int (pe_op op_fdivN (pv 2) pe_int))) (pa_cons (pv 2) pa_nil))) (pa_cons (pe_op op_add (pv 2) pe_int) pa_nil))) pa_nil)) (pv 1)))))))), ?_⟩
    simp only [tSeq, tAsg, tOp, rI0, rI, tCB, tCons, tNil, tC, tVar, gName, tRet, L2.start]
    obtain ⟨hm, ⟨cs, hc, cl⟩, ⟨gs, hg, gl⟩, n0, ncg⟩ := dr
    have mc : c ≠ m := ne_of hc hm (by intro z; cases z)
    have mg' : g ≠ m := ne_of hg hm (by intro z; cases z)
    -- n = m['spot']
    refine ⟨_, rfl, m, .int n, rfl, DGet.k (k := Sum.inr "spot") hm, ?_⟩
    -- m['spot'] = n + 1
    refine ⟨_, rfl, _, _, rfl, rfl, _, rfl, m, _, rfl, DPut.k (k := Sum.inr "spot") hm (by show 3 < sizeLine; decide), ?_⟩
    rw [dr_put]
    -- if m['great'] != []
    refine ⟨_, rfl, m, .ref g, rfl, DGet.k (k := Sum.inr "great") upd_same, ?_⟩
    refine ⟨Nat.zero_le _, fun e he => ?_⟩
    have ce : c ≠ e := ne_of_none (by rw [upd_ne mc]; exact hc) he
    have ge : g ≠ e := ne_of_none (by rw [upd_ne mg']; exact hg) he
    have me : m ≠ e := ne_of_none upd_same he
    refine ⟨.list (gs.map PyData.int), .list [], .lst (.inl (.inl (by rw [upd_ne ge, upd_ne mg']; exact hg))) (dp_ints gs), .lst (.inl (.inl upd_same)) .nil, shaped_int_list gs, rfl, _, rfl, ?_⟩
    have kp0 : Kp m g H (upd (upd H m (.dK (drD c g (n + 1)))) e (.lst [])) := fun x o hx h1 h2 => by
      have xe : x ≠ e := fun z => by
        rw [z] at h1 hx
        rw [upd_ne h1, hx] at he
        cases he
      rw [upd_ne xe, upd_ne h1]
      exact hx
    have dr1 : Dr (upd (upd H m (.dK (drD c g (n + 1)))) e (.lst [])) m c g (n + 1) := ⟨by rw [upd_ne me, upd_same], ⟨cs, by rw [upd_ne ce, upd_ne mc]; exact hc, cl⟩, ⟨gs, by rw [upd_ne ge, upd_ne mg']; exact hg, gl⟩, by omega, ncg⟩
    have hgg : upd (upd H m (.dK (drD c g (n + 1)))) e (.lst []) g = some (.lst (gs.map V.int)) := by rw [upd_ne ge, upd_ne mg']; exact hg
    generalize upd (upd H m (.dK (drD c g (n + 1)))) e (.lst []) = H1 at kp0 dr1 hgg ⊢
    clear he ce ge me
    obtain ⟨hm1, ⟨cs1, hc1, cl1⟩, ⟨gs1, hg1, gl1⟩, n01, _⟩ := dr1
    rw [eqv_list]
    cases gs with
    | nil =>
      refine ⟨_, rfl, m, _, rfl, DGet.k (k := Sum.inr "cells") hm1, ?_⟩
      have md : (0 : Int) ≤ n.fmod 64 ∧ n.fmod 64 < 64 := by
        rw [Int.fmod_eq_emod_of_nonneg _ (by decide)]
        omega
      obtain ⟨j, hj⟩ : ∃ j : Nat, n.fmod 64 = (j : Int) := ⟨(n.fmod 64).toNat, by omega⟩
      have hj2 : j < cs1.length := by omega
      have at1 : atI (cs1.map V.int) (n.fmod 64) = some (V.int cs1[j]) := by rw [hj]; exact atI_nat (by rw [List.getElem?_map, List.getElem?_eq_getElem hj2]; rfl)
      refine ⟨_, rfl, _, rfl, .inl ⟨_, rfl, _, _, rfl, rfl, (by show (64 : Int) ≠ 0; decide), c, _, _, _, rfl, rfl, .inl (.inl hc1), at1, ?_⟩⟩
      refine ⟨_, rfl, _, _, rfl, rfl, ⟨(by decide), (by decide)⟩, _, _, rfl, rfl, ?_⟩
      refine ⟨.inl ⟨by decide, by decide⟩, _, _, rfl, rfl, _, rfl, _, _, rfl, n0, (by omega), fun r1 a1 a2 => ?_⟩
      refine ⟨_, rfl, _, _, rfl, rfl, _, _, rfl, (by omega), (by omega), fun r2 b1 b2 => ?_⟩
      refine .inl ⟨_, rfl, _, rfl, _, _, rfl, rfl, (by omega), ?_⟩
      have rr : 0 ≤ r2.fmod limit ∧ r2.fmod limit < limit := by
        rw [Int.fmod_eq_emod_of_nonneg _ (by omega)]
        exact ⟨Int.emod_nonneg _ (by omega), Int.emod_lt_of_pos _ (by omega)⟩
      exact k _ _ kp0 ⟨hm1, ⟨cs1, hc1, cl1⟩, ⟨gs1, hg1, gl1⟩, n01, ncg⟩ rr.1 rr.2
    | cons g0 gr =>
      refine ⟨_, rfl, m, _, rfl, DGet.k (k := Sum.inr "great") hm1, ?_⟩
      refine ⟨_, rfl, .inl ⟨_, rfl, _, rfl, _, _, rfl, .inl (.inl (.inl hgg)), _, _, rfl, rfl, (by show (((g0 :: gr).map V.int).length : Int) ≠ 0; rw [List.length_map, List.length_cons]; omega), ?_⟩⟩
      have len1 : (((g0 :: gr).map V.int).length : Int) = ((g0 :: gr).length : Int) := by rw [List.length_map]
      rw [len1]
      have hd : 0 ≤ n.fmod ((g0 :: gr).length : Int) ∧ n.fmod ((g0 :: gr).length : Int) < ((g0 :: gr).length : Int) := by
        have pos : (0 : Int) < ((g0 :: gr).length : Int) := by rw [List.length_cons]; omega
        rw [Int.fmod_eq_emod_of_nonneg _ (by omega)]
        exact ⟨Int.emod_nonneg _ (by omega), Int.emod_lt_of_pos _ pos⟩
      obtain ⟨i, hi⟩ : ∃ i : Nat, n.fmod ((g0 :: gr).length : Int) = (i : Int) := ⟨(n.fmod ((g0 :: gr).length : Int)).toNat, by omega⟩
      rw [hi] at hd
      have hil : i < (g0 :: gr).length := by omega
      have at2 : atI ((g0 :: gr).map V.int) (n.fmod ((g0 :: gr).length : Int)) = some (V.int (g0 :: gr)[i]) := by rw [hi]; exact atI_nat (by rw [List.getElem?_map, List.getElem?_eq_getElem hil]; rfl)
      refine ⟨_, rfl, _, rfl, g, _, _, _, rfl, rfl, .inl (.inl hgg), at2, ?_⟩
      refine ⟨_, rfl, _, _, rfl, rfl, _, rfl, ?_⟩
      refine ite2 (fun _ => ?_) (fun _ => ?_)
      · refine ⟨_, rfl, _, rfl, _, _, rfl, rfl, ⟨by omega, by omega⟩, ?_⟩
        refine ⟨_, rfl, _, rfl, g, _, _, i, rfl, rfl, hgg, ?_, ?_⟩
        · show ixN _ (n.fmod ((g0 :: gr).length : Int)) = some i
          rw [hi]
          unfold ixN
          rw [if_pos (by omega), if_pos (by rw [List.length_map]; omega)]
          simp
        refine ⟨_, rfl, .inl ⟨_, rfl, _, rfl, _, _, rfl, rfl, (by show limit ≠ 0; omega), ?_⟩⟩
        have rr : 0 ≤ ((g0 :: gr)[i]).fmod limit ∧ ((g0 :: gr)[i]).fmod limit < limit := by
          rw [Int.fmod_eq_emod_of_nonneg _ (by omega)]
          exact ⟨Int.emod_nonneg _ (by omega), Int.emod_lt_of_pos _ (by omega)⟩
        refine k _ _ (fun x o hx h1 h2 => ?_) ⟨?_, ⟨cs1, ?_, cl1⟩, ⟨(g0 :: gr).set i (((g0 :: gr)[i]).fdiv limit), ?_, ?_⟩, n01, ncg⟩ rr.1 rr.2
        · rw [upd_ne h2]
          exact kp0 x o hx h1 h2
        · rw [upd_ne (Ne.symm mg')]
          exact hm1
        · rw [upd_ne ncg]
          exact hc1
        · rw [upd_same, List.map_set]
        · rw [List.length_set]
          exact gl
      · refine ⟨_, rfl, m, _, rfl, DGet.k (k := Sum.inr "cells") hm1, ?_⟩
        have md : (0 : Int) ≤ n.fmod 64 ∧ n.fmod 64 < 64 := by
          rw [Int.fmod_eq_emod_of_nonneg _ (by decide)]
          omega
        obtain ⟨j, hj⟩ : ∃ j : Nat, n.fmod 64 = (j : Int) := ⟨(n.fmod 64).toNat, by omega⟩
        have hj2 : j < cs1.length := by omega
        have at1 : atI (cs1.map V.int) (n.fmod 64) = some (V.int cs1[j]) := by rw [hj]; exact atI_nat (by rw [List.getElem?_map, List.getElem?_eq_getElem hj2]; rfl)
        refine ⟨_, rfl, _, rfl, .inl ⟨_, rfl, _, _, rfl, rfl, (by show (64 : Int) ≠ 0; decide), c, _, _, _, rfl, rfl, .inl (.inl hc1), at1, ?_⟩⟩
        refine ⟨_, rfl, _, _, rfl, rfl, ⟨(by decide), (by decide)⟩, _, _, rfl, rfl, ?_⟩
        refine ⟨.inl ⟨by decide, by decide⟩, _, _, rfl, rfl, _, rfl, _, _, rfl, n0, (by omega), fun r1 a1 a2 => ?_⟩
        refine ⟨_, rfl, _, _, rfl, rfl, _, _, rfl, (by omega), (by omega), fun r2 b1 b2 => ?_⟩
        refine .inl ⟨_, rfl, _, rfl, _, _, rfl, rfl, (by omega), ?_⟩
        have rr : 0 ≤ r2.fmod limit ∧ r2.fmod limit < limit := by
          rw [Int.fmod_eq_emod_of_nonneg _ (by omega)]
          exact ⟨Int.emod_nonneg _ (by omega), Int.emod_lt_of_pos _ (by omega)⟩
        exact k _ _ kp0 ⟨hm1, ⟨cs1, hc1, cl1⟩, ⟨gs1, hg1, gl1⟩, n01, ncg⟩ rr.1 rr.2
end
end Hk
set_option Elab.async false
set_option linter.all false
set_option maxRecDepth 100000
set_option maxHeartbeats 4000000
namespace Hk
open PySem PySem.Spec PyProof.Rows L2
def spFolded (K : PySem.W.Frag) : Sp := fun vs H Q _ => ∃ (a : Addr) (ns : List Int), vs = [.ref a] ∧ SqL K H a (ns.map V.int) ∧ ns.length ≤ 63 ∧ ∀ (c : Addr) (cs : List Int) (H' : Hp), Same H H' → H c = none → H' c = some (.lst (cs.map V.int)) → cs.length = 64 → Q (.ref c) H'
section
variable {P : Program} {w : World} {K : PySem.W.Frag} {mg : Str → Option Value} {base : Heap}
abbrev s_law_folded : Stmt := top 39
theorem sc_law_folded : FnScope ["script", "found", "n", "cell"] ["script"] (defScope s_law_folded) := ⟨rfl, rfl, rfl, by decide +kernel, rfl, by decide +kernel, by decide +kernel⟩
theorem ok_law_folded (T : Txt K mg) (at_ : At K mg "_law_folded" s_law_folded ["script"]) : Kn P w K mg base 1 "_law_folded" ["script"] (spFolded K) := by
  refine Kn.mkN (st := s_law_folded) (N := ["script", "found", "n", "cell"]) at_ sc_law_folded (fun vs H Q E h => ?_) (fun f cdv A outer s H vs Q E hr free h => ?_)
  · obtain ⟨a, ns, rfl, _⟩ := h
    rfl
  · obtain ⟨a, ns, rfl, ha, l63, k⟩ := h
    refine ⟨_, (pss_cons (ps_setLc (i := 1) (own := [("n", 2)]) (by rfl) sc_law_folded.nd rfl rfl (sw_true rfl rfl rfl (by decide +kernel)) (tt := tYes) (pi_range1 rfl T.b_range (pa_cons pe_int pa_nil)) (blkOk_by (own := [("n", 2)]) (N := ["script", "found", "n", "cell"]) (sc := defScope s_law_folded) (by decide +kernel)) (fun _ _ _ _ _ => pg_name (i := 2) sc_law_folded.nd rfl (Or.inl rfl)) (fun _ _ _ _ _ => pts_nil) (fun _ _ _ _ _ => (pe_op op_add pe_int (pv 2)))) (pss_cons (ps_for PassesOwn.never rfl (pi_enum (by rfl) T.b_enumerate (pa_cons (pv 0) pa_nil)) (pg_tup rfl (pgs_cons (pg_name (i := 2) sc_law_folded.nd rfl (Or.inl rfl)) (pgs_cons (pg_name (i := 3) sc_law_folded.nd rfl (Or.inl rfl)) pgs_nil))) (pss_one (ps_asg (pe_op op_modN (pe_callTy call_int1 (by rfl) T.b_int (by decide +kernel) (pa_cons (pe_op op_add (pe_op op_mul (pe_ix ix_list (pv 1) (pe_op op_modN (pe_callTy call_int1 (by rfl) T.b_int (by decide +kernel) (pa_cons (pv 2) pa_nil)) pe_int) (fun _ _ => rfl)) pe_int) (pv 3)) pa_nil)) pe_int) (pg_sub (pv 1) (pe_op op_modN (pe_callTy call_int1 (by rfl) T.b_int (by decide +kernel) (pa_cons (pv 2) pa_nil)) pe_int) set_list)))) (pss_cons (ps_for PassesOwn.never rfl (pi_range2 (by rfl) T.b_range (pa_cons pe_int (pa_cons pe_int pa_nil))) (pg_name (i := 2) sc_law_folded.nd rfl (Or.inl rfl)) (pss_one (ps_asg (pe_op op_modN (pe_callTy call_int1 (by rfl) T.b_int (by decide +kernel) (pa_cons (pe_op op_add (pe_ix ix_list (pv 1) (pv 2) (fun _ _ => rfl)) (pe_op op_mul (pe_ix ix_list (pv 1) (pe_op op_sub (pv 2) pe_int) (fun _ _ => rfl)) pe_int)) pa_nil)) pe_int) (pg_sub (pv 1) (pv 2) set_list)))) (pss_one (ps_ret (pv 1)))))), ?_⟩
    refine ⟨64, rfl, by decide, by decide, fun D nD => ?_⟩
    refine lc_filt (walk_range (lo := 0) (n := 64)) (fun _ => true) (fun i => .int (17 + (i : Nat))) (fun _ _ => trivial) (fun i H x H' y => by obtain ⟨rfl, _⟩ := y; exact Same.refl _) nD (small_of (k := 64) (by decide) (by decide)) (fun i x H1 H2 Qy Qn hi y s1 q1 q2 => ?_) (fun H1 s1 hD => ?_)
    · obtain ⟨rfl, hy⟩ := y
      obtain rfl : x = .int (i : Nat) := hy.trans (by simp)
      exact ⟨rfl, yes_if ⟨_, rfl, _, _, rfl, rfl, q1 rfl _ (Same.refl _)⟩⟩
    · have hD' : ∃ cs : List Int, H1 D = some (.lst (cs.map V.int)) ∧ cs.length = 64 := ⟨(List.range 64).map fun i => 17 + (i : Nat), by rw [hD, List.filter_eq_self.mpr (fun _ _ => rfl), List.map_map]; rfl, by simp⟩
      have mod64 : ∀ i : Int, ∃ j : Nat, i.fmod 64 = (j : Int) ∧ j < 64 := fun i => ⟨(i.fmod 64).toNat, by rw [Int.fmod_eq_emod_of_nonneg _ (by decide)]; omega, by rw [Int.fmod_eq_emod_of_nonneg _ (by decide)]; omega⟩
      clear hD
      refine ⟨_, rfl, a, _, rfl, sql_same s1 ha, ?_⟩
      refine for_it (walk_enum (xs := ns.map V.int)) (fun i σ H' => Same H H' ∧ (∃ v2 v3, σ = [some (.ref a), some (.ref D), v2, v3]) ∧ ∃ cs : List Int, H' D = some (.lst (cs.map V.int)) ∧ cs.length = 64)
          ⟨s1, ⟨_, _, rfl⟩, hD'⟩ (fun i σ H' _ p => sql_same p.1 ha) ?_ ?_
      · rintro i x σ H2 H3 hi ⟨s2, ⟨v2, v3, rfl⟩, cs, hc, cl⟩ ⟨Tp, x1, x2, rfl, nT, rfl, hx1, hx2⟩
        cases hx1
        obtain ⟨z, hz, rfl⟩ := at_ints hx2
        have s4 : Same H (upd H2 Tp (.tup [.int (i : Nat), .int z])) := same_new s2 nT
        have hTp : upd H2 Tp (.tup [.int (i : Nat), .int z]) Tp = some (.tup [.int (i : Nat), .int z]) := upd_same
        have hc' : upd H2 Tp (.tup [.int (i : Nat), .int z]) D = some (.lst (cs.map V.int)) := by rw [upd_ne (ne_of_none hc nT)]; exact hc
        generalize upd H2 Tp (.tup [.int (i : Nat), .int z]) = H4 at s4 hTp hc' ⊢
        obtain ⟨j, hj, j64⟩ := mod64 (i : Nat)
        refine ⟨Tp, _, rfl, SqT.of hTp, rfl, _, _, rfl, _, _, rfl, rfl, ?_⟩
        have jl : j < cs.length := by omega
        have r1 : atI (cs.map V.int) ((i : Int).fmod 64) = some (.int (cs[j])) := by rw [hj]; exact ix_ints jl
        have r2 : ixN (cs.map V.int).length ((i : Int).fmod 64) = some j := by rw [hj]; exact ixN_nat (by rw [List.length_map]; exact jl)
        refine ⟨_, rfl, _, rfl, .inl ⟨_, rfl, _, _, rfl, rfl, (by show (64 : Int) ≠ 0; decide), D, _, _, _, rfl, rfl, SqL.of hc', r1, ?_⟩⟩
        refine ⟨_, _, rfl, rfl, .inr (by decide), ?_⟩
        refine ⟨_, rfl, _, _, rfl, rfl, .inl ⟨_, rfl, _, _, rfl, rfl, (by show (2147483647 : Int) ≠ 0; decide), ?_⟩⟩
        refine ⟨_, rfl, _, rfl, .inl ⟨_, rfl, _, _, rfl, rfl, (by show (64 : Int) ≠ 0; decide), D, _, _, j, rfl, rfl, hc', r2, ?_⟩⟩
        exact ⟨same_set s4 nD, ⟨_, _, rfl⟩, cs.set j _, by rw [upd_same, List.map_set], by rw [List.length_set]; exact cl⟩
      · rintro σ H2 ⟨s2, ⟨v2, v3, rfl⟩, hD2⟩
        refine ⟨1, 64, rfl, by decide, ?_⟩
        refine for_it (walk_range (lo := 1) (n := 63)) (fun i σ H' => Same H H' ∧ (∃ v2, σ = [some (.ref a), some (.ref D), v2, v3]) ∧ ∃ cs : List Int, H' D = some (.lst (cs.map V.int)) ∧ cs.length = 64)
          ⟨s2, ⟨_, rfl⟩, hD2⟩ (fun i σ H' _ p => trivial) ?_ ?_
        · rintro i x σ H3 H4 hi ⟨s3, ⟨v2, rfl⟩, cs, hc, cl⟩ ⟨rfl, hy⟩
          obtain rfl : x = .int ((i + 1 : Nat) : Int) := hy.trans (by simp; omega)
          have j1 : i + 1 < cs.length := by omega
          have j0 : i < cs.length := by omega
          have r0 : atI (cs.map V.int) (((i + 1 : Nat) : Int) - 1) = some (.int (cs[i])) := by rw [show ((i + 1 : Nat) : Int) - 1 = (i : Int) by omega]; exact ix_ints j0
          refine ⟨_, rfl, _, rfl, D, _, _, _, rfl, rfl, SqL.of hc, ix_ints j1, _, rfl, _, rfl, _, _, rfl, rfl, D, _, _, _, rfl, rfl, SqL.of hc, r0, ?_⟩
          refine ⟨_, _, rfl, rfl, .inr (by decide), ?_⟩
          refine ⟨_, _, rfl, rfl, .inl ⟨_, rfl, _, _, rfl, rfl, (by show (2147483647 : Int) ≠ 0; decide), ?_⟩⟩
          refine ⟨_, rfl, _, rfl, D, _, _, i + 1, rfl, rfl, hc, ixN_nat (by rw [List.length_map]; exact j1), ?_⟩
          exact ⟨same_set s3 nD, ⟨_, rfl⟩, cs.set (i + 1) _, by rw [upd_same, List.map_set], by rw [List.length_set]; exact cl⟩
        · rintro σ H3 ⟨s3, ⟨v2, rfl⟩, cs, hc, cl⟩
          exact ⟨_, rfl, k D cs H3 s3 nD hc cl⟩
end
end Hk
set_option Elab.async false
set_option linter.all false
set_option maxRecDepth 100000
set_option maxHeartbeats 4000000
namespace Hk
open PySem PySem.Spec PyProof.Rows L2
def spBegun (K : PySem.W.Frag) : Sp := fun vs H Q _ => ∃ (a : Addr) (ns : List Int), vs = [.ref a] ∧ SqL K H a (ns.map V.int) ∧ ns.length ≤ 63 ∧ ∀ (m c g : Addr) (H' : Hp), Same H H' → H m = none → H g = none → Dr H' m c g 0 → Q (.ref m) H'
section
variable {P : Program} {w : World} {K : PySem.W.Frag} {mg : Str → Option Value} {base : Heap}
abbrev s_law_begun : Stmt := top 41
theorem sc_law_begun : FnScope ["script", "m", "cell"] ["script"] (defScope s_law_begun) := ⟨rfl, rfl, rfl, by decide +kernel, rfl, by decide +kernel, by decide +kernel⟩
theorem ok_law_begun (T : Txt K mg) (k_law_folded : Kn P w K mg base 1 "_law_folded" ["script"] (spFolded K)) (at_ : At K mg "_law_begun" s_law_begun ["script"]) : Kn P w K mg base 2 "_law_begun" ["script"] (spBegun K) := by
  refine Kn.mkN (st := s_law_begun) (N := ["script", "m", "cell"]) at_ sc_law_begun (fun vs H Q E h => ?_) (fun f cdv A outer s H vs Q E hr free h => ?_)
  · obtain ⟨a, ns, rfl, _⟩ := h
    rfl
  · have hu := hu_of hr
    obtain ⟨a, ns, rfl, ha, l63, k⟩ := h
    refine ⟨_, (pss_cons (ps_set (i := 1) sc_law_begun.nd rfl (Or.inl rfl) (pe_disp (pps_cons pe_str (pe_callN k_law_folded free (hr.mono (by decide)) rfl passL (pa_cons (pv 0) pa_nil)) (pps_cons pe_str (pe_lst pa_nil) (pps_cons pe_str pe_int pps_nil))) (by rfl) (by rfl) (fun z => by cases z) (by decide))) (pss_cons (ps_dput hu (pv 1) pe_str (pe_lc (own := [("cell", 2)]) (by rfl) sc_law_begun.nd (tt := tYes) (pi_list (pv 0)) (blkOk_by (own := [("cell", 2)]) (N := ["script", "m", "cell"]) (sc := defScope s_law_begun) (by decide +kernel)) (fun _ _ _ _ _ => pg_name (i := 2) sc_law_begun.nd rfl (Or.inl rfl)) (fun _ _ _ _ _ => pts_nil) (fun _ _ _ _ _ => (pe_ifExp (pt_cmpR op_ge (pv 2) (pe_op op_pow pe_int pe_int) (nomark _)) (pv 2) pe_int))) rfl) (pss_one (ps_ret (pv 1))))), ?_⟩
    intro m nm
    have hmm : upd H m (.dK []) m = some (.dK []) := upd_same
    have s0 : Same H (upd H m (.dK [])) := same_upd nm
    have ham := sql_same s0 ha
    generalize upd H m (.dK []) = H0 at ham hmm s0 ⊢
    refine ⟨_, rfl, a, ns, rfl, ham, l63, fun c cs H1 s1 nc hc cl => ?_⟩
    refine ⟨Nat.zero_le _, fun g ng => ?_⟩
    have hm1 := s1 _ _ hmm
    have ncm : c ≠ m := fun z => by rw [z, hmm] at nc; cases nc
    have ngm : g ≠ m := fun z => by rw [z, hm1] at ng; cases ng
    have ngc : g ≠ c := fun z => by rw [z, hc] at ng; cases ng
    have ngH : H g = none := by
      cases e : H g with
      | none => rfl
      | some o => rw [s1 _ _ (s0 _ _ e)] at ng; cases ng
    refine ⟨by rw [upd_ne (Ne.symm ngm)]; exact hm1, [(.inr "cells", .ref c), (.inr "great", .ref g), (.inr "spot", .int 0)], rfl, (by show 3 ≤ 15; decide), ?_⟩
    have hm2 : upd (upd H1 g (.lst [])) m (.dK (mergeK [] [(.inr "cells", .ref c), (.inr "great", .ref g), (.inr "spot", .int 0)])) m = some (.dK (drD c g 0)) := upd_same
    have s2 : Same H (upd (upd H1 g (.lst [])) m (.dK (mergeK [] [(.inr "cells", .ref c), (.inr "great", .ref g), (.inr "spot", .int 0)]))) := same_set (same_set (s0.trans s1) ngH) nm
    have hc2 : upd (upd H1 g (.lst [])) m (.dK (mergeK [] [(.inr "cells", .ref c), (.inr "great", .ref g), (.inr "spot", .int 0)])) c = some (.lst (cs.map V.int)) := by rw [upd_ne ncm, upd_ne (Ne.symm ngc)]; exact hc
    generalize upd (upd H1 g (.lst [])) m (.dK (mergeK [] [(.inr "cells", .ref c), (.inr "great", .ref g), (.inr "spot", .int 0)])) = H2 at hm2 s2 hc2 ⊢
    refine ⟨_, rfl, a, rfl, ⟨_, sql_same s2 ha⟩, fun D nD => ?_⟩
    refine lc_filt (walk_list (xs := ns.map V.int)) (fun _ => true) (fun i => .int (((ns[i]?).map fun z => if (10 : Int) ^ 18 ≤ z then z else 0).getD 0)) (fun H' s' => sql_same (s2.trans s') ha) (fun i H x H' y => by obtain ⟨rfl, _⟩ := y; exact Same.refl _) nD (by rw [List.length_map]; exact small_of (k := 63) l63 (by decide)) (fun i x H3 H4 Qy Qn hi y s3 q1 q2 => ?_) (fun H3 s3 hD => ?_)
    · obtain ⟨rfl, hy⟩ := y
      obtain ⟨z, hz, rfl⟩ := at_ints hy
      have q1' := q1 rfl _ (Same.refl _)
      rw [hz] at q1'
      refine ⟨rfl, yes_if ⟨_, rfl, _, _, rfl, rfl, by unfold CPow; decide, _, _, rfl, rfl, _, rfl, ?_⟩⟩
      by_cases c18 : (10 : Int) ^ 18 ≤ z
      · refine (if_pos (decide_eq_true c18)).mpr ⟨_, rfl, ?_⟩
        rw [Option.map_some, if_pos c18] at q1'
        exact q1'
      · refine (if_neg (by simpa using c18)).mpr ?_
        rw [Option.map_some, if_neg c18] at q1'
        exact q1'
    · have hD' : ∃ gs : List Int, H3 D = some (.lst (gs.map V.int)) ∧ gs.length ≤ 63 := ⟨(List.range (ns.map V.int).length).map fun i => (((ns[i]?).map fun z => if (10 : Int) ^ 18 ≤ z then z else 0).getD 0), by rw [hD, List.filter_eq_self.mpr (fun _ _ => rfl), List.map_map]; rfl, by simpa using l63⟩
      obtain ⟨gs, hg, gl⟩ := hD'
      have Dm : D ≠ m := fun z => by rw [z, hm2] at nD; cases nD
      have Dc : D ≠ c := fun z => by rw [z, hc2] at nD; cases nD
      have DH : H D = none := by
        cases e : H D with
        | none => rfl
        | some o => rw [s2 _ _ e] at nD; cases nD
      refine ⟨_, rfl, m, _, rfl, DPut.k (k := Sum.inr "great") (s3 _ _ hm2) (by show 3 < sizeLine; decide), ?_⟩
      rw [dr_putG]
      refine ⟨_, rfl, k m c D _ (same_set (s2.trans s3) nm) nm DH ⟨upd_same, ⟨cs, by rw [upd_ne ncm]; exact s3 _ _ hc2, cl⟩, ⟨gs, by rw [upd_ne Dm]; exact hg, gl⟩, by decide, Ne.symm Dc⟩⟩
end
end Hk
set_option Elab.async false
set_option linter.all false
set_option maxRecDepth 100000
set_option maxHeartbeats 4000000
namespace Hk
open PySem PySem.Spec PyProof.Rows L2
def Shw (d : PyData) : Prop := d.showable = true ∧ d.canLay0 = true ∧ d.depth ≤ 60 ∧ d.shown.length ≤ sizeLine
section
variable {P : Program} {w : World} {K : PySem.W.Frag} {mg : Str → Option Value} {base : Heap}
abbrev s_law_like : Stmt := top 42
theorem sc_law_like : FnScope ["got", "due"] ["got", "due"] (defScope s_law_like) := ⟨rfl, rfl, rfl, by decide +kernel, rfl, by decide +kernel, by decide +kernel⟩
def spLike (K : PySem.W.Frag) : Sp := fun vs H Q _ => ∃ (x y : V) (d : PyData), vs = [x, y] ∧ Dp K H x d ∧ Dp K H y d ∧ Shw d ∧ Q (.bl true) H
theorem ok_law_like (T : Txt K mg) (at_ : At K mg "_law_like" s_law_like ["got", "due"]) : Kn P w K mg base 1 "_law_like" ["got", "due"] (spLike K) := by
  refine Kn.mkN (st := s_law_like) (N := ["got", "due"]) at_ sc_law_like (fun vs H Q E h => ?_) (fun f cdv A outer s H vs Q E hr free h => ?_)
  · obtain ⟨x, y, d, rfl, _⟩ := h
    rfl
  · obtain ⟨x, y, d, rfl, dx, dy, sh, k⟩ := h
    refine ⟨_, (pss_one (ps_ret (pe_cmpR op_eq (pe_callB (id := "repr") (call_show free (room65' hr)) (by rfl) T.b_repr (by decide +kernel) (pa_cons (pv 0) pa_nil)) (pe_callB (id := "repr") (call_show free (room65' hr)) (by rfl) T.b_repr (by decide +kernel) (pa_cons (pv 1) pa_nil)) (nomark _)))), ?_⟩
    refine ⟨_, rfl, x, d, rfl, dx, sh.1, sh.2.1, sh.2.2.1, sh.2.2.2, _, rfl, y, d, rfl, dy, sh.1, sh.2.1, sh.2.2.1, sh.2.2.2, rfl, ?_⟩
    rw [decide_eq_true rfl]
    exact k
end
end Hk
set_option Elab.async false
set_option linter.all false
set_option maxRecDepth 100000
set_option maxHeartbeats 4000000
namespace Hk
open PySem PySem.Spec PyProof.Rows L2
theorem cat_tup {K : PySem.W.Frag} {H : Hp} {a b : Addr} {xs ys : List V} {Q : VK} (ha : H a = some (.tup xs)) (hb : H b = some (.tup ys)) (small : xs.length + ys.length ≤ sizeLine) (k : ∀ p H', Same H H' → H' p = some (.tup (xs ++ ys)) → Q (.ref p) H') : rCatA K (.ref a) (.ref b) H Q := by
  refine ⟨a, b, xs, ys, rfl, rfl, SqT.of ha, SqT.of hb, small, fun e => ?_, fun _ e => ?_, fun _ _ p hp => ?_⟩
  · subst e
    exact k b H (Same.refl H) hb
  · subst e
    exact k a H (Same.refl H) (by rw [List.append_nil]; exact ha)
  · exact k p _ (same_upd hp) upd_same
theorem okd_strs {ws : List Str} (h : ws.all (fun x => (PyData.str x).canLay0) = true) : Okd (.tuple (ws.map PyData.str)) := by
  rw [okd_iff]
  have lay : ∀ ws : List Str, ws.all (fun x => (PyData.str x).canLay0) = true → PyData.canLayAll0 (ws.map PyData.str) = true := by
    intro ws
    induction ws with
    | nil => intro _; rfl
    | cons x ws ih =>
      intro h
      simp only [List.all_cons, Bool.and_eq_true] at h
      simp only [List.map_cons, PyData.canLayAll0, Bool.and_eq_true]
      exact ⟨h.1, ih h.2⟩
  have dep : ∀ ws : List Str, PyData.depthAll (ws.map PyData.str) = 0 := by
    intro ws
    induction ws with
    | nil => rfl
    | cons x ws ih => simp [PyData.depthAll, PyData.depth, ih]
  simp only [PyData.canLay0, PyData.depth, dep]
  exact ⟨lay ws h, by omega⟩
theorem row_all {ds : List PyData} {n : Nat} {p : Nat → PyData → Bool} : isRowOf n p (.tuple ds) = true ↔ ds.length = n ∧ ∀ i d, ds[i]? = some d → p i d = true := by
  unfold isRowOf
  simp only [Bool.and_eq_true, decide_eq_true_eq, List.all_eq_true, List.mem_range]
  constructor
  · rintro ⟨h1, h2⟩
    refine ⟨h1, fun i d hd => ?_⟩
    have z := h2 i (List.getElem?_eq_some_iff.mp hd).1
    rw [hd] at z
    simpa using z
  · rintro ⟨h1, h2⟩
    refine ⟨h1, fun i hi => ?_⟩
    rw [List.getElem?_eq_getElem hi]
    simpa using h2 i _ (List.getElem?_eq_getElem hi)
theorem row_false {ds : List PyData} {n i : Nat} {p : Nat → PyData → Bool} {d : PyData} (hd : ds[i]? = some d) (hp : p i d = false) : isRowOf n p (.tuple ds) = false := by
  cases h : isRowOf n p (.tuple ds) with
  | false => rfl
  | true =>
    have z := (row_all.mp h).2 i d hd
    rw [hp] at z
    cases z
theorem row_len {ds : List PyData} {n : Nat} {p : Nat → PyData → Bool} (h : ds.length ≠ n) : isRowOf n p (.tuple ds) = false := by
  show (decide (ds.length = n) && _) = false
  rw [decide_eq_false h]
  rfl
theorem row_not {d : PyData} {n : Nat} {p : Nat → PyData → Bool} (h : isT d = false) : isRowOf n p d = false := by
  cases d <;> simp_all [isT, isRowOf]
theorem isT_tup {d : PyData} (h : isT d = true) : ∃ ds, d = .tuple ds := by
  cases d <;> simp_all [isT]
theorem oldW_len (st : List Bool) (w : Str) (i : Nat) : (oldW st w i).length ≤ 1 := by
  unfold oldW
  split <;> simp
/-- ('w',) if c else (), behind which a name holds it -/
theorem word_if {c : Bool} {w : Str} {i : Nat} {σ : L2.St} {H : Hp} {D : L2.St → Hp → Prop} (k : ∀ p H', Same H H' → H' p = some (.tup ((if c = true then [w] else []).map V.str)) → D (σ.set i (some (.ref p))) H') :
    if c = true then tTup (tCons (tC (.str w)) tNil) σ H (fun x H1 => gName i x σ H1 D) else tTup tNil σ H (fun x H1 => gName i x σ H1 D) := by
  cases c with
  | true => exact iteT ⟨by show 1 ≤ sizeLine; decide, fun p hp => k p _ (same_upd hp) upd_same⟩
  | false => exact iteF ⟨Nat.zero_le _, fun p hp => k p _ (same_upd hp) upd_same⟩

def spOf : Sp := fun vs H Q _ => ∃ (m c g l : Addr) (n : Int) (xs : List V), vs = [.ref m, .ref l] ∧ Dr H m c g n ∧ n < 100000000 ∧ H l = some (.lst xs) ∧ l ≠ m ∧ l ≠ g ∧ 1 ≤ xs.length ∧ xs.length < 1000 ∧
  ∀ (H' : Hp) (x : V), Kp m g H H' → Dr H' m c g (n + 1) → x ∈ xs → Q x H'
def newW (w : Str) (t : Bool) : List Str := if t = true then [w] else []
theorem Dr.keep {H H' : Hp} {m c g : Addr} {n : Int} (d : Dr H m c g n) (k : Same H H') : Dr H' m c g n := by
  obtain ⟨hm, ⟨cs, hc, cl⟩, ⟨gs, hg, gl⟩, n0, ne⟩ := d
  exact ⟨k _ _ hm, ⟨cs, k _ _ hc, cl⟩, ⟨gs, k _ _ hg, gl⟩, n0, ne⟩
theorem Dr.ne_m {H : Hp} {m c g p : Addr} {n : Int} (d : Dr H m c g n) (h : H p = none) : p ≠ m := fun z => by rw [z, d.hm] at h; cases h
theorem Dr.ne_g {H : Hp} {m c g p : Addr} {n : Int} (d : Dr H m c g n) (h : H p = none) : p ≠ g := fun z => by
  obtain ⟨gs, hg, _⟩ := d.hg
  rw [z, hg] at h
  cases h
theorem cat_lstN {H : Hp} {a b : Addr} {xs ys : List V} {Q : VK} (ha : H a = some (.lst xs)) (hb : H b = some (.lst ys)) (small : xs.length + ys.length ≤ sizeLine) (k : ∀ p H', H p = none → Same H H' → H' p = some (.lst (xs ++ ys)) → Q (.ref p) H') : rCat (.ref a) (.ref b) H Q :=
  ⟨a, b, xs, ys, rfl, rfl, ha, hb, small, fun p hp => k p _ hp (same_upd hp) upd_same⟩
/-- the places of the truths that are b -/
def placesV (st : List Bool) (b : Bool) : List V := ((List.range st.length).filter fun i => st.getD i false == b).map fun i => .int (i : Nat)
theorem places_mem {st : List Bool} {b : Bool} {x : V} (h : x ∈ placesV st b) : ∃ i : Nat, i < st.length ∧ st.getD i false = b ∧ x = .int (i : Nat) := by
  unfold placesV at h
  simp only [List.mem_map, List.mem_filter, List.mem_range, beq_iff_eq] at h
  obtain ⟨i, ⟨h1, h2⟩, h3⟩ := h
  exact ⟨i, h1, h2, h3.symm⟩
theorem places_len {st : List Bool} {b : Bool} (h : b ∈ st) : 1 ≤ (placesV st b).length ∧ (placesV st b).length ≤ st.length := by
  unfold placesV
  rw [List.length_map]
  refine ⟨?_, Nat.le_trans (List.length_filter_le _ _) (by simp)⟩
  obtain ⟨i, hi, e⟩ := List.mem_iff_getElem.mp h
  exact List.length_pos_iff_exists_mem.mpr ⟨i, List.mem_filter.mpr ⟨List.mem_range.mpr hi, by simp [hi, e]⟩⟩
theorem pick_cell {st : List Bool} {ws : List Str} {i : Nat} {w : Str} {b : Bool} (h1 : i < st.length) (h2 : st.getD i false = b) (hw : inW (if b then ws else ["none"]) (.str w) = true) : isCell st ws (.tuple [.int (i : Nat), .str w]) = true := by
  show (decide (0 ≤ (i : Int)) && decide ((i : Int) ≤ (st.length : Int) - 1) && (if st.getD (i : Int).toNat false then inW ws (.str w) else inW ["none"] (.str w))) = true
  rw [decide_eq_true (by omega), decide_eq_true (by omega), Int.toNat_natCast, h2]
  cases b <;> exact hw

mutual
/-- no list is in it -/
def noL : PyData → Bool
  | .list _ | .dict _ => false
  | .tuple ds => noLA ds
  | _ => true
def noLA : List PyData → Bool
  | [] => true
  | d :: ds => noL d && noLA ds
end
theorem noLA_all {ds : List PyData} : noLA ds = ds.all noL := by
  induction ds with
  | nil => rfl
  | cons d ds ih => simp [noLA, ih]
mutual
theorem Dt.keepT {H H' : Hp} {m g : Addr} (k : ∀ a xs, H a = some (.tup xs) → a ≠ m → a ≠ g → H' a = some (.tup xs)) : ∀ {v : V} {d : PyData}, noL d = true → Dt H m g v d → Dt H' m g v d
  | _, _, _, .non => .non
  | _, _, _, .bl b => .bl b
  | _, _, _, .int i => .int i
  | _, _, _, .str x => .str x
  | _, _, n, .lst h h1 h2 a => by simp [noL] at n
  | _, _, n, .tup h h1 h2 a => .tup (k _ _ h h1 h2) h1 h2 (DtA.keepT k (by simpa [noL] using n) a)
theorem DtA.keepT {H H' : Hp} {m g : Addr} (k : ∀ a xs, H a = some (.tup xs) → a ≠ m → a ≠ g → H' a = some (.tup xs)) : ∀ {vs : List V} {ds : List PyData}, noLA ds = true → DtA H m g vs ds → DtA H' m g vs ds
  | _, _, _, .nil => .nil
  | _, _, n, .cons h t => by
    simp only [noLA, Bool.and_eq_true] at n
    exact .cons (Dt.keepT k n.1 h) (DtA.keepT k n.2 t)
end
theorem DtA.snoc {H : Hp} {m g : Addr} : ∀ {vs : List V} {ds : List PyData} {v : V} {d : PyData}, DtA H m g vs ds → Dt H m g v d → DtA H m g (vs ++ [v]) (ds ++ [d])
  | _, _, _, _, .nil, h => .cons h .nil
  | _, _, _, _, .cons a t, h => .cons a (DtA.snoc t h)
theorem noLA_snoc {ds : List PyData} {d : PyData} (h : noLA ds = true) (h2 : noL d = true) : noLA (ds ++ [d]) = true := by
  rw [noLA_all] at h ⊢
  rw [List.all_append, h]
  simp [h2]
/-- a list that grows, its items data without lists -/
structure Grow (H : Hp) (m g D : Addr) (i : Nat) (p : Nat → PyData → Prop) (ds : List PyData) : Prop where
  ex : ∃ acc, H D = some (.lst acc) ∧ DtA H m g acc ds
  nl : noLA ds = true
  len : ds.length = i
  ok : ∀ (j : Nat) d, ds[j]? = some d → p j d
theorem Grow.keep {H H' : Hp} {m g D : Addr} {i : Nat} {p : Nat → PyData → Prop} {ds : List PyData} (G : Grow H m g D i p ds) (k : Kp m g H H') (dm : D ≠ m) (dg : D ≠ g) : Grow H' m g D i p ds := by
  obtain ⟨acc, h, da⟩ := G.ex
  exact ⟨⟨acc, k _ _ h dm dg, da.keep k⟩, G.nl, G.len, G.ok⟩
theorem Grow.put {H : Hp} {m g D : Addr} {i : Nat} {p : Nat → PyData → Prop} {ds : List PyData} {v : V} {d : PyData} (G : Grow H m g D i p ds) (dt : Dt H m g v d) (nl : noL d = true) (pd : p i d) : ∀ acc, H D = some (.lst acc) → Grow (upd H D (.lst (acc ++ [v]))) m g D (i + 1) p (ds ++ [d]) := by
  intro acc h
  obtain ⟨acc', h', da⟩ := G.ex
  obtain rfl : acc' = acc := by
    rw [h] at h'
    cases h'
    rfl
  have keep : ∀ a xs, H a = some (.tup xs) → a ≠ m → a ≠ g → upd H D (.lst (acc' ++ [v])) a = some (.tup xs) := fun a xs ha _ _ => by
    rw [upd_ne (fun z => by rw [z, h] at ha; cases ha)]
    exact ha
  refine ⟨⟨acc' ++ [v], upd_same, (da.keepT keep G.nl).snoc (dt.keepT keep nl)⟩, noLA_snoc G.nl nl, by rw [List.length_append, G.len]; rfl, fun j e he => ?_⟩
  by_cases c : j < ds.length
  · rw [List.getElem?_append_left c] at he
    exact G.ok j e he
  · have l : j = i := by
      have := (List.getElem?_eq_some_iff.mp he).1
      rw [List.length_append] at this
      have e1 : ([d] : List PyData).length = 1 := rfl
      have := G.len
      omega
    subst l
    rw [List.getElem?_append_right (by omega), G.len, Nat.sub_self] at he
    cases he
    exact pd
theorem kp_set {m g D : Addr} {H H4 : Hp} {o : HO} (s : Kp m g H H4) (h : H D = none) : Kp m g H (upd H4 D o) := fun b u q h1 h2 => by
  rw [upd_ne (ne_of_none q h)]
  exact s b u q h1 h2
theorem Dr.set {H : Hp} {m c g D : Addr} {n : Int} {o : HO} (d : Dr H m c g n) (h1 : D ≠ m) (h2 : D ≠ c) (h3 : D ≠ g) : Dr (upd H D o) m c g n := by
  obtain ⟨hm, ⟨cs, hc, cl⟩, ⟨gs, hg, gl⟩, n0, ne⟩ := d
  exact ⟨by rw [upd_ne (Ne.symm h1)]; exact hm, ⟨cs, by rw [upd_ne (Ne.symm h2)]; exact hc, cl⟩, ⟨gs, by rw [upd_ne (Ne.symm h3)]; exact hg, gl⟩, n0, ne⟩
theorem Dr.ne_c {H : Hp} {m c g p : Addr} {n : Int} (d : Dr H m c g n) (h : H p = none) : p ≠ c := fun z => by
  obtain ⟨cs, hc, _⟩ := d.hc
  rw [z, hc] at h
  cases h
/-- a comprehension whose step draws -/
theorem lc_draw {J : It} {n : Nat} {G : Hp → Prop} {Y : Nat → Hp → V → Hp → Prop} (w : Walk J n G Y) {m c g D : Addr} {gt : TG} {te : TE} {own : List Nat} {σ : L2.St} {H1 : Hp} {Qd : Hp → Prop} {n0 : Int} {k : Int} (p : Nat → PyData → Prop) (k0 : 0 ≤ k) (dr : Dr H1 m c g n0) (hG : ∀ H, Kp m g H1 H → G H) (hY : ∀ i H x H', Y i H x H' → H' = H) (nD : H1 D = none) (small : n < sizeLine)
    (step : ∀ (i : Nat) x H (n' : Int) (Q' : VK), i < n → Y i H x H → Kp m g H1 H → Dr H m c g n' → n0 ≤ n' → n' ≤ n0 + k * (i : Int) → (∀ H4 n4 v d, Kp m g H H4 → Dr H4 m c g n4 → n' ≤ n4 → n4 ≤ n' + k → Dt H4 m g v d → noL d = true → p i d → Q' v H4) → gt x (wipe σ own) H fun σ2 H2 => wipe σ2 own = wipe σ own ∧ te σ2 H2 Q')
    (hd : ∀ H n' ds, Kp m g H1 H → Dr H m c g n' → n0 ≤ n' → n' ≤ n0 + k * (n : Int) → Grow H m g D n p ds → Qd H) :
    ∃ W : Nat → Nat → Hp → Prop, (∃ m, W 0 m (upd H1 D (.lst []))) ∧ ∀ i m H, W i m H →
      (J.stop i H ∧ Qd H) ∨ (J.go i H ∧ ∃ Nx : Hp → Prop, (∀ H', Nx H' → ∃ m', m' < m ∧ W (i + 1) m' H') ∧ ∀ x H', J.yld i H x H' → gt x (wipe σ own) H' fun σ2 H2 => wipe σ2 own = wipe σ own ∧ tYes σ2 H2 fun b H3 =>
        if b = true then te σ2 H3 fun y H4 => ∃ acc, H4 D = some (.lst acc) ∧ acc.length < sizeLine ∧ Nx (upd H4 D (.lst (acc ++ [y]))) else Nx H3) := by
  have dm := dr.ne_m nD
  have dc := dr.ne_c nD
  have dg := dr.ne_g nD
  refine lc_it w (fun i H => Kp m g H1 H ∧ ∃ n' ds, Dr H m c g n' ∧ n0 ≤ n' ∧ n' ≤ n0 + k * (i : Int) ∧ Grow H m g D i p ds) ⟨Kp.of (same_upd nD), n0, [], dr.set dm dc dg, by omega, by simp, ⟨⟨[], upd_same, .nil⟩, rfl, rfl, fun j d h => by simp at h⟩⟩ (fun i H _ q => hG H q.1) ?_ (fun H ⟨q1, n', ds, q2, q3, q4, q5⟩ => hd H n' ds q1 q2 q3 q4 q5)
  rintro i x H H' hi ⟨kp, n', ds, d1, h1, h2, gr⟩ y
  have := hY i H x H' y
  subst this
  refine step i x H' n' (fun y H4 => ∃ acc, H4 D = some (.lst acc) ∧ acc.length < sizeLine ∧ Kp m g H1 (upd H4 D (.lst (acc ++ [y]))) ∧ ∃ n' ds, Dr (upd H4 D (.lst (acc ++ [y]))) m c g n' ∧ n0 ≤ n' ∧ n' ≤ n0 + k * ((i + 1 : Nat) : Int) ∧ Grow (upd H4 D (.lst (acc ++ [y]))) m g D (i + 1) p ds) hi y kp d1 h1 h2 fun H4 n4 v d kp4 d4 h3 h4 dt nl pd => ?_
  have gr4 := gr.keep kp4 dm dg
  obtain ⟨acc, ha, da⟩ := gr4.ex
  refine ⟨acc, ha, by have := da.len; have := gr4.len; omega, kp_set (kp.trans kp4) nD, n4, ds ++ [d], d4.set dm dc dg, by omega, ?_, gr4.put dt nl pd acc ha⟩
  rw [show ((i + 1 : Nat) : Int) = (i : Int) + 1 by omega, Int.mul_add, Int.mul_one]
  omega

/-- data that == may look at, at most so deep -/
def OkN (k : Nat) (d : PyData) : Prop := d.canLay0 = true ∧ d.depth ≤ k
theorem OkN.okd {k : Nat} {d : PyData} (h : OkN k d) (hk : k ≤ 64) : Okd d := okd_iff.mpr ⟨h.1, by have := h.2; omega⟩
theorem OkN.mono {j k : Nat} {d : PyData} (h : OkN j d) (hk : j ≤ k) : OkN k d := ⟨h.1, by have := h.2; omega⟩
def spOther : Sp := fun vs H Q _ => ∃ (m c g : Addr) (n : Int) (v : V) (d : PyData) (k : Nat), vs = [.ref m, v] ∧ Dr H m c g n ∧ n < 10000 ∧ Dt H m g v d ∧ OkN k d ∧ (∀ ds, d = .tuple ds → ds.length ≤ 100) ∧
  ∀ (H' : Hp) (n' : Int) (v' : V) (d' : PyData), Kp m g H H' → Dr H' m c g n' → n' ≤ n + 2 → Dt H' m g v' d' → OkN (k + 1) d' → Q v' H'
theorem Dt.ofTup {H : Hp} {m c g p : Addr} {n : Int} {xs : List V} (d : Dr H m c g n) (h : H p = some (.tup xs)) : p ≠ m ∧ p ≠ g := by
  refine ⟨fun z => ?_, fun z => ?_⟩
  · rw [z, d.hm] at h
    cases h
  · obtain ⟨gs, hg, _⟩ := d.hg
    rw [z, hg] at h
    cases h
theorem pick_ok {H1 : Hp} {m c g : Addr} {n1 : Int} {xs : List V} {k : Nat} {Q : VK} (dr : Dr H1 m c g n1) (n2 : n1 < 100000) (l1 : 1 ≤ xs.length) (l2 : xs.length < 1000) (all : ∀ x ∈ xs, ∃ d, Dt H1 m g x d ∧ OkN k d)
    (q : ∀ H' v' d', Kp m g H1 H' → Dr H' m c g (n1 + 1) → Dt H' m g v' d' → OkN k d' → Q v' H') : xs.length ≤ sizeLine ∧ ∀ D, H1 D = none → spOf ([.ref m, .ref D] ++ []) (upd H1 D (.lst xs)) Q E0 := by
  refine ⟨Nat.le_of_lt (small1000 (by omega)), fun D nD => ?_⟩
  have s := same_upd (o := .lst xs) nD
  refine ⟨m, c, g, D, n1, xs, rfl, dr.keep s, by omega, upd_same, dr.ne_m nD, dr.ne_g nD, l1, l2, fun H' x kp d' hx => ?_⟩
  obtain ⟨d, dt, od⟩ := all x hx
  exact q H' x d ((Kp.of s).trans kp) d' ((dt.same s).keep kp) od
theorem okn_str (w : Str) (h : (PyData.str w).canLay0 = true) (k : Nat) : OkN k (.str w) := ⟨h, Nat.zero_le _⟩
theorem okn_int (i : Int) (k : Nat) : OkN k (.int i) := ⟨rfl, Nat.zero_le _⟩
theorem okn_bl (i : Bool) (k : Nat) : OkN k (.bool i) := ⟨rfl, Nat.zero_le _⟩
theorem okn_non (k : Nat) : OkN k .none := ⟨rfl, Nat.zero_le _⟩
theorem digit_ok (i : Int) : (PyData.str (toString (i.fmod 10))).canLay0 = true ∧ (i.fmod 10).natAbs.log2 < 1920 := by
  have h : 0 ≤ i.fmod 10 ∧ i.fmod 10 < 10 := by
    rw [Int.fmod_eq_emod_of_nonneg _ (by decide)]
    omega
  generalize i.fmod 10 = r at h
  obtain ⟨h1, h2⟩ := h
  have : r = 0 ∨ r = 1 ∨ r = 2 ∨ r = 3 ∨ r = 4 ∨ r = 5 ∨ r = 6 ∨ r = 7 ∨ r = 8 ∨ r = 9 := by omega
  rcases this with e | e | e | e | e | e | e | e | e | e <;> subst e <;> decide +kernel
theorem okn_mem {k : Nat} {ds : List PyData} {e : PyData} (h : OkN k (.tuple ds)) (he : e ∈ ds) : OkN (k - 1) e := by
  obtain ⟨h1, h2⟩ := h
  simp [PyData.canLay0, PyData.depth] at h1 h2
  have := depth_mem he
  exact ⟨lay_mem h1 he, by omega⟩
theorem okn_pos {k : Nat} {ds : List PyData} (h : OkN k (.tuple ds)) : 1 ≤ k := by
  have := h.2
  simp [PyData.depth] at this
  omega
theorem okn_all {j : Nat} : ∀ {es : List PyData}, (∀ e ∈ es, OkN j e) → PyData.canLayAll0 es = true ∧ PyData.depthAll es ≤ j
  | [], _ => ⟨rfl, Nat.zero_le _⟩
  | e :: es, h => by
    have h1 := h e (by simp)
    have h2 := okn_all (es := es) fun x hx => h x (by simp [hx])
    exact ⟨by simp [PyData.canLayAll0, h1.1, h2.1], by have := h1.2; have := h2.2; simp [PyData.depthAll]; omega⟩
theorem okn_tup {j : Nat} {es : List PyData} (h : ∀ e ∈ es, OkN j e) : OkN (j + 1) (.tuple es) := by
  have := okn_all h
  exact ⟨by simp [PyData.canLay0, this.1], by simp [PyData.depth]; omega⟩
theorem okn_lst {j : Nat} {es : List PyData} (h : ∀ e ∈ es, OkN j e) : OkN (j + 1) (.list es) := by
  have := okn_all h
  exact ⟨by simp [PyData.canLay0, this.1], by simp [PyData.depth]; omega⟩
theorem DtA.drop {H : Hp} {m g : Addr} : ∀ {vs : List V} {ds : List PyData} (i : Nat), DtA H m g vs ds → DtA H m g (vs.drop i) (ds.drop i)
  | _, _, 0, a => a
  | _, _, i + 1, .nil => .nil
  | _, _, i + 1, .cons _ t => DtA.drop i t
theorem DtA.take {H : Hp} {m g : Addr} : ∀ {vs : List V} {ds : List PyData} (i : Nat), DtA H m g vs ds → DtA H m g (vs.take i) (ds.take i)
  | _, _, 0, a => .nil
  | _, _, i + 1, .nil => .nil
  | _, _, i + 1, .cons h t => .cons h (DtA.take i t)
theorem DtA.app {H : Hp} {m g : Addr} : ∀ {vs us : List V} {ds es : List PyData}, DtA H m g vs ds → DtA H m g us es → DtA H m g (vs ++ us) (ds ++ es)
  | _, _, _, _, .nil, h => h
  | _, _, _, _, .cons a t, h => .cons a (DtA.app t h)
/-- a slice of a tuple -/
theorem sl_ok {K : PySem.W.Frag} {H : Hp} {a : Addr} {xs : List V} {lo hi : Option Int} {Q : VK} (ha : H a = some (.tup xs)) (k : ∀ p H', Same H H' → H' p = some (.tup (cutV xs lo hi)) → Q (.ref p) H') : rSlA K (.ref a) lo hi H Q := by
  refine ⟨a, xs, rfl, SqT.of ha, fun e => k a H (Same.refl _) ?_, fun _ p hp => k p _ (same_upd hp) upd_same⟩
  unfold cutV
  rw [e.1, e.2]
  simpa using ha
theorem no_hi {σ : L2.St} {H : Hp} {R : Option Int → Hp → Prop} (h : R none H) : tNoPart σ H R := h
/-- what a slice holds -/
def cutD (n : Nat) (ds : List PyData) (lo hi : Option Int) : List PyData := (ds.drop (HT.sIx n 0 lo)).take (HT.sIx n n hi - HT.sIx n 0 lo)
theorem DtA.cut {H : Hp} {m g : Addr} {vs : List V} {ds : List PyData} (lo hi : Option Int) (h : DtA H m g vs ds) : DtA H m g (cutV vs lo hi) (cutD vs.length ds lo hi) := (h.drop _).take _
theorem cutD_mem {n : Nat} {ds : List PyData} {lo hi : Option Int} {e : PyData} (h : e ∈ cutD n ds lo hi) : e ∈ ds := List.mem_of_mem_drop (List.mem_of_mem_take h)
theorem cutV_len {xs : List V} {lo hi : Option Int} : (cutV xs lo hi).length ≤ xs.length := cutV_length xs lo hi
def tOtherB (K : PySem.W.Frag) : TS := tSeq (tIfS (tB (tCB (rIsi K) (tCons (tVar 1) (tCons (tC (.ty "bool")) tNil)))) (tRet (tCall spOf [] E0 (tCons (tVar 0) (tCons (tLst (tCons (tNotV (tVar 1)) (tCons (tC (.int 1)) (tCons (tC (.int 0)) (tCons (tC .non) (tCons (tC (.str "True")) tNil)))))) tNil)))) tNext)
  (tSeq (tIfS (tB (tCB (rIsi K) (tCons (tVar 1) (tCons (tC (.ty "int")) tNil)))) (tRet (tCall spOf [] E0 (tCons (tVar 0) (tCons (tLst (tCons (tOp (rI0 fun i j => .int (i + j)) (tVar 1) (tC (.int 1))) (tCons (tOp (rI0 fun i j => .int (i - j)) (tVar 1) (tC (.int 1))) (tCons (tUn (rU fun i => .int (-i)) (tC (.int 1))) (tCons (tC (.int 0)) (tCons (tC (.int 7)) (tCons (tC (.int 8)) (tCons (tC (.bl true)) (tCons (tC (.bl false)) (tCons (tC .non)
      (tCons (tCB (fun xs H Q => ∃ i, xs = [V.int i] ∧ i.natAbs.log2 < 1920 ∧ Q (.str (toString i)) H) (tCons (tOp (rI (fun x j => j ≠ 0) fun i j => .int (i.fmod j)) (tVar 1) (tC (.int 10))) tNil)) tNil))))))))))) tNil)))) tNext)
    (tRet (tCall spOf [] E0 (tCons (tVar 0) (tCons (tLst (tCons (tC (.str "old")) (tCons (tC (.str "new")) (tCons (tC (.str "none")) (tCons (tC (.str "line")) (tCons (tC (.str "self")) (tCons (tC (.str "")) (tCons (tC .non) (tCons (tC (.int 0)) (tCons (tTup tNil) (tCons (tTup (tCons (tC (.str "none")) tNil)) (tCons (tOp (rI CPow fun i j => .int (i ^ j.toNat)) (tC (.int 10)) (tC (.int 40))) tNil)))))))))))) tNil)))))
theorem other_ok {K : PySem.W.Frag} {R : Ends} {H : Hp} {m c g : Addr} {n : Int} {v : V} {d : PyData} {k : Nat} (dr : Dr H m c g n) (n1 : n < 20000) (dt : Dt H m g v d)
    (q : ∀ (H' : Hp) (v' : V) (d' : PyData), Kp m g H H' → Dr H' m c g (n + 1) → Dt H' m g v' d' → OkN (k + 1) d' → R.rt v' H') : tOtherB K R [some (.ref m), some v] H := by
  refine ⟨_, rfl, v, .ty "bool", .type (tyN d), .type "bool", isB d, rfl, .ty _, dt.ty, kit_B dt, _, rfl, ?_⟩
  cases hB : isB d with
  | true =>
    obtain ⟨b, rfl⟩ : ∃ b, d = .bool b := by cases d <;> simp_all [isB]
    cases dt
    refine iteT ⟨_, rfl, _, rfl, _, rfl, ?_⟩
    refine pick_ok (k := k + 1) (xs := [.bl (!b), .int 1, .int 0, .non, .str "True"]) dr (by omega) (by simp) (by simp) (fun x hx => ?_) q
    simp only [List.mem_cons, List.not_mem_nil, or_false] at hx
    rcases hx with e | e | e | e | e <;> subst e
    · exact ⟨_, .bl _, okn_bl _ _⟩
    · exact ⟨_, .int _, okn_int _ _⟩
    · exact ⟨_, .int _, okn_int _ _⟩
    · exact ⟨_, .non, okn_non _⟩
    · exact ⟨_, .str _, okn_str _ (by decide +kernel) _⟩
  | false =>
    refine iteF ⟨_, rfl, v, .ty "int", .type (tyN d), .type "int", isI d, rfl, .ty _, dt.ty, kit_I dt, _, rfl, ?_⟩
    cases hI : isI d with
    | true =>
      obtain ⟨i, rfl⟩ : ∃ i, d = .int i := by cases d <;> simp_all [isI, isB]
      cases dt
      have dg := digit_ok i
      refine iteT ⟨_, rfl, _, rfl, _, _, rfl, rfl, _, rfl, _, _, rfl, rfl, _, rfl, _, rfl, _, _, rfl, rfl, (by show (10 : Int) ≠ 0; decide), _, rfl, dg.2, ?_⟩
      refine pick_ok (k := k + 1) (xs := [.int (i + 1), .int (i - 1), .int (-1), .int 0, .int 7, .int 8, .bl true, .bl false, .non, .str (toString (i.fmod 10))]) dr (by omega) (by simp) (by simp) (fun x hx => ?_) q
      simp only [List.mem_cons, List.not_mem_nil, or_false] at hx
      rcases hx with e | e | e | e | e | e | e | e | e | e <;> subst e
      · exact ⟨_, .int _, okn_int _ _⟩
      · exact ⟨_, .int _, okn_int _ _⟩
      · exact ⟨_, .int _, okn_int _ _⟩
      · exact ⟨_, .int _, okn_int _ _⟩
      · exact ⟨_, .int _, okn_int _ _⟩
      · exact ⟨_, .int _, okn_int _ _⟩
      · exact ⟨_, .bl _, okn_bl _ _⟩
      · exact ⟨_, .bl _, okn_bl _ _⟩
      · exact ⟨_, .non, okn_non _⟩
      · exact ⟨_, .str _, okn_str _ dg.1 _⟩
    | false =>
      refine iteF ⟨_, rfl, Nat.zero_le _, fun a na => ?_⟩
      have am := dr.ne_m na
      have ag := dr.ne_g na
      have s1 := same_upd (o := .tup []) na
      have ha : upd H a (.tup []) a = some (.tup []) := upd_same
      generalize upd H a (.tup []) = H1 at s1 ha ⊢
      have d1 := dr.keep s1
      refine ⟨by show 1 ≤ sizeLine; decide, fun b nb => ?_⟩
      have bm := d1.ne_m nb
      have bg := d1.ne_g nb
      have s2 := same_upd (o := .tup [.str "none"]) nb
      have hb : upd H1 b (.tup [.str "none"]) b = some (.tup [.str "none"]) := upd_same
      generalize upd H1 b (.tup [.str "none"]) = H2 at s2 hb ⊢
      have d2 := d1.keep s2
      refine ⟨_, _, rfl, rfl, by unfold CPow; decide, ?_⟩
      refine pick_ok (k := k + 1) (xs := [.str "old", .str "new", .str "none", .str "line", .str "self", .str "", .non, .int 0, .ref a, .ref b, .int (10 ^ 40)]) d2 (by omega) (by simp) (by simp) (fun x hx => ?_) (fun H' v' d' kp => q H' v' d' ((Kp.of (s1.trans s2)).trans kp))
      simp only [List.mem_cons, List.not_mem_nil, or_false] at hx
      rcases hx with e | e | e | e | e | e | e | e | e | e | e <;> subst e
      · exact ⟨_, .str _, okn_str _ (by decide +kernel) _⟩
      · exact ⟨_, .str _, okn_str _ (by decide +kernel) _⟩
      · exact ⟨_, .str _, okn_str _ (by decide +kernel) _⟩
      · exact ⟨_, .str _, okn_str _ (by decide +kernel) _⟩
      · exact ⟨_, .str _, okn_str _ (by decide +kernel) _⟩
      · exact ⟨_, .str _, okn_str _ (by decide +kernel) _⟩
      · exact ⟨_, .non, okn_non _⟩
      · exact ⟨_, .int _, okn_int _ _⟩
      · exact ⟨.tuple [], .tup (s2 _ _ ha) am ag .nil, rfl, by show 0 + 1 ≤ k + 1; omega⟩
      · exact ⟨.tuple [.str "none"], .tup hb bm bg (.cons (.str _) .nil), by decide +kernel, by show max 0 0 + 1 ≤ k + 1; omega⟩
      · exact ⟨_, .int _, okn_int _ _⟩

end Hk
set_option Elab.async false
set_option linter.all false
set_option maxRecDepth 100000
set_option maxHeartbeats 4000000
set_option pp.maxSteps 1500
namespace Hk
open PySem PySem.Spec PyProof.Rows L2
def putD (ds : List PyData) (n : Nat) (e : PyData) : List PyData := ds.take n ++ [e] ++ ds.drop (n + 1)
theorem cut_take {α : Type} {ds : List α} {n k : Nat} (h : ds.length = k) : (ds.drop (HT.sIx k 0 none)).take (HT.sIx k k (some (n : Int)) - HT.sIx k 0 none) = ds.take n := by
  rw [HT.sIx_none, HT.sIx_nat]
  simp only [List.drop_zero, Nat.sub_zero]
  by_cases c : n ≤ k
  · rw [Nat.min_eq_left c]
  · rw [Nat.min_eq_right (by omega), List.take_of_length_le (by omega), List.take_of_length_le (by omega)]
theorem cut_drop {α : Type} {ds : List α} {n k : Nat} (h : ds.length = k) : (ds.drop (HT.sIx k 0 (some ((n : Int) + 1)))).take (HT.sIx k k none - HT.sIx k 0 (some ((n : Int) + 1))) = ds.drop (n + 1) := by
  rw [HT.sIx_none, show ((n : Int) + 1) = ((n + 1 : Nat) : Int) by omega, HT.sIx_nat]
  by_cases c : n + 1 ≤ k
  · rw [Nat.min_eq_left c, List.take_of_length_le (by rw [List.length_drop]; omega)]
  · rw [Nat.min_eq_right (by omega), List.drop_eq_nil_of_le (by omega), List.drop_eq_nil_of_le (by omega)]
    simp
section
variable {P : Program} {w : World} {K : PySem.W.Frag} {mg : Str → Option Value} {base : Heap} {CD CF : Addr}
abbrev s_law_put : Stmt := top 52
theorem sc_law_put : FnScope ["row", "n", "thing"] ["row", "n", "thing"] (defScope s_law_put) := ⟨rfl, rfl, rfl, by decide +kernel, rfl, by decide +kernel, by decide +kernel⟩
def spPut : Sp := fun vs H Q _ => ∃ (v x : V) (ds : List PyData) (e : PyData) (m c g : Addr) (n : Nat) (q : Int), vs = [v, .int (n : Nat), x] ∧ Dr H m c g q ∧ Dt H m g v (.tuple ds) ∧ Dt H m g x e ∧ ds.length ≤ 200 ∧ ∀ (u : V) H', Same H H' → Dt H' m g u (.tuple (putD ds n e)) → Q u H'
theorem ok_law_put (T : Txt K mg) (at_ : At K mg "_law_put" s_law_put ["row", "n", "thing"]) : Kn P w K mg base 1 "_law_put" ["row", "n", "thing"] spPut := by
  refine Kn.mkN (st := s_law_put) (N := ["row", "n", "thing"]) at_ sc_law_put (fun vs H Q E h => ?_) (fun f cdv A outer s H vs Q E hr free h => ?_)
  · obtain ⟨v, x, ds, e, m, c, g, n, q, rfl, _⟩ := h
    rfl
  · obtain ⟨v, x, ds, e, m, c, g, n, q, rfl, dr, dt, ex, short, k⟩ := h
    refine ⟨_, (pss_one (ps_ret (pe_op op_catA (pe_op op_catA (pe_slice sl_tupA (pv 0) po_none (po_some (pv 1))) (pe_tup (pa_cons (pv 2) pa_nil))) (pe_slice sl_tupA (pv 0) (po_some (pe_op op_add (pv 1) pe_int)) po_none)))), ?_⟩
    cases dt with
    | @tup a xs _ ha am ag da =>
    have el := da.len
    refine ⟨_, rfl, _, rfl, _, rfl, ?_⟩
    refine sl_ok ha fun p1 H2 s2 hp1 => ?_
    refine ⟨_, rfl, by show 1 ≤ sizeLine; decide, fun y ny => ?_⟩
    have s3 := same_upd (o := .tup [x]) ny
    have hy : upd H2 y (.tup [x]) y = some (.tup [x]) := upd_same
    generalize upd H2 y (.tup [x]) = H3 at s3 hy ⊢
    have l1 := cutV_len (xs := xs) (lo := none) (hi := some ((n : Nat) : Int))
    refine cat_tup (s3 _ _ hp1) hy (Nat.le_of_lt (small1000 (by show _ + 1 ≤ 1000; omega))) fun p2 H5 s5 hp2 => ?_
    have s15 := (s2.trans s3).trans s5
    refine ⟨_, rfl, _, rfl, _, _, rfl, rfl, _, rfl, ?_⟩
    refine no_hi ?_
    refine sl_ok (s15 _ _ ha) fun p3 H6 s6 hp3 => ?_
    have l2 := cutV_len (xs := xs) (lo := some (((n : Nat) : Int) + 1)) (hi := none)
    refine cat_tup (s6 _ _ hp2) hp3 (Nat.le_of_lt (small1000 (by rw [List.length_append]; show _ + 1 + _ ≤ 1000; omega))) fun p4 H7 s7 hp4 => ?_
    have s17 := (s15.trans s6).trans s7
    have pn := Dt.ofTup (dr.keep s17) hp4
    have da7 := da.same s17
    refine k (.ref p4) H7 s17 (.tup hp4 pn.1 pn.2 ?_)
    have z := ((da7.cut none (some ((n : Nat) : Int))).app (.cons (ex.same s17) .nil)).app (da7.cut (some (((n : Nat) : Int) + 1)) none)
    unfold cutD at z
    rw [cut_take el.symm, cut_drop el.symm] at z
    exact z
end
end Hk
set_option Elab.async false
set_option linter.all false
set_option maxRecDepth 100000
set_option maxHeartbeats 4000000
set_option pp.maxSteps 1500
namespace Hk
open PySem PySem.Spec PyProof.Rows L2
/-- a named def called in a try: the wish about what it raises, with the frame's values -/
def tCallW (sp : Sp) (W : WX) (t : TA) : TE := fun σ H Q => t σ H fun vs H1 => ∃ E : XK, (∀ cls d H', E cls d H' → W cls d σ H') ∧ sp vs H1 Q E
theorem pe_callNW {X : Cx} {k : Nat} {ps : List Str} {sp : Sp} {W : WX} {x : Str} {p pos : Pos} {e : Expr} {es : List Expr} {t : TA} (F : Kn X.prog X.w X.K X.mg X.base k x ps sp) (free : X.A.guards = some []) (hr : Room k X.A) (isg : Gl X x) (tk : Takes X W) (args : PA X (e :: es) t) (nd : (x == ("__debug__" : Str)) = false := by decide)
    (head : starEach (e :: es) X.env = (false, eval e X.env) :: starEach es X.env := by rfl) (flat : (backTo pos (starEach es X.env)).any (·.1) = false := by rfl) : PE X (.Call (.Name x p) (e :: es) [] pos) (tCallW sp W t) := by
  obtain ⟨f, fd, G, at_, kept, bind⟩ := F
  constructor
  intro pins st σ H Q I want
  apply wpAny_Call_Name_kw
  apply ld_glob I isg at_ _ nd
  apply PySem.W.callWith_K (h₀ := X.base) I.ok.mod.kin kept _ head flat
  apply thn (args.run pos pins st σ H _ I want)
  rintro us s1 ⟨vs, H1, I1, rel, goal⟩
  obtain ⟨E, hW, goal⟩ := goal
  refine ⟨I1.kIn, ?_⟩
  have hl : (us ++ []).length = ps.length := by rw [List.append_nil, ← rel.length]; exact G.many _ _ _ _ goal
  have hb := bind s1 us I1.kIn hl
  rw [List.append_nil] at hb
  apply wpAny_call
  refine codeAny_mono (G.goes X.A X.stack s1 H1 ⟨us, []⟩ us vs Q E hr free I1.env0 hb rel goal) ?_
  intro r s2 hq
  match r, hq with
  | .error e, hq => exact tk e s2 (XE.of_call I1 (fun cls d H' h => hW cls d H' h) hq)
  | .ok (.ret u), hq => exact I1.after hq
section
variable {P : Program} {w : World} {K : PySem.W.Frag} {mg : Str → Option Value} {base : Heap} {CD CF B fI fB : Addr}
abbrev s_law_need_error : Stmt := top 51
theorem sc_law_need_error : FnScope ["deal", "found", "e"] ["deal"] (defScope s_law_need_error) := ⟨rfl, rfl, rfl, by decide +kernel, rfl, by decide +kernel, by decide +kernel⟩
def spNErr : Sp := fun vs H Q _ => ∃ (v : V) (d : PyData) (m g : Addr), vs = [v] ∧ Dt H m g v d ∧ Okd d ∧ ∀ H', Same H H' → Q (wordV (dealFault d)) H'
theorem ok_law_need_error (T : Txt K mg) (O : PySem.OwnX.OwnTxt P K mg "BadDeal" "word" CD B fI fB) (k_need_deal : Kn P w K mg base 7 "need_deal" ["deal"] (spDeal CD)) (at_ : At K mg "_law_need_error" s_law_need_error ["deal"]) : Kn P w K mg base 8 "_law_need_error" ["deal"] spNErr := by
  refine Kn.mkN (st := s_law_need_error) (N := ["deal", "found", "e"]) at_ sc_law_need_error (fun vs H Q E h => ?_) (fun f cdv A outer s H vs Q E hr free h => ?_)
  · obtain ⟨v, d, m, g, rfl, _⟩ := h
    rfl
  · obtain ⟨v, d, m, g, rfl, dt, od, k⟩ := h
    refine ⟨_, pss_cons (ps_set (i := 1) sc_law_need_error.nd rfl (Or.inl rfl) pe_non)
      (pss_cons (ps_try_as (i := 2) (c := .ref CD) (Wout := fun _ _ _ _ => False) rfl rfl sc_law_need_error.nd rfl rfl ⟨rfl, by decide, .inl O.gC⟩ LamX.takes0
        (tb := fun W => tDrop (tCallW (spDeal CD) W (tCons (tVar 0) tNil)))
        (fun W pn xe tk _ => pss_one (ps_expr (pe_callNW k_need_deal free hr rfl tk (pa_cons (pv 0) pa_nil))))
        (fun a oe cls d pn hz hf => pss_one (ps_set (i := 1) sc_law_need_error.nd rfl (Or.inl rfl) (pe_byOwn (fl := "word") O hz hf (pv 2)))))
      (pss_one (ps_ret (pv 1)))), ?_⟩
    refine ⟨_, rfl, fun cls d2 H' => ∃ wd dd pp, dealFault d = some wd ∧ cls = .ref CD ∧ d2 = some dd ∧ Same H H' ∧ H' dd = some (errD "word" (.str wd) pp), ?_, v, d, m, g, rfl, dt, od, fun hf H' s' => ?_, fun wd hf H' dd pp s' hd => ⟨wd, dd, pp, hf, rfl, rfl, s', hd⟩⟩
    · rintro cls d2 H' ⟨wd, dd, pp, hf, rfl, rfl, s', hd⟩
      refine ⟨true, O.te, fun _ a na => ?_, fun z => by cases z⟩
      refine ⟨_, rfl, rfl, rfl, dd, pp, _, rfl, hd, ?_⟩
      have z := k H' s'
      rw [hf] at z
      exact ⟨_, rfl, z⟩
    · have z := k H' s'
      rw [hf] at z
      exact ⟨_, rfl, z⟩
end
end Hk
set_option Elab.async false
set_option linter.all false
set_option maxRecDepth 100000
set_option maxHeartbeats 4000000
set_option pp.maxSteps 1500
/-! several clauses 'except x as n' -/
namespace L2
open PySem PySem.Spec PyProof.Rows
/-- one clause: its class, its name's slot, what its suite does -/
structure Clause where
  cls : Value
  slot : Nat
  does : Addr → Value → Option Addr → TS
/-- the name is gone behind the suite -/
abbrev endsGone (D : Ends) (i : Nat) : Ends := { nx := fun τ G => D.nx (τ.set i none) G, rt := D.rt, bk := fun τ G => D.bk (τ.set i none) G, ct := fun τ G => D.ct (τ.set i none) G }
/-- the wish, clause by clause -/
def wClauses (K : PySem.W.Frag) (Wout : WX) (D : Ends) : List Clause → WX
  | [] => Wout
  | q :: r => fun cls d τ G => ∃ b, PySem.W.exmOne K cls q.cls = some b ∧ (b = true → ∀ a, G a = none → q.does a cls d (endsGone D q.slot) (τ.set q.slot (some (.ref a))) G) ∧ (b = false → wClauses K Wout D r cls d τ G)
inductive Clauses (X : Cx) : List ExceptHandler → List Clause → Prop
  | nil : Clauses X [] []
  | cons {x n : Str} {q : Clause} {st0 : Stmt} {suite : List Stmt} {p1 p2 : Pos} {rest : List ExceptHandler} {l : List Clause} (here : X.N[q.slot]? = some n) (kind : X.env.kindOf n = some .local) (named : Names X x q.cls)
      (runs : ∀ (a : Addr) (oe : Obj) (cls : Value) (d : Option Addr) (pn : List (Addr × Obj)), Zc cls d oe → (∃ vs, oe.data = .fields vs) → PSs (X.suite a ((a, oe) :: pn)) (st0 :: suite) (q.does a cls d)) (r : Clauses X rest l) :
      Clauses X (.ExceptHandler (some (.Name x p1)) (some n) (st0 :: suite) p2 :: rest) (q :: l)
section
variable {X : Cx} {body : List Stmt} {first : ExceptHandler} {rest : List ExceptHandler} {l : List Clause} {pos : Pos} {tb : WX → TS} {Wout : WX}
theorem ps_try_clauses (top : X.stack = X.env :: X.outer) (fr : X.env.frame = some X.env.locals) (nd : X.N.Nodup) (tk : Takes X Wout)
    (inner : ∀ (W : WX) (pn : List (Addr × Obj)) (xe : Value → Shared → Prop), Takes (X.tr pn xe) W → PassesOwn (model X.prog X.w) X.A X.env xe → PSs (X.tr pn xe) body (tb W)) (cl : Clauses X (first :: rest) l) :
    PS X (.Try body (first :: rest) [] [] pos) (fun D τ G => tb (wClauses X.K Wout D l) D τ G) := by
  constructor
  intro pins s τ G D I wish
  have good := I.ok
  have frames : X.A.frames = some (X.env :: X.outer) := by rw [good.frames, top]
  apply wpAny_Try_except
  refine wpAny_mono ((inner (wClauses X.K Wout D l) (X.pn ++ pins) (fun e t₁ => wpAny (model X.prog X.w) X.A (noteFrame e X.env) (fun _ t₂ => wpAny (model X.prog X.w) X.A (setFlight e none) (fun _ t₃ =>
    wpAny (model X.prog X.w) X.A (handleBy e X.env (first :: rest)) (SP X pins D) X.xe t₃) X.xe t₂) X.xe t₁) (fun u t caught => ?_) PassesOwn.looking).run [] s τ G D (I.toTry _) wish) (fun flow t done => ?_) (fun _ _ he => he)
  · obtain ⟨a, Bh, sI, pins1, τ1, G1, cls, d, rfl, J0, nb, up, sky, na, os, ag, wished⟩ := caught
    have J : Inv X pins τ1 G1 sI := J0.ofTry good
    have high : Sky Bh (X.env :: X.outer) a (Zc cls d) X.env.locals t.heap := by rw [← top]; exact sky
    show wpAny (model X.prog X.w) X.A (noteFrame (.ref a) X.env) _ _ _
    refine Sky.land Zc.steady frames fr high fun g3 fly3 up3 => ?_
    have J3 : Inv X pins τ1 G1 { t with heap := g3 } := J.landed nb fly3.1 (up.trans up3) os ag
    obtain ⟨ob3, us3, get3, is3, dat3⟩ := fly3.there
    have off : a ∉ frs (X.env :: X.outer) := fun hm => by
      obtain ⟨_, ob, eo, plain⟩ := fly3.2.2.1.mem hm
      rw [get3] at eo
      cases eo
      exact plain _ dat3
    have offL : a ≠ X.env.locals := fun z => off (List.mem_filterMap.mpr ⟨X.env, List.mem_cons_self, by rw [fr, z]⟩)
    have offF : a ∉ X.fs := fun hm => by
      obtain ⟨v, hv, q⟩ := List.mem_filterMap.mp hm
      exact off (List.mem_filterMap.mpr ⟨v, List.mem_cons_of_mem _ hv, q⟩)
    have S3 := J3.suite get3 dat3 na offL offF
    have each : ∀ {hs : List ExceptHandler} {ql : List Clause}, Clauses X hs ql → wClauses X.K Wout D ql cls d τ1 G1 → wpAny (model X.prog X.w) X.A (handleBy (.ref a) X.env hs) (SP X pins D) X.xe { t with heap := g3 } := by
      intro hs ql known
      induction known with
      | nil =>
        intro out
        apply wpAny_handleBy_nil
        obtain ⟨f1, f2, f3, ob, us, T, oT, us', eo, ez, ed, e1, er⟩ := id fly3
        unfold PySem.passOn
        refine wpAny_bind (wpAny_field eo ed e1 ?_)
        rw [if_neg (by simp : ¬ ((Value.ref T == Value.none) = true))]
        have away : wpAny (model X.prog X.w) X.A (setFlight (.ref a) X.env.frame) (fun _ t4 => wpAny (model X.prog X.w) X.A (throw (.ref a) : Sem Flow) (SP X pins D) X.xe t4) X.xe { t with heap := g3 } := by
          rw [fr]
          refine HandSPX.setFlight_upZ fly3 fun g4 held4 up4 => wpAny_throw (tk _ _ ?_)
          exact ⟨a, Bh, sI, pins, τ1, G1, cls, d, rfl, J, nb, (up.trans up3).trans up4, .inr (.inr (by rw [top]; exact held4)), na, os, ag, out⟩
        first
          | exact wpAny_bind (wpAny_pure (wpAny_bind away))
          | exact wpAny_bind away
      | @cons x n q st0 suite p1 p2 rest2 l2 here kind named runs r ih =>
        rintro ⟨b, test, yes, no⟩
        have isLoc : Loc X.env.scope n := .inl kind
        refine wpAny_handleBy_cons (codeAny_handlers_test ?_) (by intro z; cases z)
        have looks : PySem.W.Looks (model X.prog X.w) g3 (typeOf (.ref a)) cls := fun A Q E s2 keep goal => wpAny_typeOf_ref (keep _ _ get3) (by rw [is3.1]; exact goal)
        have met := PySem.W.exm_one (M := model X.prog X.w) J3.kIn looks test
        have asked : ∀ {Q E : Value → Shared → Prop}, Q q.cls { t with heap := g3 } → wpAny (model X.prog X.w) (X.A.mark (some (.ref a))) (eval (.Name x p1) X.env) Q E { t with heap := g3 } := fun {Q E} goal => by
          obtain ⟨isg, ndb, own | ⟨none_, boot, nn⟩⟩ := named
          · exact ld_glob (X := X.suite a ((a, ob3) :: (X.pn ++ pins))) S3 isg own goal ndb
          · exact ld_blt (X := X.suite a ((a, ob3) :: (X.pn ++ pins))) S3 isg none_ boot goal nn ndb
        refine asked (met.here ?_)
        cases b with
        | false =>
          show wpAny _ X.A (handleBy (.ref a) X.env rest2) _ _ _
          exact ih (no rfl)
        | true =>
          apply codeAny_handlers_suite_as
          refine HandSPX.lands_againZ fly3 fun g4 fly4 up4 => ?_
          have J4 : Inv X pins τ1 G1 { t with heap := g4 } := J.landed nb fly4.1 ((up.trans up3).trans up4) os ag
          obtain ⟨ob4, us4, get4, is4, dat4⟩ := fly4.there
          have S4 := J4.suite get4 dat4 na offL offF
          refine store_ok (X := X.suite a ((a, ob4) :: (X.pn ++ pins))) (v := .ref a) S4 nd here isLoc rfl (fun s5 S5 => ?_) (.inr kind)
          refine wpAny_mono ((runs a ob4 cls d (X.pn ++ pins) is4 ⟨_, dat4⟩).run [] s5 _ G1 _ S5 (yes rfl a na)) (fun flow s6 done => ?_) (fun _ _ z => False.elim z)
          have gone : ∀ {τ6 : St} {G6 : Hp} {Q : Shared → Prop}, Inv (X.suite a ((a, ob4) :: (X.pn ++ pins))) [] τ6 G6 s6 → (∀ s7, Inv X pins (τ6.set q.slot none) G6 s7 → Q s7) →
              wpAny (model X.prog X.w) X.A (do bindName X.env n .none; unbindBehindTheSuite X.env n p2) (fun _ s7 => Q s7) X.xe s6 := fun {τ6 G6 Q} S6 goal => gone_ok (S6.unsuite good) nd here kind goal
          match flow, done with
          | .next, ⟨τ6, G6, S6, goal⟩ => exact gone S6 fun s7 J7 => ⟨_, _, J7, goal⟩
          | .brk, ⟨τ6, G6, S6, goal⟩ => exact gone S6 fun s7 J7 => ⟨_, _, J7, goal⟩
          | .cont, ⟨τ6, G6, S6, goal⟩ => exact gone S6 fun s7 J7 => ⟨_, _, J7, goal⟩
          | .ret u, ⟨v6, τ6, G6, S6, rel, goal⟩ => exact gone S6 fun s7 J7 => ⟨_, _, _, J7, rel, goal⟩
    exact each cl wished
  · match flow, done with
    | .next, ⟨τ1, G1, J, goal⟩ => exact wpAny_execs_nil ⟨τ1, G1, J.ofTry good, goal⟩
    | .brk, ⟨τ1, G1, J, goal⟩ => exact ⟨τ1, G1, J.ofTry good, goal⟩
    | .cont, ⟨τ1, G1, J, goal⟩ => exact ⟨τ1, G1, J.ofTry good, goal⟩
    | .ret u, ⟨v, τ1, G1, J, rel, goal⟩ => exact ⟨v, τ1, G1, J.ofTry good, rel, goal⟩
end
end L2
set_option Elab.async false
set_option linter.all false
set_option maxRecDepth 100000
set_option maxHeartbeats 4000000
set_option pp.maxSteps 1500
namespace Hk
open PySem PySem.Spec PyProof.Rows L2
section
variable {P : Program} {w : World} {K : PySem.W.Frag} {mg : Str → Option Value} {base : Heap} {CD CF B fI fJ fB : Addr}
abbrev s_law_error : Stmt := top 50
theorem sc_law_error : FnScope ["deal", "family", "found", "e"] ["deal", "family"] (defScope s_law_error) := ⟨rfl, rfl, rfl, by decide +kernel, rfl, by decide +kernel, by decide +kernel⟩
def spLErr : Sp := fun vs H Q _ => ∃ (v u : V) (d e : PyData) (m g : Addr), vs = [v, u] ∧ Dt H m g v d ∧ Okd d ∧ Dt H m g u e ∧
  (∀ wd, dealFault d = some wd → ∀ (p : Addr) H', Same H H' → H' p = some (.tup [.str "deal", .str wd]) → Q (.ref p) H') ∧
  (dealFault d = none → ∀ x, famErr (marksOf d) e = some x → ∀ (p : Addr) H', Same H H' → H' p = some (.tup [.str "family", x]) → Q (.ref p) H') ∧
  (dealFault d = none → famErr (marksOf d) e = none → ∀ H', Same H H' → Q .non H')
theorem ok_law_error (T : Txt K mg) (OD : PySem.OwnX.OwnTxt P K mg "BadDeal" "word" CD B fI fB) (OF : PySem.OwnX.OwnTxt P K mg "BadFamily" "place" CF B fJ fB) (hx : PySem.W.exmOne K (.ref CF) (.ref CD) = some false) (k_dealt_lines : Kn P w K mg base 9 "dealt_lines" ["deal", "family"] (spDLines CD CF)) (at_ : At K mg "_law_error" s_law_error ["deal", "family"]) : Kn P w K mg base 10 "_law_error" ["deal", "family"] spLErr := by
  refine Kn.mkN (st := s_law_error) (N := ["deal", "family", "found", "e"]) at_ sc_law_error (fun vs H Q E h => ?_) (fun f cdv A outer s H vs Q E hr free h => ?_)
  · obtain ⟨v, u, d, e, m, g, rfl, _⟩ := h
    rfl
  · obtain ⟨v, u, d, e, m, g, rfl, dt, od, et, k1, k2, k3⟩ := h
    refine ⟨_, pss_cons (ps_set (i := 2) sc_law_error.nd rfl (Or.inl rfl) pe_non)
      (pss_cons (ps_try_clauses (l := [⟨.ref CD, 3, fun a cls d => _⟩, ⟨.ref CF, 3, fun a cls d => _⟩]) (Wout := fun _ _ _ _ => False) rfl rfl sc_law_error.nd LamX.takes0
        (tb := fun W => tDrop (tCallW (spDLines CD CF) W (tCons (tVar 0) (tCons (tVar 1) tNil))))
        (fun W pn xe tk _ => pss_one (ps_expr (pe_callNW k_dealt_lines free hr rfl tk (pa_cons (pv 0) (pa_cons (pv 1) pa_nil)))))
        (.cons rfl rfl ⟨rfl, by decide, .inl OD.gC⟩ (fun a oe cls d pn hz hf => pss_one (ps_set (i := 2) sc_law_error.nd rfl (Or.inl rfl) (pe_tup (pa_cons pe_str (pa_cons (pe_byOwn (fl := "word") OD hz hf (pv 3)) pa_nil)))))
          (.cons rfl rfl ⟨rfl, by decide, .inl OF.gC⟩ (fun a oe cls d pn hz hf => pss_one (ps_set (i := 2) sc_law_error.nd rfl (Or.inl rfl) (pe_tup (pa_cons pe_str (pa_cons (pe_byOwn (fl := "place") OF hz hf (pv 3)) pa_nil))))) .nil)))
      (pss_one (ps_ret (pv 2)))), ?_⟩
    refine ⟨_, rfl, _, rfl, fun cls d2 H' => (∃ wd dd pp, dealFault d = some wd ∧ cls = .ref CD ∧ d2 = some dd ∧ Same H H' ∧ H' dd = some (errD "word" (.str wd) pp)) ∨ ∃ x dd pp, dealFault d = none ∧ famErr (marksOf d) e = some x ∧ cls = .ref CF ∧ d2 = some dd ∧ Same H H' ∧ H' dd = some (errD "place" x pp), ?_,
      v, u, d, e, m, g, rfl, dt, od, et, fun hf he p ys H' s' _ _ => ⟨_, rfl, k3 hf he H' s'⟩, fun wd hf H' dd pp s' hd => .inl ⟨wd, dd, pp, hf, rfl, rfl, s', hd⟩, fun hf x he H' dd pp s' hd => .inr ⟨x, dd, pp, hf, he, rfl, rfl, s', hd⟩⟩
    rintro cls d2 H' (⟨wd, dd, pp, hf, rfl, rfl, s', hd⟩ | ⟨x, dd, pp, hf, he, rfl, rfl, s', hd⟩)
    · refine ⟨true, OD.te, fun _ a na => ?_, fun z => by cases z⟩
      refine ⟨_, rfl, rfl, rfl, dd, pp, _, rfl, hd, by show 2 ≤ sizeLine; decide, fun p np => ?_⟩
      exact ⟨_, rfl, k1 wd hf p _ (s'.trans (same_upd np)) upd_same⟩
    · refine ⟨false, hx, fun z => (by cases z), fun _ => ⟨true, OF.te, fun _ a na => ?_, fun z => by cases z⟩⟩
      refine ⟨_, rfl, rfl, rfl, dd, pp, _, rfl, hd, by show 2 ≤ sizeLine; decide, fun p np => ?_⟩
      exact ⟨_, rfl, k2 hf x he p _ (s'.trans (same_upd np)) upd_same⟩
end
end Hk
set_option Elab.async false
set_option linter.all false
set_option maxRecDepth 100000
set_option maxHeartbeats 4000000
set_option pp.maxSteps 1200
namespace Hk
open PySem PySem.Spec PyProof.Rows L2
abbrev nats (l : List Nat) : List V := l.map fun x => V.int (x : Nat)
/-- so many lists of numbers, kept at k -/
structure Kids (H : Hp) (k : Addr) (ks : List Addr) (kd : Nat → List Nat) : Prop where
  at_ : H k = some (.lst (ks.map V.ref))
  nd : ks.Nodup
  nk : ∀ a ∈ ks, a ≠ k
  each : ∀ j a, ks[j]? = some a → H a = some (.lst (nats (kd j)))
/-- depths as a tree has them -/
structure Depths (rs : List Nat) : Prop where
  first : rs[0]? = some 0
  next : ∀ j a b, rs[j]? = some a → rs[j + 1]? = some b → b ≤ a + 1
theorem Kids.same {H H' : Hp} {k : Addr} {ks : List Addr} {kd : Nat → List Nat} (q : Kids H k ks kd) (s : Same H H') : Kids H' k ks kd := ⟨s _ _ q.at_, q.nd, q.nk, fun j a e => s _ _ (q.each j a e)⟩
theorem nodup_inj : ∀ {l : List Addr}, l.Nodup → ∀ {i j : Nat} {a : Addr}, l[i]? = some a → l[j]? = some a → i = j
  | [], _, _, _, _, e, _ => by simp at e
  | x :: l, h, 0, 0, _, _, _ => rfl
  | x :: l, h, 0, j + 1, a, e1, e2 => by
    have h1 := (List.nodup_cons.mp h).1
    simp at e1 e2
    subst e1
    exact absurd (List.mem_of_getElem? e2) h1
  | x :: l, h, i + 1, 0, a, e1, e2 => by
    have h1 := (List.nodup_cons.mp h).1
    simp at e1 e2
    subst e2
    exact absurd (List.mem_of_getElem? e1) h1
  | x :: l, h, i + 1, j + 1, a, e1, e2 => by
    simp at e1 e2
    rw [nodup_inj (List.nodup_cons.mp h).2 e1 e2]
theorem Kids.put {H : Hp} {k a : Addr} {ks : List Addr} {kd : Nat → List Nat} {j n : Nat} (q : Kids H k ks kd) (e : ks[j]? = some a) : Kids (upd H a (.lst (nats (kd j ++ [n])))) k ks (fun i => if i = j then kd i ++ [n] else kd i) := by
  refine ⟨?_, q.nd, q.nk, fun i b eb => ?_⟩
  · rw [upd_ne (Ne.symm (q.nk a (List.mem_of_getElem? e)))]
    exact q.at_
  · by_cases c : i = j
    · subst c
      rw [e] at eb
      cases eb
      rw [upd_same, if_pos rfl]
    · have ne : b ≠ a := fun z => by
        subst z
        exact c (nodup_inj q.nd eb e)
      rw [upd_ne ne, if_neg c]
      exact q.each i b eb
theorem Kids.has {H : Hp} {k : Addr} {ks : List Addr} {kd : Nat → List Nat} (q : Kids H k ks kd) {a : Addr} (h : a ∈ ks) : ∃ j, ks[j]? = some a ∧ H a = some (.lst (nats (kd j))) := by
  obtain ⟨j, hj, e⟩ := List.getElem_of_mem h
  have e2 : ks[j]? = some a := by rw [List.getElem?_eq_getElem hj, e]
  exact ⟨j, e2, q.each j a e2⟩
theorem Kids.new {H : Hp} {k b : Addr} {ks : List Addr} {kd : Nat → List Nat} (q : Kids H k ks kd) (h : H b = none) : b ∉ ks := fun z => by
  obtain ⟨j, _, e⟩ := q.has z
  rw [h] at e
  cases e
theorem cut_nats {tr : List Nat} {r : Nat} (h : r ≤ tr.length) : cutV (nats tr) none (some (r : Int)) = nats (tr.take r) := by
  show (List.drop (HT.sIx _ 0 none) _).take (HT.sIx _ _ (some (r : Int)) - HT.sIx _ 0 none) = _
  rw [HT.sIx_none, HT.sIx_nat, List.length_map, Nat.min_eq_left h, List.drop_zero, Nat.sub_zero, ← List.map_take]
section
variable {P : Program} {w : World} {K : PySem.W.Frag} {mg : Str → Option Value} {base : Heap} {CD CF B fI fJ fB : Addr}
abbrev s_law_planted : Stmt := top 43
theorem sc_law_planted : FnScope ["row", "looks", "count", "trail", "kids", "n", "lines", "kid"] ["row", "looks"] (defScope s_law_planted) := ⟨rfl, rfl, rfl, by decide +kernel, rfl, by decide +kernel, by decide +kernel⟩
theorem ints_dt {H : Hp} {m g : Addr} : ∀ cs : List Int, DtA H m g (cs.map V.int) (cs.map PyData.int)
  | [] => .nil
  | c :: cs => .cons (.int c) (ints_dt cs)
/-- a line list that is a family, no line with more than ten children -/
def Fit (marks : Nat) (ds : List PyData) : Prop := wrongAt (marks : Nat) 0 ds = none ∧ ∀ d ∈ ds, (kidsOf d).length ≤ 10
def spPlanted : Sp := fun vs H Q _ => ∃ (ra la : Addr) (rs : List Nat) (lv : List V) (ld : List PyData) (m c g : Addr) (q : Int) (marks : Nat), vs = [.ref ra, .ref la] ∧ Dr H m c g q ∧ H ra = some (.lst (nats rs)) ∧ H la = some (.lst lv) ∧ DtA H m g lv ld ∧ ld.length = rs.length ∧ rs.length ≤ 10 ∧ Depths rs ∧ 1 ≤ rs.length ∧
  (∀ d ∈ ld, ∃ (mk : Nat) (al : Bool), d = .tuple [.int (mk : Nat), .bool al] ∧ mk < marks) ∧ ∀ (u : V) (ds : List PyData) H', Same H H' → Dt H' m g u (.tuple ds) → ds.length = rs.length → Fit marks ds → Q u H'
theorem ok_law_planted (T : Txt K mg) (at_ : At K mg "_law_planted" s_law_planted ["row", "looks"]) : Kn P w K mg base 1 "_law_planted" ["row", "looks"] spPlanted := by
  refine Kn.mkN (st := s_law_planted) (N := ["row", "looks", "count", "trail", "kids", "n", "lines", "kid"]) at_ sc_law_planted (fun vs H Q E h => ?_) (fun f cdv A outer s H vs Q E hr free h => ?_)
  · obtain ⟨ra, la, rs, lv, ld, m, c, g, q, marks, rfl, _⟩ := h
    rfl
  · obtain ⟨ra, la, rs, lv, ld, m, c, g, q, marks, rfl, dr, hra, hla, dl, ell, l10, dep, l1, looks, k⟩ := h
    refine ⟨_, (pss_cons (ps_asg (pe_tup (pa_cons (pe_callB (id := "len") call_len_seq (by rfl) T.b_len (by decide +kernel) (pa_cons (pv 0) pa_nil)) (pa_cons (pe_lst pa_nil) pa_nil))) (pg_tup rfl (pgs_cons (pg_name (i := 2) sc_law_planted.nd rfl (Or.inr rfl)) (pgs_cons (pg_name (i := 3) sc_law_planted.nd rfl (Or.inl rfl)) pgs_nil)))) (pss_cons (ps_setLc (i := 4) (own := [("n", 5)]) (by rfl) sc_law_planted.nd rfl rfl (sw_true rfl rfl rfl (by decide +kernel)) (tt := tYes) (pi_range1 rfl T.b_range (pa_cons (pv 2) pa_nil)) (blkOk_by (own := [("n", 5)]) (N := ["row", "looks", "count", "trail", "kids", "n", "lines", "kid"]) (sc := defScope s_law_planted) (by decide +kernel)) (fun _ _ _ _ _ => pg_name (i := 5) sc_law_planted.nd rfl (Or.inl rfl)) (fun _ _ _ _ _ => pts_nil) (fun _ _ _ _ _ => (pe_lst pa_nil))) (pss_cons (ps_for PassesOwn.never rfl (pi_range1 rfl T.b_range (pa_cons (pv 2) pa_nil)) (pg_name (i := 5) sc_law_planted.nd rfl (Or.inl rfl)) (pss_cons (ps_set (i := 3) sc_law_planted.nd rfl (Or.inl rfl) (pe_op op_cat (pe_slice sl_list (pv 3) po_none (po_some (pe_ix ix_list (pv 0) (pv 5) (fun _ _ => rfl)))) (pe_lst (pa_cons (pv 5) pa_nil)))) (pss_one (ps_if (pt_cmpR op_gt (pe_ix ix_list (pv 0) (pv 5) (fun _ _ => rfl)) pe_int (nomark _)) (pss_one (ps_expr (pe_bm PySem.F.plainAttrs_list PySem.F.slot_list_append PySem.F.type_list_append mt_append (pe_ix ix_list (pv 4) (pe_ix ix_list (pv 3) (pe_op op_sub (pe_ix ix_list (pv 0) (pv 5) (fun _ _ => rfl)) pe_int) (fun _ _ => rfl)) (fun _ _ => rfl)) (pa_cons (pv 5) pa_nil)))) pss_nil)))) (pss_cons (ps_set (i := 6) sc_law_planted.nd rfl (Or.inl rfl) (pe_lst pa_nil)) (pss_cons (ps_for PassesOwn.never rfl (pi_range3 rfl T.b_range (pa_cons (pe_op op_sub (pv 2) pe_int) (pa_cons (pe_un un_neg pe_int) (pa_cons (pe_un un_neg pe_int) pa_nil)))) (pg_name (i := 5) sc_law_planted.nd rfl (Or.inl rfl)) (pss_one (ps_expr (pe_bm PySem.F.plainAttrs_list PySem.F.slot_list_append PySem.F.type_list_append mt_append (pv 6) (pa_cons (pe_tup (pa_cons (pe_ix ix_tup (pe_ix ix_list (pv 1) (pv 5) (fun _ _ => rfl)) pe_int (fun _ _ => rfl)) (pa_cons (pe_ix ix_tup (pe_ix ix_list (pv 1) (pv 5) (fun _ _ => rfl)) pe_int (fun _ _ => rfl)) (pa_cons (pe_callTy call_tuple_of (by rfl) T.b_tuple (by decide +kernel) (pa_cons (pe_lc (own := [("kid", 7)]) (by rfl) sc_law_planted.nd (tt := tYes) (pi_list (pe_ix ix_list (pv 4) (pv 5) (fun _ _ => rfl))) (blkOk_by (own := [("kid", 7)]) (N := ["row", "looks", "count", "trail", "kids", "n", "lines", "kid"]) (sc := defScope s_law_planted) (by decide +kernel)) (fun _ _ _ _ _ => pg_name (i := 7) sc_law_planted.nd rfl (Or.inl rfl)) (fun _ _ _ _ _ => pts_nil) (fun _ _ _ _ _ => (pe_op op_sub (pe_op op_sub (pv 2) pe_int) (pv 7)))) pa_nil)) pa_nil)))) pa_nil))))) (pss_one (ps_ret (pe_callTy call_tuple_of (by rfl) T.b_tuple (by decide +kernel) (pa_cons (pv 6) pa_nil))))))))), ?_⟩
    -- count, trail = len(row), []
    refine ⟨_, rfl, ra, _, rfl, .inl (SqL.of hra), Nat.zero_le _, fun t nt => ?_⟩
    have s1 := same_upd (o := .lst []) nt
    have ht : upd H t (.lst []) t = some (.lst (nats [])) := upd_same
    generalize upd H t (.lst []) = H1 at s1 ht ⊢
    refine ⟨by show 2 ≤ sizeLine; decide, fun p0 np0 => ?_⟩
    have hp0 : upd H1 p0 (.tup [.int ((nats rs).length : Nat), .ref t]) p0 = some (.tup [.int ((nats rs).length : Nat), .ref t]) := upd_same
    have s2 := s1.trans (same_upd (o := .tup [.int ((nats rs).length : Nat), .ref t]) np0)
    have ht := same_upd (o := .tup [.int ((nats rs).length : Nat), .ref t]) np0 _ _ ht
    generalize upd H1 p0 (.tup [.int ((nats rs).length : Nat), .ref t]) = H2 at s2 hp0 ht ⊢
    refine ⟨p0, _, rfl, SqT.of hp0, rfl, _, _, rfl, _, _, rfl, rfl, ?_⟩
    rw [show (nats rs).length = rs.length from List.length_map ..]
    -- kids = [[] for n in range(count)]
    refine ⟨_, rfl, rs.length, rfl, by omega, by omega, fun D nD => ?_⟩
    refine lc_it walk_range (fun i G => Same H2 G ∧ ∃ ks, ks.length = i ∧ ks.Nodup ∧ G D = some (.lst (ks.map V.ref)) ∧ (∀ a ∈ ks, a ≠ D ∧ H2 a = none) ∧ ∀ a ∈ ks, G a = some (.lst [])) ⟨same_upd nD, [], rfl, List.nodup_nil, upd_same, (fun a z => by cases z), (fun a z => by cases z)⟩ (fun _ _ _ _ => trivial) ?_ ?_
    · rintro i x G G' hi ⟨sg, ks, el, nd, hD, nk, each⟩ ⟨rfl, hx⟩
      refine ⟨rfl, yes_if ⟨Nat.zero_le _, fun b nb => ?_⟩⟩
      have bD : b ≠ D := fun z => by rw [z, hD] at nb; cases nb
      have nb2 : H2 b = none := sg.free nb
      have fresh : b ∉ ks := fun z => by rw [each b z] at nb; cases nb
      refine ⟨ks.map V.ref, by rw [upd_ne (Ne.symm bD)]; exact hD, by rw [List.length_map, el]; exact small_of (k := 10) (by omega) (by decide), same_set (sg.trans (same_upd nb)) nD, ks ++ [b], by rw [List.length_append, el]; rfl, ?_, by rw [upd_same, List.map_append]; rfl, fun a ha => ?_, fun a ha => ?_⟩
      · exact List.nodup_append.mpr ⟨nd, by simp, fun a ha z hz e => fresh (by rw [← List.mem_singleton.mp hz, ← e]; exact ha)⟩
      · rcases List.mem_append.mp ha with z | z
        · exact nk a z
        · rw [List.mem_singleton.mp z]
          exact ⟨bD, nb2⟩
      · rcases List.mem_append.mp ha with z | z
        · rw [upd_ne (nk a z).1, upd_ne (show a ≠ b from fun e => fresh (by rw [← e]; exact z))]
          exact each a z
        · rw [List.mem_singleton.mp z, upd_ne bD]
          exact upd_same
    · rintro H3 ⟨s3, ks, el, nd, hD, nk, each⟩
      have el : ks.length = rs.length := el.trans (Int.toNat_natCast _)
      have sH := s2.trans s3
      have fr : ∀ a ∈ ks, H a = none := fun a ha => s2.free (nk a ha).2
      have ht3 := s3 _ _ ht
      have q0 : Kids H3 D ks fun _ => [] := ⟨hD, nd, fun a ha => (nk a ha).1, fun j a e => each a (List.mem_of_getElem? e)⟩
      have fD : H D = none := s2.free nD
      have t0 : t ∉ ks := fun z => by have := (nk t z).2; rw [ht] at this; cases this
      show tSeq _ _ _ _ _
      refine ⟨_, rfl, rs.length, rfl, by omega, by omega, ?_⟩
      refine for_it walk_range (fun n σ G => Same H G ∧ ∃ (tp : Addr) (tr : List Nat) (kd : Nat → List Nat) (v5 : Option V), σ = [some (.ref ra), some (.ref la), some (.int (rs.length : Nat)), some (.ref tp), some (.ref D), v5, none, none] ∧ G tp = some (.lst (nats tr)) ∧ tp ∉ ks ∧ Kids G D ks kd ∧ tr.length ≤ n ∧ (∀ x ∈ tr, x < n) ∧ (∀ r, rs[n]? = some r → r ≤ tr.length) ∧ (∀ j x, x ∈ kd j → j < x ∧ x < n) ∧ ∀ j, (kd j).length ≤ n) ⟨sH, t, [], _, none, rfl, ht3, t0, q0, Nat.le_refl _, (fun x z => by cases z), (fun r e => by rw [dep.first] at e; cases e; exact Nat.le_refl _), (fun j x z => by cases z), fun j => Nat.le_refl _⟩ (fun _ _ _ _ _ => trivial) ?_ ?_
      · rintro n x σ G0 G hn ⟨sg, tp, tr, kd, v5, rfl, htp, tk, kq, tl, tb, tn, kb, kl⟩ ⟨rfl, hx⟩
        obtain rfl : x = .int (n : Nat) := hx.trans (by simp)
        rw [Int.toNat_natCast] at hn
        obtain ⟨r, hr0⟩ : ∃ r, rs[n]? = some r := ⟨_, List.getElem?_eq_getElem hn⟩
        have rt := tn r hr0
        have rowI : atI (nats rs) ((n : Nat) : Int) = some (.int (r : Nat)) := atI_nat (by rw [List.getElem?_map, hr0]; rfl)
        refine ⟨_, rfl, _, rfl, _, rfl, ra, _, _, _, rfl, rfl, SqL.of (sg _ _ hra), rowI, _, rfl, tp, _, rfl, SqL.of htp, fun p np => ?_⟩
        rw [cut_nats rt]
        have s4 : Same G (upd G p (.lst (nats (tr.take r)))) := same_upd np
        have hp : upd G p (.lst (nats (tr.take r))) p = some (.lst (nats (tr.take r))) := upd_same
        generalize upd G p (.lst (nats (tr.take r))) = G1 at s4 hp ⊢
        refine ⟨_, rfl, by show 1 ≤ sizeLine; decide, fun p2 np2 => ?_⟩
        have s5 : Same G (upd G1 p2 (.lst [.int (n : Nat)])) := same_new s4 np2
        have hp' : upd G1 p2 (.lst [.int (n : Nat)]) p = some (.lst (nats (tr.take r))) := same_upd np2 _ _ hp
        have hp2 : upd G1 p2 (.lst [.int (n : Nat)]) p2 = some (.lst [.int (n : Nat)]) := upd_same
        generalize upd G1 p2 (.lst [.int (n : Nat)]) = G2 at s5 hp' hp2 ⊢
        refine cat_lstN hp' hp2 (by rw [List.length_map, List.length_take]; show _ + 1 ≤ _; exact Nat.le_trans (m := 1000) (by omega) (by decide)) fun p3 G3 np3 s6 hp3 => ?_
        have s7 := s5.trans s6
        have hp3 : G3 p3 = some (.lst (nats (tr.take r ++ [n]))) := by rw [hp3]; show _ = some (HO.lst (List.map _ _)); rw [List.map_append]; rfl
        have k3 : p3 ∉ ks := fun z => by
          obtain ⟨j, _, e⟩ := kq.has z
          have := s5 _ _ e
          rw [np3] at this
          cases this
        have kq3 := kq.same s7
        have sH3 := sg.trans s7
        have ltr : (tr.take r ++ [n]).length = r + 1 := by rw [List.length_append, List.length_take, Nat.min_eq_left rt]; rfl
        have tb' : ∀ x ∈ tr.take r ++ [n], x < n + 1 := fun x hx => by
          rcases List.mem_append.mp hx with z | z
          · exact Nat.lt_succ_of_lt (tb x (List.mem_of_mem_take z))
          · rw [List.mem_singleton.mp z]; exact Nat.lt_succ_self n
        have tn' : ∀ r2, rs[n + 1]? = some r2 → r2 ≤ (tr.take r ++ [n]).length := fun r2 e => by rw [ltr]; exact dep.next n r r2 hr0 e
        have kb' : ∀ j x, x ∈ kd j → j < x ∧ x < n + 1 := fun j x hx => ⟨(kb j x hx).1, Nat.lt_succ_of_lt (kb j x hx).2⟩
        by_cases r0 : 0 < r
        · refine ⟨_, rfl, _, rfl, ra, _, _, _, rfl, rfl, SqL.of (sH3 _ _ hra), rowI, _, _, rfl, rfl, true, congrArg V.bl (decide_eq_true (by omega)), iteT ?_⟩
          obtain ⟨y, hy⟩ : ∃ y, (tr.take r ++ [n])[r - 1]? = some y := ⟨_, List.getElem?_eq_getElem (by rw [ltr]; omega)⟩
          have hy2 : y < n := by
            rw [List.getElem?_append_left (by rw [List.length_take, Nat.min_eq_left rt]; omega)] at hy
            exact tb y (List.mem_of_mem_take (List.mem_of_getElem? hy))
          obtain ⟨ka, hka⟩ : ∃ ka, ks[y]? = some ka := ⟨_, List.getElem?_eq_getElem (by omega)⟩
          have i1 : atI (nats (tr.take r ++ [n])) ((r : Int) - 1) = some (.int (y : Nat)) := by rw [show (r : Int) - 1 = ((r - 1 : Nat) : Int) by omega]; exact atI_nat (by rw [List.getElem?_map, hy]; rfl)
          have i2 : atI (ks.map V.ref) ((y : Nat) : Int) = some (.ref ka) := atI_nat (by rw [List.getElem?_map, hka]; rfl)
          have mem := List.mem_of_getElem? hka
          refine ⟨_, rfl, _, rfl, _, rfl, _, rfl, ra, _, _, _, rfl, rfl, SqL.of (sH3 _ _ hra), rowI, _, _, rfl, rfl, p3, _, _, _, rfl, rfl, SqL.of hp3, i1, D, _, _, _, rfl, rfl, SqL.of kq3.at_, i2, .inl ⟨rfl, _, SqL.of (kq3.each y ka hka)⟩, ?_⟩
          refine ⟨_, rfl, ka, _, _, rfl, rfl, kq3.each y ka hka, by rw [List.length_map]; exact small_of (k := 10) (Nat.le_trans (kl y) (by omega)) (by decide), ?_⟩
          have kq4 := kq3.put (n := n) hka
          rw [show nats (kd y ++ [n]) = nats (kd y) ++ [V.int (n : Nat)] from List.map_append ..] at kq4
          refine ⟨same_set sH3 (fr ka mem), p3, _, _, _, rfl, ?_, k3, kq4, by rw [ltr]; omega, tb', tn', fun j x hx => ?_, fun j => ?_⟩
          · rw [upd_ne (show p3 ≠ ka from fun z => k3 (by rw [z]; exact mem))]
            exact hp3
          · by_cases c : j = y
            · subst c
              rw [if_pos rfl] at hx
              rcases List.mem_append.mp hx with z | z
              · exact kb' j x z
              · rw [List.mem_singleton.mp z]
                exact ⟨hy2, Nat.lt_succ_self n⟩
            · rw [if_neg c] at hx
              exact kb' j x hx
          · by_cases c : j = y
            · rw [if_pos c, List.length_append]
              exact Nat.succ_le_succ (kl j)
            · rw [if_neg c]
              exact Nat.le_succ_of_le (kl j)
        · refine ⟨_, rfl, _, rfl, ra, _, _, _, rfl, rfl, SqL.of (sH3 _ _ hra), rowI, _, _, rfl, rfl, false, congrArg V.bl (decide_eq_false (by omega)), iteF ?_⟩
          exact ⟨sH3, p3, _, _, _, rfl, hp3, k3, kq3, by rw [ltr]; omega, tb', tn', kb', fun j => Nat.le_succ_of_le (kl j)⟩
          done
      · rintro σ G ⟨sg, tp, tr, kd, v5, rfl, htp, tk, kq, tl, tb, tn, kb, kl⟩
        rw [Int.toNat_natCast] at kb kl
        clear tl tb tn htp tk
        refine ⟨Nat.zero_le _, fun L nL => ?_⟩
        have fL : H L = none := sg.free nL
        have s5 : Same G (upd G L (.lst [])) := same_upd nL
        have hL : upd G L (.lst []) L = some (.lst []) := upd_same
        have kL : ∀ a ∈ ks, a ≠ L := fun a ha z => by
          obtain ⟨j, _, e⟩ := kq.has ha
          rw [z, nL] at e
          cases e
        have kq1 := kq.same s5
        have sg1 := sg.trans s5
        generalize upd G L (.lst []) = G1 at sg1 hL kq1 ⊢
        clear s5
        have Lm : L ≠ m := dr.ne_m fL
        have Lg : L ≠ g := dr.ne_g fL
        have LD : L ≠ D := fun z => by rw [z, kq.at_] at nL; cases nL
        refine ⟨_, rfl, _, _, rfl, rfl, _, rfl, _, rfl, _, _, _, rs.length, rfl, ?_, ?_⟩
        · have := RgC.neg (i := (rs.length : Int) - 1) (j := -1) (by omega) (by omega) (by decide) (by decide)
          rw [show ((rs.length : Int) - 1 - -1).toNat = rs.length by omega] at this
          exact this
        refine for_it walk_rangeC (fun i σ G => Same H G ∧ (∃ v5, σ = [some (.ref ra), some (.ref la), some (.int (rs.length : Nat)), some (.ref tp), some (.ref D), v5, some (.ref L), none]) ∧ Kids G D ks kd ∧ ∃ ds, Grow G m g L i (fun j d => isLine (j : Nat) marks d = true ∧ (kidsOf d).length ≤ 10) ds) ⟨sg1, ⟨_, rfl⟩, kq1, [], ⟨⟨[], hL, .nil⟩, rfl, rfl, fun j d h => by simp at h⟩⟩ (fun _ _ _ _ _ => trivial) ?_ ?_
        · rintro i x σ G0 G2 hi ⟨sg2, ⟨v5, rfl⟩, kq2, ds, gr⟩ ⟨rfl, hx⟩
          obtain ⟨n, hn⟩ : ∃ n : Nat, rs.length = i + n + 1 := ⟨rs.length - i - 1, by omega⟩
          obtain rfl : x = .int (n : Nat) := hx.trans (congrArg V.int (by omega))
          obtain ⟨di, hdi⟩ : ∃ d, ld[n]? = some d := ⟨_, List.getElem?_eq_getElem (by omega)⟩
          obtain ⟨u, hu, du⟩ := dl.at hdi
          obtain ⟨mk, al, rfl, mkm⟩ := looks di (List.mem_of_getElem? hdi)
          have lookI : atI lv ((n : Nat) : Int) = some u := atI_nat hu
          refine ⟨_, rfl, .inl ⟨rfl, _, SqL.of gr.ex.choose_spec.1⟩, ?_⟩
          refine ⟨_, rfl, _, rfl, la, _, _, _, rfl, rfl, SqL.of (sg2 _ _ hla), lookI, tc_via (ixT_dt sg2 (i := 0) du (by simp) fun w3 e3 => ?_)⟩
          have e3 : Dt H m g w3 (.int (mk : Nat)) := e3
          cases e3
          refine ⟨_, rfl, _, rfl, la, _, _, _, rfl, rfl, SqL.of (sg2 _ _ hla), lookI, tc_via (ixT_dt sg2 (i := 1) du (by simp) fun w4 e4 => ?_)⟩
          have e4 : Dt H m g w4 (.bool al) := e4
          cases e4
          obtain ⟨ka, hka⟩ : ∃ ka, ks[n]? = some ka := ⟨_, List.getElem?_eq_getElem (by omega)⟩
          have i2 : atI (ks.map V.ref) ((n : Nat) : Int) = some (.ref ka) := atI_nat (by rw [List.getElem?_map, hka]; rfl)
          have hk := kq2.each n ka hka
          refine ⟨_, rfl, _, rfl, D, _, _, _, rfl, rfl, SqL.of kq2.at_, i2, ka, rfl, ⟨_, SqL.of hk⟩, fun D2 nD2 => ?_⟩
          refine lc_filt (walk_list (xs := nats (kd n))) (fun _ => true) (fun j => .int ((rs.length : Int) - 1 - ((kd n).getD j 0 : Nat))) (fun H' s' => SqL.of (s' _ _ hk)) (fun i H x H' y => by obtain ⟨rfl, _⟩ := y; exact Same.refl _) nD2 (by rw [List.length_map]; exact small_of (k := 10) (Nat.le_trans (kl n) l10) (by decide)) (fun j x H4 H5 Qy Qn hj y s4 q1 q2 => ?_) (fun G4 s4 hD4 => ?_)
          · obtain ⟨rfl, hy⟩ := y
            rw [List.getElem?_map] at hy
            cases hcj : (kd n)[j]? with
            | none => rw [hcj] at hy; cases hy
            | some c =>
              rw [hcj] at hy
              obtain rfl := Option.some.inj hy
              have z := q1 rfl _ (Same.refl _)
              rw [List.getD_eq_getElem?_getD, hcj] at z
              exact ⟨rfl, yes_if ⟨_, rfl, _, _, rfl, rfl, _, rfl, _, _, rfl, rfl, z⟩⟩
          · have vals : (((List.range (nats (kd n)).length).filter fun _ => true).map fun j => V.int ((rs.length : Int) - 1 - ((kd n).getD j 0 : Nat))) = ((kd n).map fun c => (rs.length : Int) - 1 - (c : Nat)).map V.int := by
              rw [List.filter_eq_self.mpr (fun _ _ => rfl)]
              refine List.ext_getElem? fun j => ?_
              simp only [List.getElem?_map, List.length_map]
              by_cases c : j < (kd n).length
              · simp [c]
              · simp [c]
            rw [vals] at hD4
            have cin : ∀ c ∈ (kd n).map (fun c => (rs.length : Int) - 1 - (c : Nat)), 0 ≤ c ∧ c ≤ (i : Int) - 1 := fun c hc => by
              obtain ⟨x, hx, rfl⟩ := List.mem_map.mp hc
              have := kb n x hx
              omega
            have clen : ((kd n).map (fun c => (rs.length : Int) - 1 - (c : Nat))).length ≤ 10 := by
              rw [List.length_map]
              exact Nat.le_trans (kl n) l10
            generalize (kd n).map (fun c => (rs.length : Int) - 1 - (c : Nat)) = cs at hD4 cin clen
            clear vals
            refine ⟨D2, _, rfl, .inl ⟨SqL.of hD4, fun a1 na1 => ?_⟩⟩
            have s5 := s4.trans (same_upd (o := .tup (cs.map V.int)) na1)
            have h1 : upd G4 a1 (.tup (cs.map V.int)) a1 = some (.tup (cs.map V.int)) := upd_same
            generalize upd G4 a1 (.tup (cs.map V.int)) = G5 at s5 h1 ⊢
            refine ⟨by show 3 ≤ sizeLine; decide, fun a2 na2 => ?_⟩
            have s6 := s5.trans (same_upd (o := .tup [.int (mk : Nat), .bl al, .ref a1]) na2)
            have h1 := same_upd (o := .tup [.int (mk : Nat), .bl al, .ref a1]) na2 _ _ h1
            have h2 : upd G5 a2 (.tup [.int (mk : Nat), .bl al, .ref a1]) a2 = some (.tup [.int (mk : Nat), .bl al, .ref a1]) := upd_same
            generalize upd G5 a2 (.tup [.int (mk : Nat), .bl al, .ref a1]) = G6 at s6 h1 h2 ⊢
            have gr6 := gr.keep (Kp.of s6) Lm Lg
            have dr6 := dr.keep (sg2.trans s6)
            obtain ⟨acc, ha, da⟩ := gr6.ex
            have dt1 : Dt G6 m g (.ref a1) (.tuple (cs.map PyData.int)) := .tup h1 (Dt.ofTup dr6 h1).1 (Dt.ofTup dr6 h1).2 (ints_dt cs)
            have dt2 : Dt G6 m g (.ref a2) (.tuple [.int (mk : Nat), .bool al, .tuple (cs.map PyData.int)]) := .tup h2 (Dt.ofTup dr6 h2).1 (Dt.ofTup dr6 h2).2 (.cons (.int _) (.cons (.bl _) (.cons dt1 .nil)))
            have line : isLine (i : Nat) marks (.tuple [.int (mk : Nat), .bool al, .tuple (cs.map PyData.int)]) = true := by
              show (isBt 0 ((marks : Int) - 1) (.int (mk : Nat)) && true && isNRow 600 ((i : Int) - 1) (.tuple (cs.map PyData.int))) = true
              have e1 : isBt 0 ((marks : Int) - 1) (.int (mk : Nat)) = true := by simp [isBt]; omega
              have e2 : isNRow 600 ((i : Int) - 1) (.tuple (cs.map PyData.int)) = true := by
                show (decide (((cs.map PyData.int).length : Int) ≤ 600) && (cs.map PyData.int).all (isBt 0 ((i : Int) - 1))) = true
                rw [List.length_map, decide_eq_true (by omega), Bool.true_and, List.all_eq_true]
                intro d hd
                obtain ⟨c, hc, rfl⟩ := List.mem_map.mp hd
                have := cin c hc
                simp [isBt]
                omega
              rw [e1, e2]
              rfl
            have nl : noL (.tuple [.int (mk : Nat), .bool al, .tuple (cs.map PyData.int)]) = true := by
              simp [noL, noLA, noLA_all]
            refine ⟨L, acc, _, rfl, rfl, ha, by rw [da.len, gr6.len]; exact small_of (k := 10) (by omega) (by decide), same_set (sg2.trans s6) fL, ⟨_, rfl⟩, ?_, _, gr6.put dt2 nl ⟨line, by rw [kids_ints, List.length_map]; exact clen⟩ acc ha⟩
            have kq6 := kq2.same s6
            refine ⟨by rw [upd_ne (Ne.symm LD)]; exact kq6.at_, kq6.nd, kq6.nk, fun j a e => ?_⟩
            rw [upd_ne (kL a (List.mem_of_getElem? e))]
            exact kq6.each j a e
        · rintro σ G2 ⟨sg2, ⟨v5, rfl⟩, _, ds, gr⟩
          obtain ⟨acc, ha, da⟩ := gr.ex
          refine ⟨_, rfl, L, _, rfl, .inl ⟨SqL.of ha, fun p np => ?_⟩⟩
          have s7 := same_upd (o := .tup acc) np
          have sH := sg2.trans s7
          have hp : upd G2 p (.tup acc) p = some (.tup acc) := upd_same
          generalize upd G2 p (.tup acc) = G3 at s7 sH hp ⊢
          have o := Dt.ofTup (dr.keep sH) hp
          refine k _ ds _ sH (.tup hp o.1 o.2 (da.same s7)) gr.len ⟨wrong_none fun j d e => by rw [Nat.zero_add]; exact (gr.ok j d e).1, fun d hd => ?_⟩
          obtain ⟨j, hj, e⟩ := List.getElem_of_mem hd
          exact (gr.ok j d (by rw [List.getElem?_eq_getElem hj, e])).2
end
end Hk
set_option Elab.async false
set_option linter.all false
set_option maxRecDepth 100000
set_option maxHeartbeats 4000000
set_option pp.maxSteps 1200
namespace Hk
open PySem PySem.Spec PyProof.Rows L2
theorem Depths.snoc {pre : List Nat} {z b : Nat} (d : Depths (pre ++ [z])) (h : b ≤ z + 1) : Depths (pre ++ [z] ++ [b]) := by
  refine ⟨?_, fun j x y e1 e2 => ?_⟩
  · rw [List.getElem?_append_left (by simp)]
    exact d.first
  · have hj := (List.getElem?_eq_some_iff.mp e2).1
    rw [List.length_append] at hj
    have e0 : ([b] : List Nat).length = 1 := rfl
    rw [e0] at hj
    rw [List.getElem?_append_left (by omega)] at e1
    by_cases c : j + 1 < (pre ++ [z]).length
    · rw [List.getElem?_append_left c] at e2
      exact d.next j x y e1 e2
    · have l : (pre ++ [z]).length = j + 1 := by omega
      rw [List.getElem?_append_right (by omega), l, Nat.sub_self] at e2
      cases e2
      have l2 : pre.length = j := by rw [List.length_append] at l; exact Nat.succ.inj l
      rw [List.getElem?_append_right (by omega), l2, Nat.sub_self] at e1
      cases e1
      exact h
section
variable {P : Program} {w : World} {K : PySem.W.Frag} {mg : Str → Option Value} {base : Heap} {CD CF B fI fJ fB : Addr}
abbrev s_law_family : Stmt := top 44
theorem sc_law_family : FnScope ["m", "marks", "most", "row", "turn", "n"] ["m", "marks", "most"] (defScope s_law_family) := ⟨rfl, rfl, rfl, by decide +kernel, rfl, by decide +kernel, by decide +kernel⟩
def spLFam : Sp := fun vs H Q _ => ∃ (m c g : Addr) (q : Int) (marks most : Nat), vs = [.ref m, .int (marks : Nat), .int (most : Nat)] ∧ Dr H m c g q ∧ q < 100000 ∧ 1 ≤ marks ∧ marks ≤ 3 ∧ 1 ≤ most ∧ most ≤ 8 ∧
  ∀ (u : V) (ds : List PyData) H' (q' : Int), Kp m g H H' → Dr H' m c g q' → q ≤ q' → q' ≤ q + 40 → Dt H' m g u (.tuple ds) → 1 ≤ ds.length → ds.length ≤ most → Fit marks ds → Q u H'
theorem ok_law_family (T : Txt K mg) (bmin : mg "min" = none) (k_law_draw : Kn P w K mg base 2 "_law_draw" ["m", "limit"] sp_draw) (k_law_planted : Kn P w K mg base 1 "_law_planted" ["row", "looks"] spPlanted) (at_ : At K mg "_law_family" s_law_family ["m", "marks", "most"]) : Kn P w K mg base 3 "_law_family" ["m", "marks", "most"] spLFam := by
  refine Kn.mkN (st := s_law_family) (N := ["m", "marks", "most", "row", "turn", "n"]) at_ sc_law_family (fun vs H Q E h => ?_) (fun f cdv A outer s H vs Q E hr free h => ?_)
  · obtain ⟨m, c, g, q, marks, most, rfl, _⟩ := h
    rfl
  · obtain ⟨m, c, g, q, marks, most, rfl, dr, q0, m1, m3, t1, t8, k⟩ := h
    refine ⟨_, (pss_cons (ps_set (i := 3) sc_law_family.nd rfl (Or.inl rfl) (pe_lst (pa_cons pe_int pa_nil))) (pss_cons (ps_for PassesOwn.never rfl (pi_range1 rfl T.b_range (pa_cons (pe_callN k_law_draw free (hr.mono (by decide)) rfl passL (pa_cons (pv 0) (pa_cons (pv 2) pa_nil))) pa_nil)) (pg_name (i := 4) sc_law_family.nd rfl (Or.inl rfl)) (pss_one (ps_expr (pe_bm PySem.F.plainAttrs_list PySem.F.slot_list_append PySem.F.type_list_append mt_append (pv 3) (pa_cons (pe_op op_add pe_int (pe_callN k_law_draw free (hr.mono (by decide)) rfl passL (pa_cons (pv 0) (pa_cons (pe_callB (id := "min") (call_min2 rfl) (by rfl) bmin (by decide +kernel) (pa_cons (pe_op op_add (pe_ix (ix_list : IxR _ (rIxL K)) (pv 3) (pe_un un_neg pe_int) (fun _ _ => rfl)) pe_int) (pa_cons pe_int pa_nil))) pa_nil)))) pa_nil))))) (pss_one (ps_ret (pe_callN k_law_planted free (hr.mono (by decide)) rfl passL (pa_cons (pv 3) (pa_cons (pe_lc (own := [("n", 5)]) (by rfl) sc_law_family.nd (tt := tYes) (pi_range1 rfl T.b_range (pa_cons (pe_callB (id := "len") call_len_seq (by rfl) T.b_len (by decide +kernel) (pa_cons (pv 3) pa_nil)) pa_nil)) (blkOk_by (own := [("n", 5)]) (N := ["m", "marks", "most", "row", "turn", "n"]) (sc := defScope s_law_family) (by decide +kernel)) (fun _ _ _ _ _ => pg_name (i := 5) sc_law_family.nd rfl (Or.inl rfl)) (fun _ _ _ _ _ => pts_nil) (fun _ _ _ _ _ => (pe_tup (pa_cons (pe_callN k_law_draw free (hr.mono (by decide)) rfl passL (pa_cons (pv 0) (pa_cons (pv 1) pa_nil))) (pa_cons (pe_cmpR op_gt (pe_callN k_law_draw free (hr.mono (by decide)) rfl passL (pa_cons (pv 0) (pa_cons pe_int pa_nil))) pe_int (nomark _)) pa_nil))))) pa_nil))))))), ?_⟩
    refine ⟨by show 1 ≤ sizeLine; decide, fun r nr => ?_⟩
    have s1 := same_upd (o := .lst [.int 0]) nr
    have hr0 : upd H r (.lst [.int 0]) r = some (.lst (nats ([] ++ [0]))) := upd_same
    have rm := dr.ne_m nr
    have rc := dr.ne_c nr
    have rg := dr.ne_g nr
    have dr1 := dr.keep s1
    generalize upd H r (.lst [.int 0]) = H1 at s1 hr0 dr1 ⊢
    refine ⟨_, rfl, _, rfl, m, c, g, q, (most : Int), rfl, dr1, by omega, by omega, by omega, fun H2 t kp2 dr2 ta tb => ⟨t, rfl, by omega, by omega, ?_⟩⟩
    refine for_it walk_range (fun i σ G => Kp m g H G ∧ (∃ v4, σ = [some (.ref m), some (.int (marks : Nat)), some (.int (most : Nat)), some (.ref r), v4, none]) ∧ ∃ (q' : Int) (pre : List Nat) (z : Nat), Dr G m c g q' ∧ q + 1 ≤ q' ∧ q' ≤ q + 1 + (i : Nat) ∧ pre.length = i ∧ G r = some (.lst (nats (pre ++ [z]))) ∧ Depths (pre ++ [z])) ⟨(Kp.of s1).trans kp2, ⟨_, rfl⟩, q + 1, [], 0, dr2, by omega, by simp, rfl, kp2 _ _ hr0 rm rg, ⟨rfl, fun j a b e1 e2 => by simp at e2⟩⟩ (fun _ _ _ _ _ => trivial) ?_ ?_
    · rintro i x σ G0 G hi ⟨kp, ⟨v4, rfl⟩, q', pre, z, d, qa, qb, pl, hr1, dep⟩ ⟨rfl, hx⟩
      have last : atI (nats (pre ++ [z])) (-1) = some (.int (z : Nat)) := by
        rw [show nats (pre ++ [z]) = nats pre ++ [.int (z : Nat)] from List.map_append ..]
        exact L2.atI_last _ _
      refine ⟨_, rfl, .inl ⟨rfl, _, SqL.of hr1⟩, ?_⟩
      refine ⟨_, rfl, _, rfl, _, rfl, r, _, _, _, rfl, rfl, SqL.of hr1, last, _, _, rfl, rfl, _, _, rfl, ?_⟩
      refine ⟨m, c, g, q', _, rfl, d, by omega, by split <;> omega, by split <;> omega, fun G3 b kp3 d3 b0 b1 => ?_⟩
      have bz : b ≤ z := by split at b1 <;> omega
      obtain ⟨b, rfl⟩ : ∃ n : Nat, b = (n : Int) := ⟨b.toNat, by omega⟩
      have hr3 := kp3 _ _ hr1 rm rg
      refine ⟨_, _, rfl, rfl, r, _, _, rfl, rfl, hr3, by rw [List.length_map, List.length_append]; exact small_of (k := 10) (by show _ + 1 ≤ 10; omega) (by decide), ?_⟩
      refine ⟨kp_set (kp.trans kp3) nr, ⟨_, rfl⟩, q' + 1, pre ++ [z], b + 1, d3.set rm rc rg, by omega, by omega, by rw [List.length_append, pl]; rfl, ?_, dep.snoc (by omega)⟩
      rw [upd_same, show nats (pre ++ [z] ++ [b + 1]) = nats (pre ++ [z]) ++ [V.int ((b + 1 : Nat) : Int)] from List.map_append ..]
      show some (HO.lst (_ ++ [V.int (1 + (b : Int))])) = _
      rw [show (1 : Int) + (b : Int) = ((b + 1 : Nat) : Int) by omega]
    · rintro σ G ⟨kp, ⟨v4, rfl⟩, q', pre, z, d, qa, qb, pl, hr1, dep⟩
      have ln : (pre ++ [z]).length = t.toNat + 1 := by rw [List.length_append, pl]; rfl
      refine ⟨_, rfl, _, rfl, r, _, rfl, .inl (SqL.of hr1), _, rfl, by omega, by rw [List.length_map]; omega, fun D nD => ?_⟩
      rw [List.length_map, ln]
      have dm := d.ne_m nD
      have dg := d.ne_g nD
      have Dn : r ≠ D := fun z => by rw [z, nD] at hr1; cases hr1
      refine lc_draw (walk_range (lo := 0) (n := ((t.toNat + 1 : Nat) : Int).toNat)) (k := 2) (fun _ e => ∃ (mk : Nat) (al : Bool), e = .tuple [.int (mk : Nat), .bool al] ∧ mk < marks) (by decide) d (fun _ _ => trivial) (fun i H x H' y => y.1) nD (by rw [Int.toNat_natCast]; exact small_of (k := 8) (by omega) (by decide)) (fun i x G4 n' Q' hi y kp4 d4 h1 h2 q9 => ?_) (fun G4 n' ds kp4 d4 h1 h2 gr => ?_)
      · rw [Int.toNat_natCast] at hi
        refine ⟨rfl, ?_⟩
        show tTup _ _ _ _
        refine ⟨_, rfl, _, rfl, m, c, g, n', (marks : Int), rfl, d4, by omega, by omega, by omega, fun G5 mk kp5 d5 mk0 mk1 => ?_⟩
        refine ⟨_, rfl, m, c, g, n' + 1, 3, rfl, d5, by omega, by decide, by decide, fun G6 al kp6 d6 _ _ => ⟨_, _, rfl, rfl, by show 2 ≤ sizeLine; decide, fun p np => ?_⟩⟩
        obtain ⟨mk, rfl⟩ : ∃ n : Nat, mk = (n : Int) := ⟨mk.toNat, by omega⟩
        have s7 := same_upd (o := .tup [.int (mk : Nat), .bl (decide (0 < al))]) np
        have hp : upd G6 p (.tup [.int (mk : Nat), .bl (decide (0 < al))]) p = some (.tup [.int (mk : Nat), .bl (decide (0 < al))]) := upd_same
        have d7 := d6.keep s7
        exact q9 _ (n' + 1 + 1) _ (.tuple [.int (mk : Nat), .bool (decide (0 < al))]) ((kp5.trans kp6).trans (Kp.of s7)) d7 (by omega) (by omega) (.tup hp (Dt.ofTup d7 hp).1 (Dt.ofTup d7 hp).2 (.cons (.int _) (.cons (.bl _) .nil))) rfl ⟨mk, _, rfl, by omega⟩
      · rw [Int.toNat_natCast] at gr h2
        obtain ⟨acc, ha, da⟩ := gr.ex
        have kpH := (kp.trans kp4)
        refine ⟨r, D, pre ++ [z], acc, ds, m, c, g, n', marks, rfl, d4, kp4 _ _ hr1 rm rg, ha, da, by rw [gr.len, ln], by omega, dep, by omega, fun e he => ?_, fun u ds2 G7 s7 dt l2 fit => ?_⟩
        · obtain ⟨j, hj, e2⟩ := List.getElem_of_mem he
          exact gr.ok j e (by rw [List.getElem?_eq_getElem hj, e2])
        · exact k u ds2 G7 n' (kpH.trans (Kp.of s7)) (d4.keep s7) (by omega) (by omega) dt (by omega) (by omega) fit
end
end Hk
set_option Elab.async false
set_option linter.all false
set_option maxRecDepth 100000
set_option maxHeartbeats 4000000
namespace Hk
open PySem PySem.Spec PyProof.Rows L2
theorem kid_sum {acc : List Int} {B : Int} (h0 : 0 ≤ B) (h : ∀ x ∈ acc, x ≤ B) : ∀ cs : List Nat, (cs.map fun c => acc.getD c 0).sum ≤ cs.length * B
  | [] => by simp
  | c :: cs => by
    have ih := kid_sum h0 h cs
    have e : acc.getD c 0 ≤ B := by
      rw [List.getD_eq_getElem?_getD]
      cases q : acc[c]? with
      | none => exact h0
      | some x => exact h x (List.mem_of_getElem? q)
    show (acc.getD c 0 + (cs.map fun c => acc.getD c 0).sum) ≤ _
    rw [List.length_cons, show ((cs.length + 1 : Nat) : Int) * B = (cs.length : Int) * B + B by rw [show ((cs.length + 1 : Nat) : Int) = (cs.length : Int) + 1 by omega, Int.add_mul, Int.one_mul]]
    omega
theorem fold_bound : ∀ (ds : List PyData) (acc : List Int) (B : Int), 1 ≤ B → (∀ x ∈ acc, x ≤ B) → (∀ d ∈ ds, (kidsOf d).length ≤ 10) → ∀ x ∈ ds.foldl sizeStep acc, x ≤ B * 11 ^ ds.length
  | [], acc, B, _, h, _, x, hx => by
    have := h x hx
    simpa using this
  | d :: ds, acc, B, b1, h, kd, x, hx => by
    have s := kid_sum (by omega) h (kidsOf d)
    have k10 := kd d (by simp)
    have s2 : ((kidsOf d).length : Int) * B ≤ 10 * B := Int.mul_le_mul_of_nonneg_right (by omega) (by omega)
    have z := fold_bound ds (sizeStep acc d) (B * 11) (by omega) (fun y hy => by
      rcases List.mem_append.mp hy with q | q
      · have := h y q
        omega
      · rw [List.mem_singleton.mp q]
        omega) (fun e he => kd e (by simp [he])) x hx
    rw [List.length_cons, Int.pow_succ, Int.mul_comm (11 ^ ds.length) 11, ← Int.mul_assoc]
    exact z
theorem fit_fam {marks : Nat} {ds : List PyData} (h : Fit marks ds) (l1 : 1 ≤ ds.length) (l2 : ds.length ≤ 12) : famErr (marks : Nat) (.tuple ds) = none := by
  have b : famBad (marks : Nat) (.tuple ds) = none := by
    show (if (decide (1 ≤ ds.length) && decide (ds.length ≤ 2000)) = true then (wrongAt (marks : Nat) 0 ds).map (fun i => V.int (i : Nat)) else some .non) = none
    rw [if_pos (by simp; omega), h.1]
    rfl
  unfold famErr
  rw [b]
  show (if (10 : Int) ^ 60 < (sizesL ds).getLastD 0 then some V.non else none) = none
  have e : (sizesL ds).getLastD 0 ≤ 1 * 11 ^ ds.length := by
    have ne : sizesL ds ≠ [] := fun z => by
      have := sizes_len ds
      rw [z] at this
      simp at this
      omega
    have q : (sizesL ds).getLastD 0 ∈ sizesL ds := by
      cases q : sizesL ds with
      | nil => exact absurd q ne
      | cons x t =>
        rw [List.getLastD_cons]
        exact List.getLastD_mem_cons
    exact fold_bound ds [] 1 (by decide) (fun x hx => by cases hx) h.2 _ q
  have p : (11 : Int) ^ ds.length ≤ 11 ^ 12 := by
    have := Nat.pow_le_pow_right (n := 11) (by decide) l2
    exact_mod_cast this
  rw [if_neg (by omega)]
theorem nrow_mono {most a b : Int} {d : PyData} (h : isNRow most a d = true) (ab : a ≤ b) : isNRow most b d = true := by
  obtain ⟨ds, rfl⟩ := nrow_tup h
  have h' : (decide ((ds.length : Int) ≤ most) && ds.all (isBt 0 a)) = true := h
  show (decide ((ds.length : Int) ≤ most) && ds.all (isBt 0 b)) = true
  simp only [Bool.and_eq_true, List.all_eq_true] at h' ⊢
  refine ⟨h'.1, fun x hx => ?_⟩
  have := h'.2 x hx
  cases x with
  | int i => simp [isBt] at this ⊢; omega
  | _ => simp [isBt] at this
theorem line_mono {a b n : Int} {d : PyData} (h : isLine a n d = true) (ab : a ≤ b) : isLine b n d = true := by
  obtain ⟨mk, al, cs, rfl, h0, h1, h2, h3⟩ := line_parts h
  have h' : (isBt 0 (n - 1) (.int mk) && true && isNRow 600 (a - 1) (.tuple (cs.map PyData.int))) = true := h
  show (isBt 0 (n - 1) (.int mk) && true && isNRow 600 (b - 1) (.tuple (cs.map PyData.int))) = true
  rw [Bool.and_eq_true] at h' ⊢
  exact ⟨h'.1, nrow_mono h'.2 (by omega)⟩
theorem Fit.app {marks : Nat} {xs ys : List PyData} (h : Fit marks xs) (k : Fit marks ys) : Fit marks (xs ++ ys) := by
  refine ⟨wrong_none fun j d e => ?_, fun d hd => ?_⟩
  · by_cases c : j < xs.length
    · rw [List.getElem?_append_left c] at e
      exact none_good h.1 j d e
    · rw [List.getElem?_append_right (by omega)] at e
      exact line_mono (none_good k.1 _ d e) (by omega)
  · rcases List.mem_append.mp hd with z | z
    · exact h.2 d z
    · exact k.2 d z
theorem fit_over {marks : Nat} {ds : List PyData} (h : Fit marks ds) (l2 : ds.length ≤ 1999) : famErr (marks : Nat) (.tuple (ds ++ [.tuple [.int (marks : Nat), .bool true, .tuple []]])) = some (.int (ds.length : Nat)) := by
  have w := wrong_first (marks := (marks : Nat)) (ds := ds ++ [.tuple [.int (marks : Nat), .bool true, .tuple []]]) (k := 0) (i := ds.length) (fun j d hj e => by
    rw [List.getElem?_append_left hj] at e
    exact none_good h.1 j d e) (d := .tuple [.int (marks : Nat), .bool true, .tuple []]) (by rw [List.getElem?_append_right (Nat.le_refl _), Nat.sub_self]; rfl) (by
    show (isBt 0 ((marks : Int) - 1) (.int (marks : Nat)) && true && _) = false
    have : isBt 0 ((marks : Int) - 1) (.int (marks : Nat)) = false := by simp [isBt]; omega
    rw [this]
    rfl)
  unfold famErr
  have b : famBad (marks : Nat) (.tuple (ds ++ [.tuple [.int (marks : Nat), .bool true, .tuple []]])) = some (.int (ds.length : Nat)) := by
    show (if (decide (1 ≤ (ds ++ [_]).length) && decide ((ds ++ [_]).length ≤ 2000)) = true then (wrongAt (marks : Nat) 0 (ds ++ [_])).map (fun i => V.int (i : Nat)) else some .non) = _
    rw [if_pos (by rw [List.length_append]; simp; omega), w, Nat.zero_add]
    rfl
  rw [b]
theorem fam_empty {n : Int} : famErr n (.tuple []) = some .non := rfl
theorem fam_none {n : Int} : famErr n .none = some .non := rfl
theorem line_noL {p n : Int} {d : PyData} (h : isLine p n d = true) : noL d = true := by
  obtain ⟨mk, al, cs, rfl, h0, h1, h2, h3⟩ := line_parts h
  simp [noL, noLA, noLA_all]
theorem line_okn {p n : Int} {d : PyData} (h : isLine p n d = true) : OkN 2 d := by
  obtain ⟨mk, al, cs, rfl, h0, h1, h2, h3⟩ := line_parts h
  refine okn_tup fun e he => ?_
  simp only [List.mem_cons, List.not_mem_nil, or_false] at he
  rcases he with e1 | e1 | e1 <;> subst e1
  · exact okn_int _ _
  · exact okn_bl _ _
  · refine okn_tup fun e he => ?_
    obtain ⟨c, _, rfl⟩ := List.mem_map.mp he
    exact okn_int _ _
theorem fit_lines {marks : Nat} {ds : List PyData} (h : Fit marks ds) : ∀ d ∈ ds, ∃ j : Nat, isLine (j : Nat) (marks : Nat) d = true := fun d hd => by
  obtain ⟨j, hj, e⟩ := List.getElem_of_mem hd
  exact ⟨0 + j, none_good h.1 j d (by rw [List.getElem?_eq_getElem hj, e])⟩
theorem fit_noL {marks : Nat} {ds : List PyData} (h : Fit marks ds) : noL (.tuple ds) = true := by
  show noLA ds = true
  rw [noLA_all, List.all_eq_true]
  intro d hd
  obtain ⟨j, e⟩ := fit_lines h d hd
  exact line_noL e
theorem fit_okn {marks : Nat} {ds : List PyData} (h : Fit marks ds) : OkN 3 (.tuple ds) := okn_tup fun d hd => by
  obtain ⟨j, e⟩ := fit_lines h d hd
  exact line_okn e
end Hk
set_option Elab.async false
set_option linter.all false
set_option maxRecDepth 100000
set_option maxHeartbeats 4000000
set_option pp.maxSteps 3000
namespace Hk
open PySem PySem.Spec PyProof.Rows L2
def rTupQ (K : PySem.W.Frag) : List V → Hp → VK → Prop := fun xs H Q => ∃ p ys, xs = [.ref p] ∧ ((SqL K H p ys ∧ ∀ l, H l = none → Q (.ref l) (upd H l (.tup ys))) ∨ SqT K H p ys ∧ Q (.ref p) H)
theorem ints_of {P : Int → Prop} : ∀ {ds : List PyData}, (∀ d ∈ ds, ∃ x : Int, d = .int x ∧ P x) → ∃ cs : List Int, ds = cs.map PyData.int ∧ ∀ x ∈ cs, P x
  | [], _ => ⟨[], rfl, fun x z => by cases z⟩
  | d :: ds, h => by
    obtain ⟨x, rfl, px⟩ := h d (by simp)
    obtain ⟨cs, rfl, pc⟩ := ints_of (ds := ds) fun e he => h e (by simp [he])
    refine ⟨x :: cs, rfl, fun y hy => ?_⟩
    rcases List.mem_cons.mp hy with z | z
    · rw [z]; exact px
    · exact pc y z
theorem Grow.mem {H : Hp} {m g D : Addr} {i : Nat} {p : PyData → Prop} {ds : List PyData} (G : Grow H m g D i (fun _ => p) ds) : ∀ d ∈ ds, p d := fun d hd => by
  obtain ⟨j, hj, e⟩ := List.getElem_of_mem hd
  exact G.ok j d (by rw [List.getElem?_eq_getElem hj, e])
theorem pickW {r : Int} (h0 : 0 ≤ r) (h1 : r < 3) : ∃ w : Str, atI [.str "lines", .str "lost", .str "lines"] r = some (V.str w) ∧ inW takeW (.str w) = true := by
  have : r = 0 ∨ r = 1 ∨ r = 2 := by omega
  rcases this with e | e | e <;> subst e
  · exact ⟨"lines", rfl, by decide +kernel⟩
  · exact ⟨"lost", rfl, by decide +kernel⟩
  · exact ⟨"lines", rfl, by decide +kernel⟩
theorem pickS {r : Int} (h0 : 0 ≤ r) (h1 : r < 4) : ∃ w : Str, atI [.str "self", .str "lines", .str "self", .str "lost"] r = some (V.str w) ∧ inW takeS (.str w) = true := by
  have : r = 0 ∨ r = 1 ∨ r = 2 ∨ r = 3 := by omega
  rcases this with e | e | e | e <;> subst e
  · exact ⟨"self", rfl, by decide +kernel⟩
  · exact ⟨"lines", rfl, by decide +kernel⟩
  · exact ⟨"self", rfl, by decide +kernel⟩
  · exact ⟨"lost", rfl, by decide +kernel⟩
section
variable {P : Program} {w : World} {K : PySem.W.Frag} {mg : Str → Option Value} {base : Heap} {CD CF B fI fJ fB : Addr}
abbrev s_law_deal : Stmt := top 45
theorem sc_law_deal : FnScope ["m", "marks", "wide", "ranks_so", "stands_so", "weights", "read_so", "close_so", "mark", "dead", "living", "n", "stand"] ["m", "marks", "wide"] (defScope s_law_deal) := ⟨rfl, rfl, rfl, by decide +kernel, rfl, by decide +kernel, by decide +kernel⟩
/-- a row of the deal's reading -/
def RowSo (ranks stands : Nat) (r : PyData) : Prop := ∃ cs : List Int, r = .tuple (cs.map PyData.int) ∧ cs.length = ranks ∧ ∀ c ∈ cs, 0 ≤ c ∧ c < stands
/-- a pair of the deal's close -/
def PairSo (ranks stands : Nat) (p : PyData) : Prop := ∃ de li : List PyData, p = .tuple [.tuple de, .tuple li] ∧ de.length = stands ∧ li.length = stands ∧ (∀ x ∈ de, isTake ranks takeW x = true) ∧ ∀ x ∈ li, isTake ranks takeS x = true
/-- a deal without fault, small -/
structure DealSo (marks ranks stands : Nat) (ws : List Int) (rd cl : List PyData) : Prop where
  m1 : 1 ≤ marks
  m3 : marks ≤ 3
  r2 : 2 ≤ ranks
  r3 : ranks ≤ 3
  s1 : 1 ≤ stands
  s3 : stands ≤ 3
  wl : ws.length = ranks
  wb : ∀ x ∈ ws, 0 ≤ x ∧ x < 100
  rl : rd.length = stands
  rb : ∀ r ∈ rd, RowSo ranks stands r
  cl_ : cl.length = marks
  cb : ∀ p ∈ cl, PairSo ranks stands p
abbrev dealD (marks : Nat) (ws : List Int) (rd cl : List PyData) : PyData := .tuple [.int (marks : Nat), .tuple (ws.map PyData.int), .tuple rd, .tuple cl]
def spLDeal : Sp := fun vs H Q _ => ∃ (m c g : Addr) (q : Int) (marks : Nat), vs = [.ref m, .int (marks : Nat), .int 3] ∧ Dr H m c g q ∧ q < 100000 ∧ 1 ≤ marks ∧ marks ≤ 3 ∧
  ∀ (u : V) (ranks stands : Nat) (ws : List Int) (rd cl : List PyData) H' (q' : Int), Kp m g H H' → Dr H' m c g q' → q ≤ q' → q' ≤ q + 60 → Dt H' m g u (dealD marks ws rd cl) → DealSo marks ranks stands ws rd cl → Q u H'
theorem ok_law_deal (T : Txt K mg) (k_law_draw : Kn P w K mg base 2 "_law_draw" ["m", "limit"] sp_draw) (at_ : At K mg "_law_deal" s_law_deal ["m", "marks", "wide"]) : Kn P w K mg base 3 "_law_deal" ["m", "marks", "wide"] spLDeal := by
  refine Kn.mkN (st := s_law_deal) (N := ["m", "marks", "wide", "ranks_so", "stands_so", "weights", "read_so", "close_so", "mark", "dead", "living", "n", "stand"]) at_ sc_law_deal (fun vs H Q E h => ?_) (fun f cdv A outer s H vs Q E hr free h => ?_)
  · obtain ⟨m, c, g, q, marks, rfl, _⟩ := h
    rfl
  · obtain ⟨m, c, g, q, marks, rfl, dr, q0, m1, m3, k⟩ := h
    refine ⟨_, (pss_cons (ps_asg (pe_tup (pa_cons (pe_op op_add pe_int (pe_op op_fdivN (pe_callN k_law_draw free (hr.mono (by decide)) rfl passL (pa_cons (pv 0) (pa_cons pe_int pa_nil))) pe_int)) (pa_cons (pe_op op_add pe_int (pe_callN k_law_draw free (hr.mono (by decide)) rfl passL (pa_cons (pv 0) (pa_cons (pv 2) pa_nil)))) pa_nil))) (pg_tup rfl (pgs_cons (pg_name (i := 3) sc_law_deal.nd rfl (Or.inr rfl)) (pgs_cons (pg_name (i := 4) sc_law_deal.nd rfl (Or.inr rfl)) pgs_nil)))) (pss_cons (ps_setLc (i := 5) (own := [("n", 11)]) (by rfl) sc_law_deal.nd rfl rfl (sw_true rfl rfl rfl (by decide +kernel)) (tt := tYes) (pi_range1 rfl T.b_range (pa_cons (pv 3) pa_nil)) (blkOk_by (own := [("n", 11)]) (N := ["m", "marks", "wide", "ranks_so", "stands_so", "weights", "read_so", "close_so", "mark", "dead", "living", "n", "stand"]) (sc := defScope s_law_deal) (by decide +kernel)) (fun _ _ _ _ _ => pg_name (i := 11) sc_law_deal.nd rfl (Or.inl rfl)) (fun _ _ _ _ _ => pts_nil) (fun _ _ _ _ _ => (pe_callN k_law_draw free (hr.mono (by decide)) rfl passL (pa_cons (pv 0) (pa_cons pe_int pa_nil))))) (pss_cons (ps_asg (pe_op op_add pe_int (pe_callN k_law_draw free (hr.mono (by decide)) rfl passL (pa_cons (pv 0) (pa_cons pe_int pa_nil)))) (pg_sub (pv 5) (pe_callN k_law_draw free (hr.mono (by decide)) rfl passL (pa_cons (pv 0) (pa_cons (pv 3) pa_nil))) set_list)) (pss_cons (ps_setLc (i := 6) (own := [("stand", 12)]) (by rfl) sc_law_deal.nd rfl rfl (sw_true rfl rfl rfl (by decide +kernel)) (tt := tYes) (pi_range1 rfl T.b_range (pa_cons (pv 4) pa_nil)) (blkOk_by (own := [("stand", 12)]) (N := ["m", "marks", "wide", "ranks_so", "stands_so", "weights", "read_so", "close_so", "mark", "dead", "living", "n", "stand"]) (sc := defScope s_law_deal) (by decide +kernel)) (fun _ _ _ _ _ => pg_name (i := 12) sc_law_deal.nd rfl (Or.inl rfl)) (fun _ _ _ _ _ => pts_nil) (fun _ _ _ _ _ => (pe_callTy (show CallR _ (.type "tuple") (rTupQ K) from call_tuple_of) (by rfl) T.b_tuple (by decide +kernel) (pa_cons (pe_lc (own := [("n", 11)]) (by rfl) sc_law_deal.nd (tt := tYes) (pi_range1 rfl T.b_range (pa_cons (pv 3) pa_nil)) (blkOk_by (own := [("n", 11)]) (by rfl)) (fun _ _ _ _ _ => pg_name (i := 11) sc_law_deal.nd rfl (Or.inl rfl)) (fun _ _ _ _ _ => pts_nil) (fun _ _ _ _ _ => (pe_callN k_law_draw free (hr.mono (by decide)) rfl passL (pa_cons (pv 0) (pa_cons (pv 4) pa_nil))))) pa_nil)))) (pss_cons (ps_set (i := 7) sc_law_deal.nd rfl (Or.inl rfl) (pe_lst pa_nil)) (pss_cons (ps_for PassesOwn.never rfl (pi_range1 rfl T.b_range (pa_cons (pv 1) pa_nil)) (pg_name (i := 8) sc_law_deal.nd rfl (Or.inl rfl)) (pss_cons (ps_setLc (i := 9) (own := [("stand", 12)]) (by rfl) sc_law_deal.nd rfl rfl (sw_true rfl rfl rfl (by decide +kernel)) (tt := tYes) (pi_range1 rfl T.b_range (pa_cons (pv 4) pa_nil)) (blkOk_by (own := [("stand", 12)]) (N := ["m", "marks", "wide", "ranks_so", "stands_so", "weights", "read_so", "close_so", "mark", "dead", "living", "n", "stand"]) (sc := defScope s_law_deal) (by decide +kernel)) (fun _ _ _ _ _ => pg_name (i := 12) sc_law_deal.nd rfl (Or.inl rfl)) (fun _ _ _ _ _ => pts_nil) (fun _ _ _ _ _ => (pe_tup (pa_cons (pe_callN k_law_draw free (hr.mono (by decide)) rfl passL (pa_cons (pv 0) (pa_cons (pv 3) pa_nil))) (pa_cons (pe_ix (show IxR _ (rIxL K) from ix_list) (pe_lst (pa_cons pe_str (pa_cons pe_str (pa_cons pe_str pa_nil)))) (pe_callN k_law_draw free (hr.mono (by decide)) rfl passL (pa_cons (pv 0) (pa_cons pe_int pa_nil))) (fun _ _ => rfl)) pa_nil))))) (pss_cons (ps_setLc (i := 10) (own := [("stand", 12)]) (by rfl) sc_law_deal.nd rfl rfl (sw_true rfl rfl rfl (by decide +kernel)) (tt := tYes) (pi_range1 rfl T.b_range (pa_cons (pv 4) pa_nil)) (blkOk_by (own := [("stand", 12)]) (N := ["m", "marks", "wide", "ranks_so", "stands_so", "weights", "read_so", "close_so", "mark", "dead", "living", "n", "stand"]) (sc := defScope s_law_deal) (by decide +kernel)) (fun _ _ _ _ _ => pg_name (i := 12) sc_law_deal.nd rfl (Or.inl rfl)) (fun _ _ _ _ _ => pts_nil) (fun _ _ _ _ _ => (pe_tup (pa_cons (pe_callN k_law_draw free (hr.mono (by decide)) rfl passL (pa_cons (pv 0) (pa_cons (pv 3) pa_nil))) (pa_cons (pe_ix (show IxR _ (rIxL K) from ix_list) (pe_lst (pa_cons pe_str (pa_cons pe_str (pa_cons pe_str (pa_cons pe_str pa_nil))))) (pe_callN k_law_draw free (hr.mono (by decide)) rfl passL (pa_cons (pv 0) (pa_cons pe_int pa_nil))) (fun _ _ => rfl)) pa_nil))))) (pss_one (ps_expr (pe_bm PySem.F.plainAttrs_list PySem.F.slot_list_append PySem.F.type_list_append mt_append (pv 7) (pa_cons (pe_tup (pa_cons (pe_callTy call_tuple_of (by rfl) T.b_tuple (by decide +kernel) (pa_cons (pv 9) pa_nil)) (pa_cons (pe_callTy call_tuple_of (by rfl) T.b_tuple (by decide +kernel) (pa_cons (pv 10) pa_nil)) pa_nil))) pa_nil))))))) (pss_one (ps_ret (pe_tup (pa_cons (pv 1) (pa_cons (pe_callTy call_tuple_of (by rfl) T.b_tuple (by decide +kernel) (pa_cons (pv 5) pa_nil)) (pa_cons (pe_callTy call_tuple_of (by rfl) T.b_tuple (by decide +kernel) (pa_cons (pv 6) pa_nil)) (pa_cons (pe_callTy call_tuple_of (by rfl) T.b_tuple (by decide +kernel) (pa_cons (pv 7) pa_nil)) pa_nil))))))))))))), ?_⟩
    refine ⟨_, rfl, m, c, g, q, 4, rfl, dr, by omega, by decide, by decide, fun H1 a kp1 d1 a0 a1 => ?_⟩
    obtain ⟨ranks, er, r2, r3⟩ : ∃ ranks : Nat, 2 + a.fdiv 3 = (ranks : Int) ∧ 2 ≤ ranks ∧ ranks ≤ 3 := by
      rw [Int.fdiv_eq_ediv_of_nonneg _ (by decide)]
      exact ⟨(2 + a / 3).toNat, by omega, by omega, by omega⟩
    refine ⟨_, _, rfl, rfl, (by unfold CDivN; omega), _, _, rfl, rfl, ?_⟩
    dsimp only
    rw [er]
    refine ⟨_, rfl, _, rfl, m, c, g, q + 1, 3, rfl, d1, by omega, by decide, by decide, fun H2 b kp2 d2 b0 b1 => ?_⟩
    obtain ⟨stands, es, s1, s3⟩ : ∃ stands : Nat, 1 + b = (stands : Int) ∧ 1 ≤ stands ∧ stands ≤ 3 := ⟨(1 + b).toNat, by omega, by omega, by omega⟩
    refine ⟨_, _, rfl, rfl, ?_⟩
    dsimp only
    rw [es]
    refine ⟨by show 2 ≤ sizeLine; decide, fun p0 np0 => ?_⟩
    have s3' := same_upd (o := .tup [.int (ranks : Nat), .int (stands : Nat)]) np0
    have hp0 : upd H2 p0 (.tup [.int (ranks : Nat), .int (stands : Nat)]) p0 = some (.tup [.int (ranks : Nat), .int (stands : Nat)]) := upd_same
    have d3 := d2.keep s3'
    generalize upd H2 p0 (.tup [.int (ranks : Nat), .int (stands : Nat)]) = H3 at s3' hp0 d3 ⊢
    refine ⟨p0, _, rfl, SqT.of hp0, rfl, _, _, rfl, _, _, rfl, rfl, ?_⟩
    have kp03 := (kp1.trans kp2).trans (Kp.of s3')
    -- weights
    refine ⟨_, rfl, ranks, rfl, by omega, by omega, fun D nD => ?_⟩
    have Dm := d3.ne_m nD
    have Dc := d3.ne_c nD
    have Dg := d3.ne_g nD
    have nDH := kp03.free Dm Dg nD
    refine lc_draw (walk_range (lo := 0) (n := ((ranks : Nat) : Int).toNat)) (k := 1) (fun _ e => ∃ x : Int, e = .int x ∧ 0 ≤ x ∧ x < 100) (by decide) d3 (fun _ _ => trivial) (fun i H x H' y => y.1) nD (by rw [Int.toNat_natCast]; exact small_of (k := 3) r3 (by decide)) (fun i x G n' Q' hi y kp4 d4 h1 h2 q9 => ?_) (fun H4 n4 wd kp4 d4 h1 h2 gw => ?_)
    · rw [Int.toNat_natCast] at hi
      refine ⟨rfl, _, rfl, m, c, g, n', 6, rfl, d4, by omega, by decide, by decide, fun G4 x kp5 d5 x0 x1 => ?_⟩
      exact q9 G4 (n' + 1) _ (.int x) kp5 d5 (by omega) (by omega) (.int x) rfl ⟨x, rfl, x0, by omega⟩
    rw [Int.toNat_natCast] at h2 gw
    obtain ⟨ws, rfl, wb⟩ := ints_of gw.mem
    have wl : ws.length = ranks := by have := gw.len; rw [List.length_map] at this; exact this
    obtain ⟨acc, hD, da⟩ := gw.ex
    obtain rfl := dta_ints da
    -- weights[..] = ..
    refine ⟨_, rfl, m, c, g, n4, 4, rfl, d4, by omega, by decide, by decide, fun H5 x kp5 d5 x0 x1 => ?_⟩
    refine ⟨_, _, rfl, rfl, _, rfl, _, rfl, _, rfl, m, c, g, n4 + 1, (ranks : Int), rfl, d5, by omega, by omega, by omega, fun H6 y kp6 d6 y0 y1 => ?_⟩
    obtain ⟨y, rfl⟩ : ∃ n : Nat, y = (n : Int) := ⟨y.toNat, by omega⟩
    have hD6 := kp6 _ _ (kp5 _ _ hD Dm Dg) Dm Dg
    refine ⟨D, _, _, y, rfl, rfl, hD6, ixN_nat (by rw [List.length_map]; omega), ?_⟩
    have kp6H := ((kp03.trans kp4).trans kp5).trans kp6
    have kp7 := kp_set (o := .lst ((ws.map V.int).set y (.int (1 + x)))) kp6H nDH
    have d7 := d6.set (o := .lst ((ws.map V.int).set y (.int (1 + x)))) Dm Dc Dg
    have hD7 : upd H6 D (.lst ((ws.map V.int).set y (.int (1 + x)))) D = some (.lst ((ws.set y (1 + x)).map V.int)) := by rw [upd_same, List.map_set]
    have wl7 : (ws.set y (1 + x)).length = ranks := by rw [List.length_set]; exact wl
    have wb7 : ∀ z ∈ ws.set y (1 + x), 0 ≤ z ∧ z < 100 := fun z hz => by
      rcases List.mem_or_eq_of_mem_set hz with k1 | k1
      · exact wb z k1
      · rw [k1]; omega
    dsimp only
    generalize upd H6 D (.lst ((ws.map V.int).set y (.int (1 + x)))) = H7 at kp7 d7 hD7 ⊢
    generalize ws.set y (1 + x) = ws7 at hD7 wl7 wb7
    -- read_so
    refine ⟨_, rfl, stands, rfl, by omega, by omega, fun R nR => ?_⟩
    have Rm := d7.ne_m nR
    have Rc := d7.ne_c nR
    have Rg := d7.ne_g nR
    refine lc_draw (walk_range (lo := 0) (n := ((stands : Nat) : Int).toNat)) (k := 3) (fun _ e => RowSo ranks stands e) (by decide) d7 (fun _ _ => trivial) (fun i H x H' y => y.1) nR (by rw [Int.toNat_natCast]; exact small_of (k := 3) s3 (by decide)) (fun i x G n' Q' hi y kp9 d9 h3 h4 q9 => ?_) (fun H8 n8 rd kp8 d8 h3 h4 gr => ?_)
    · rw [Int.toNat_natCast] at hi
      refine ⟨rfl, _, rfl, ranks, rfl, by omega, by omega, fun D2 nD2 => ?_⟩
      refine lc_draw (walk_range (lo := 0) (n := ((ranks : Nat) : Int).toNat)) (k := 1) (fun _ e => ∃ x : Int, e = .int x ∧ 0 ≤ x ∧ x < stands) (by decide) d9 (fun _ _ => trivial) (fun i H x H' y => y.1) nD2 (by rw [Int.toNat_natCast]; exact small_of (k := 3) r3 (by decide)) (fun j x G2 n2 Q2 hj y kp10 d10 h5 h6 q10 => ?_) (fun G2 n2 cd kp10 d10 h5 h6 gc => ?_)
      · rw [Int.toNat_natCast] at hj
        refine ⟨rfl, _, rfl, _, rfl, m, c, g, n2, (stands : Int), rfl, d10, by omega, by omega, by omega, fun G4 x kp5 d5 x0 x1 => ?_⟩
        exact q10 G4 (n2 + 1) _ (.int x) kp5 d5 (by omega) (by omega) (.int x) rfl ⟨x, rfl, x0, x1⟩
      · rw [Int.toNat_natCast] at h6 gc
        obtain ⟨cs, rfl, cb⟩ := ints_of gc.mem
        have cl := gc.len
        rw [List.length_map] at cl
        obtain ⟨acc2, h2, da2⟩ := gc.ex
        obtain rfl := dta_ints da2
        refine ⟨D2, _, rfl, .inl ⟨SqL.of h2, fun l nl => ?_⟩⟩
        have sl := same_upd (o := .tup (cs.map V.int)) nl
        have hl : upd G2 l (.tup (cs.map V.int)) l = some (.tup (cs.map V.int)) := upd_same
        have dl := d10.keep sl
        refine q9 _ n2 (.ref l) (.tuple (cs.map PyData.int)) (kp10.trans (Kp.of sl)) dl h5 (by omega) (.tup hl (Dt.ofTup dl hl).1 (Dt.ofTup dl hl).2 (ints_dt cs)) ?_ ⟨cs, rfl, cl, cb⟩
        show noLA (cs.map PyData.int) = true
        rw [noLA_all]
        simp [noL]
    rw [Int.toNat_natCast] at h4 gr
    -- close_so
    refine ⟨Nat.zero_le _, fun C nC => ?_⟩
    have Cm := d8.ne_m nC
    have Cc := d8.ne_c nC
    have Cg := d8.ne_g nC
    refine ⟨_, rfl, marks, rfl, by omega, by omega, ?_⟩
    have DH : ∀ G, Kp m g H8 G → ∃ acc, G D = some (.lst (ws7.map V.int)) ∧ G R = some (.lst acc) ∧ DtA G m g acc rd := fun G kp => by
      obtain ⟨acc, h, da⟩ := gr.ex
      exact ⟨acc, kp _ _ (kp8 _ _ hD7 Dm Dg) Dm Dg, kp _ _ h Rm Rg, da.keep kp⟩
    refine for_it walk_range (fun i σ G => Kp m g H8 G ∧ (∃ v8 v9 v10, σ = [some (.ref m), some (.int (marks : Nat)), some (.int 3), some (.int (ranks : Nat)), some (.int (stands : Nat)), some (.ref D), some (.ref R), some (.ref C), v8, v9, v10, none, none]) ∧ ∃ (q' : Int) (ds : List PyData), Dr G m c g q' ∧ n8 ≤ q' ∧ q' ≤ n8 + 12 * (i : Nat) ∧ Grow G m g C i (fun _ => PairSo ranks stands) ds)
      ⟨Kp.of (same_upd nC), ⟨_, _, _, rfl⟩, n8, [], d8.set Cm Cc Cg, by omega, by simp, ⟨⟨[], upd_same, .nil⟩, rfl, rfl, fun j d h => by simp at h⟩⟩ (fun _ _ _ _ _ => trivial) ?_ ?_
    · rintro i x σ G0 G hi ⟨kp, ⟨v8, v9, v10, rfl⟩, q', ds, d, qa, qb, gc⟩ ⟨rfl, hx⟩
      refine ⟨_, rfl, stands, rfl, by omega, by omega, fun A nA => ?_⟩
      have Am := d.ne_m nA
      have Ag := d.ne_g nA
      refine lc_draw (walk_range (lo := 0) (n := ((stands : Nat) : Int).toNat)) (k := 2) (fun _ e => isTake ranks takeW e = true) (by decide) d (fun _ _ => trivial) (fun i H x H' y => y.1) nA (by rw [Int.toNat_natCast]; exact small_of (k := 3) s3 (by decide)) (fun j x G1 n' Q' hj y kpa da h5 h6 q9 => ?_) (fun GA nA' dA kpA drA hA kA grA => ?_)
      · rw [Int.toNat_natCast] at hj
        refine ⟨rfl, ?_⟩
        show tTup _ _ _ _
        refine ⟨_, rfl, _, rfl, m, c, g, n', (ranks : Int), rfl, da, by omega, by omega, by omega, fun G5 a kp5 d5 a0 a1 => ?_⟩
        refine ⟨by show 3 ≤ sizeLine; decide, fun z nz => ?_⟩
        have s6 := same_upd (o := .lst [.str "lines", .str "lost", .str "lines"]) nz
        have hz : upd G5 z (.lst [.str "lines", .str "lost", .str "lines"]) z = some (.lst [.str "lines", .str "lost", .str "lines"]) := upd_same
        have d6 := d5.keep s6
        have zm := d5.ne_m nz
        have zg := d5.ne_g nz
        generalize upd G5 z (.lst [.str "lines", .str "lost", .str "lines"]) = G6 at s6 hz d6 ⊢
        refine ⟨_, rfl, m, c, g, n' + 1, 3, rfl, d6, by omega, by decide, by decide, fun G7 b kp7 d7 b0 b1 => ?_⟩
        obtain ⟨wd, hw, iw⟩ := pickW b0 b1
        refine ⟨z, _, _, _, rfl, rfl, SqL.of (kp7 _ _ hz zm zg), hw, by show 2 ≤ sizeLine; decide, fun p np => ?_⟩
        have s8 := same_upd (o := .tup [.int a, .str wd]) np
        have hp : upd G7 p (.tup [.int a, .str wd]) p = some (.tup [.int a, .str wd]) := upd_same
        have d8' := d7.keep s8
        refine q9 _ (n' + 1 + 1) (.ref p) (.tuple [.int a, .str wd]) (((kp5.trans (Kp.of s6)).trans kp7).trans (Kp.of s8)) d8' (by omega) (by omega) (.tup hp (Dt.ofTup d8' hp).1 (Dt.ofTup d8' hp).2 (.cons (.int _) (.cons (.str _) .nil))) rfl ?_
        show (isBt 0 ((ranks : Int) - 1) (.int a) && inW takeW (.str wd)) = true
        rw [iw, Bool.and_true]
        simp [isBt]
        omega
      rw [Int.toNat_natCast] at kA grA
      refine ⟨_, rfl, stands, rfl, by omega, by omega, fun B nB => ?_⟩
      have Bm := drA.ne_m nB
      have Bg := drA.ne_g nB
      refine lc_draw (walk_range (lo := 0) (n := ((stands : Nat) : Int).toNat)) (k := 2) (fun _ e => isTake ranks takeS e = true) (by decide) drA (fun _ _ => trivial) (fun i H x H' y => y.1) nB (by rw [Int.toNat_natCast]; exact small_of (k := 3) s3 (by decide)) (fun j x G1 n' Q' hj y kpa da h5 h6 q9 => ?_) (fun GB nB' dB kpB drB hB kB grB => ?_)
      · rw [Int.toNat_natCast] at hj
        refine ⟨rfl, ?_⟩
        show tTup _ _ _ _
        refine ⟨_, rfl, _, rfl, m, c, g, n', (ranks : Int), rfl, da, by omega, by omega, by omega, fun G5 a kp5 d5 a0 a1 => ?_⟩
        refine ⟨by show 4 ≤ sizeLine; decide, fun z nz => ?_⟩
        have s6 := same_upd (o := .lst [.str "self", .str "lines", .str "self", .str "lost"]) nz
        have hz : upd G5 z (.lst [.str "self", .str "lines", .str "self", .str "lost"]) z = some (.lst [.str "self", .str "lines", .str "self", .str "lost"]) := upd_same
        have d6 := d5.keep s6
        have zm := d5.ne_m nz
        have zg := d5.ne_g nz
        generalize upd G5 z (.lst [.str "self", .str "lines", .str "self", .str "lost"]) = G6 at s6 hz d6 ⊢
        refine ⟨_, rfl, m, c, g, n' + 1, 4, rfl, d6, by omega, by decide, by decide, fun G7 b kp7 d7 b0 b1 => ?_⟩
        obtain ⟨wd, hw, iw⟩ := pickS b0 b1
        refine ⟨z, _, _, _, rfl, rfl, SqL.of (kp7 _ _ hz zm zg), hw, by show 2 ≤ sizeLine; decide, fun p np => ?_⟩
        have s8 := same_upd (o := .tup [.int a, .str wd]) np
        have hp : upd G7 p (.tup [.int a, .str wd]) p = some (.tup [.int a, .str wd]) := upd_same
        have d8' := d7.keep s8
        refine q9 _ (n' + 1 + 1) (.ref p) (.tuple [.int a, .str wd]) (((kp5.trans (Kp.of s6)).trans kp7).trans (Kp.of s8)) d8' (by omega) (by omega) (.tup hp (Dt.ofTup d8' hp).1 (Dt.ofTup d8' hp).2 (.cons (.int _) (.cons (.str _) .nil))) rfl ?_
        show (isBt 0 ((ranks : Int) - 1) (.int a) && inW takeS (.str wd)) = true
        rw [iw, Bool.and_true]
        simp [isBt]
        omega
      rw [Int.toNat_natCast] at kB grB
      obtain ⟨va, ha, dva⟩ := (grA.keep kpB Am Ag).ex
      obtain ⟨vb, hb, dvb⟩ := grB.ex
      have kpG := (kp.trans kpA).trans kpB
      obtain ⟨accC, hC, dC⟩ := ((gc.keep kpA Cm Cg).keep kpB Cm Cg).ex
      refine ⟨_, rfl, .inl ⟨rfl, _, SqL.of hC⟩, ?_⟩
      refine ⟨_, rfl, A, _, rfl, .inl ⟨SqL.of ha, fun l1 nl1 => ?_⟩⟩
      have t1 := same_upd (o := .tup va) nl1
      have g1 : upd GB l1 (.tup va) l1 = some (.tup va) := upd_same
      have e1 := drB.keep t1
      generalize upd GB l1 (.tup va) = K1 at t1 g1 e1 ⊢
      refine ⟨_, rfl, B, _, rfl, .inl ⟨SqL.of (t1 _ _ hb), fun l2 nl2 => ?_⟩⟩
      have t2 := same_upd (o := .tup vb) nl2
      have g2 : upd K1 l2 (.tup vb) l2 = some (.tup vb) := upd_same
      have e2 := e1.keep t2
      generalize upd K1 l2 (.tup vb) = K2 at t2 g2 e2 ⊢
      refine ⟨by show 2 ≤ sizeLine; decide, fun l3 nl3 => ?_⟩
      have t3 := same_upd (o := .tup [.ref l1, .ref l2]) nl3
      have g3 : upd K2 l3 (.tup [.ref l1, .ref l2]) l3 = some (.tup [.ref l1, .ref l2]) := upd_same
      have e3 := e2.keep t3
      generalize upd K2 l3 (.tup [.ref l1, .ref l2]) = K3 at t3 g3 e3 ⊢
      have t13 := (t1.trans t2).trans t3
      have kp3 := kpG.trans (Kp.of t13)
      have D1 : Dt K3 m g (.ref l1) (.tuple dA) := .tup ((t2.trans t3) _ _ g1) (Dt.ofTup e3 ((t2.trans t3) _ _ g1)).1 (Dt.ofTup e3 ((t2.trans t3) _ _ g1)).2 (dva.same t13)
      have D2 : Dt K3 m g (.ref l2) (.tuple dB) := .tup (t3 _ _ g2) (Dt.ofTup e3 (t3 _ _ g2)).1 (Dt.ofTup e3 (t3 _ _ g2)).2 (dvb.same t13)
      have D3 : Dt K3 m g (.ref l3) (.tuple [.tuple dA, .tuple dB]) := .tup g3 (Dt.ofTup e3 g3).1 (Dt.ofTup e3 g3).2 (.cons D1 (.cons D2 .nil))
      have nl : noL (.tuple [.tuple dA, .tuple dB]) = true := by
        simp only [noL, noLA, grA.nl, grB.nl, Bool.and_true]
      have gc3 := ((gc.keep kpA Cm Cg).keep kpB Cm Cg).keep (Kp.of t13) Cm Cg
      refine ⟨C, accC, _, rfl, rfl, t13 _ _ hC, by rw [dC.len, gc.len]; exact small_of (k := 3) (by omega) (by decide), kp_set kp3 nC, ⟨_, _, _, rfl⟩, nB', _, e3.set Cm Cc Cg, by omega, by omega, gc3.put D3 nl ⟨dA, dB, rfl, grA.len, grB.len, grA.mem, grB.mem⟩ accC (t13 _ _ hC)⟩
    · rintro σ G ⟨kp, ⟨v8, v9, v10, rfl⟩, q', ds, d, qa, qb, gc⟩
      rw [Int.toNat_natCast] at qb gc
      obtain ⟨accR, hDG, hRG, dR⟩ := DH G kp
      obtain ⟨accC, hC, dC⟩ := gc.ex
      refine ⟨_, rfl, _, rfl, D, _, rfl, .inl ⟨SqL.of hDG, fun l1 nl1 => ?_⟩⟩
      have t1 := same_upd (o := .tup (ws7.map V.int)) nl1
      have g1 : upd G l1 (.tup (ws7.map V.int)) l1 = some (.tup (ws7.map V.int)) := upd_same
      have e1 := d.keep t1
      generalize upd G l1 (.tup (ws7.map V.int)) = K1 at t1 g1 e1 ⊢
      refine ⟨_, rfl, R, _, rfl, .inl ⟨SqL.of (t1 _ _ hRG), fun l2 nl2 => ?_⟩⟩
      have t2 := same_upd (o := .tup accR) nl2
      have g2 : upd K1 l2 (.tup accR) l2 = some (.tup accR) := upd_same
      have e2 := e1.keep t2
      generalize upd K1 l2 (.tup accR) = K2 at t2 g2 e2 ⊢
      refine ⟨_, rfl, C, _, rfl, .inl ⟨SqL.of ((t1.trans t2) _ _ hC), fun l3 nl3 => ?_⟩⟩
      have t3 := same_upd (o := .tup accC) nl3
      have g3 : upd K2 l3 (.tup accC) l3 = some (.tup accC) := upd_same
      have e3 := e2.keep t3
      generalize upd K2 l3 (.tup accC) = K3 at t3 g3 e3 ⊢
      refine ⟨by show 4 ≤ sizeLine; decide, fun l4 nl4 => ?_⟩
      have t4 := same_upd (o := .tup [.int (marks : Nat), .ref l1, .ref l2, .ref l3]) nl4
      have g4 : upd K3 l4 (.tup [.int (marks : Nat), .ref l1, .ref l2, .ref l3]) l4 = some (.tup [.int (marks : Nat), .ref l1, .ref l2, .ref l3]) := upd_same
      have e4 := e3.keep t4
      generalize upd K3 l4 (.tup [.int (marks : Nat), .ref l1, .ref l2, .ref l3]) = K4 at t4 g4 e4 ⊢
      have t14 := ((t1.trans t2).trans t3).trans t4
      have tup : ∀ {a : Addr} {xs : List V} {es : List PyData}, K4 a = some (.tup xs) → DtA K4 m g xs es → Dt K4 m g (.ref a) (.tuple es) := fun h da => .tup h (Dt.ofTup e4 h).1 (Dt.ofTup e4 h).2 da
      have D1 := tup (((t2.trans t3).trans t4) _ _ g1) (ints_dt ws7)
      have D2 := tup ((t3.trans t4) _ _ g2) (dR.same t14)
      have D3 := tup (t4 _ _ g3) (dC.same t14)
      have D4 := tup g4 (.cons (.int _) (.cons D1 (.cons D2 (.cons D3 .nil))))
      have kpH := (((kp7.trans kp8).trans kp).trans (Kp.of t14))
      exact k (.ref l4) ranks stands ws7 rd ds K4 q' kpH e4 (by omega) (by omega) D4 ⟨m1, m3, r2, r3, s1, s3, wl7, wb7, gr.len, gr.mem, gc.len, gc.mem⟩
end
end Hk
set_option Elab.async false
set_option linter.all false
set_option maxRecDepth 100000
set_option maxHeartbeats 4000000
namespace Hk
open PySem PySem.Spec PyProof.Rows L2
theorem ints_nrow {most high : Int} {cs : List Int} (h1 : (cs.length : Int) ≤ most) (h2 : ∀ x ∈ cs, 0 ≤ x ∧ x ≤ high) : isNRow most high (.tuple (cs.map PyData.int)) = true := by
  show (decide (((cs.map PyData.int).length : Int) ≤ most) && (cs.map PyData.int).all (isBt 0 high)) = true
  rw [List.length_map, decide_eq_true h1, Bool.true_and, List.all_eq_true]
  intro d hd
  obtain ⟨c, hc, rfl⟩ := List.mem_map.mp hd
  have := h2 c hc
  simp [isBt]
  omega
theorem RowSo.row {ranks stands : Nat} {r : PyData} (h : RowSo ranks stands r) : isDRow ranks ((stands : Int) - 1) r = true := by
  obtain ⟨cs, rfl, cl, cb⟩ := h
  unfold isDRow
  rw [ints_nrow (by omega) (fun x hx => by have := cb x hx; omega), Bool.true_and, decide_eq_true_eq]
  show (((cs.map PyData.int).length : Nat) : Int) = ranks
  rw [List.length_map]
  omega
theorem PairSo.pair {ranks stands : Nat} {p : PyData} (h : PairSo ranks stands p) : isDPair stands ranks p = true := by
  obtain ⟨de, li, rfl, h1, h2, h3, h4⟩ := h
  show (isTakes stands ranks takeW (.tuple de) && isTakes stands ranks takeS (.tuple li)) = true
  have e1 : isTakes stands ranks takeW (.tuple de) = true := by
    show (decide ((de.length : Int) = stands) && de.all (isTake ranks takeW)) = true
    rw [decide_eq_true (by omega), Bool.true_and, List.all_eq_true]
    exact h3
  have e2 : isTakes stands ranks takeS (.tuple li) = true := by
    show (decide ((li.length : Int) = stands) && li.all (isTake ranks takeS)) = true
    rw [decide_eq_true (by omega), Bool.true_and, List.all_eq_true]
    exact h4
  rw [e1, e2]
  rfl
section
variable {marks ranks stands : Nat} {ws : List Int} {rd cl : List PyData}
theorem DealSo.wts (h : DealSo marks ranks stands ws rd cl) : isWts (.tuple (ws.map PyData.int)) = true := by
  unfold isWts
  have := h.wl
  have := h.r2
  have := h.r3
  rw [ints_nrow (by omega) (fun x hx => by have := h.wb x hx; omega), Bool.true_and, decide_eq_true_eq]
  show 0 < (ws.map PyData.int).length
  rw [List.length_map]
  omega
theorem DealSo.read (h : DealSo marks ranks stands ws rd cl) : isDRead ranks (.tuple rd) = true := by
  have e := h.rl
  have := h.s1
  have := h.s3
  show (decide (1 ≤ rd.length) && decide (rd.length ≤ 8) && rd.all (isDRow ranks ((rd.length : Int) - 1))) = true
  rw [decide_eq_true (by omega), decide_eq_true (by omega), Bool.true_and, Bool.true_and, List.all_eq_true, e]
  exact fun r hr => (h.rb r hr).row
theorem DealSo.close (h : DealSo marks ranks stands ws rd cl) : isDClose marks stands ranks (.tuple cl) = true := by
  show (decide ((cl.length : Int) = marks) && cl.all (isDPair stands ranks)) = true
  have := h.cl_
  rw [decide_eq_true (by omega), Bool.true_and, List.all_eq_true]
  exact fun p hp => (h.cb p hp).pair
theorem DealSo.lenW (h : DealSo marks ranks stands ws rd cl) : lenOf (.tuple (ws.map PyData.int)) = ranks := by
  show (ws.map PyData.int).length = ranks
  rw [List.length_map, h.wl]
theorem DealSo.mark (h : DealSo marks ranks stands ws rd cl) : isBt 1 3 (.int (marks : Nat)) = true := by
  have := h.m1
  have := h.m3
  simp [isBt]
  omega
/-- the fault of a deal, part by part -/
theorem fault_parts {mk a b c : PyData} (h1 : isBt 1 3 mk = true) : @Eq (Option Str) (dealFault (.tuple [mk, a, b, c])) (if isWts a then if isDRead (lenOf a) b then if isDClose (intOf mk) (lenOf b) (lenOf a) c then none else some "close" else some "read" else some "weights") := by
  show (if isBt 1 3 mk = true then _ else _) = _
  rw [if_pos h1]
theorem DealSo.ok (h : DealSo marks ranks stands ws rd cl) : dealFault (dealD marks ws rd cl) = none := by
  rw [fault_parts h.mark, if_pos h.wts, h.lenW, if_pos h.read]
  show (if isDClose (marks : Nat) (rd.length : Nat) ranks (.tuple cl) = true then _ else _) = _
  rw [h.rl, if_pos h.close]
theorem take_noL {r : Int} {w : List Str} {d : PyData} (h : isTake r w d = true) : noL d = true := by
  unfold isTake at h
  split at h
  · rename_i a b
    rw [Bool.and_eq_true] at h
    cases a <;> simp [isBt] at h
    cases b <;> simp [inW] at h
    rfl
  · cases h
theorem take_okn {r : Int} {w : List Str} {d : PyData} (hw : ∀ x ∈ w, (PyData.str x).canLay0 = true) (h : isTake r w d = true) : OkN 1 d := by
  unfold isTake at h
  split at h
  · rename_i a b
    rw [Bool.and_eq_true] at h
    cases a <;> simp [isBt] at h
    cases b <;> simp [inW] at h
    rename_i i y
    refine okn_tup fun e he => ?_
    simp only [List.mem_cons, List.not_mem_nil, or_false] at he
    rcases he with e1 | e1 <;> subst e1
    · exact okn_int _ _
    · exact okn_str _ (hw _ h.2) _
  · cases h
theorem ints_noLA (cs : List Int) : noLA (cs.map PyData.int) = true := by
  rw [noLA_all]
  simp [noL]
theorem ints_okn (cs : List Int) : OkN 1 (.tuple (cs.map PyData.int)) := okn_tup fun e he => by
  obtain ⟨c, _, rfl⟩ := List.mem_map.mp he
  exact okn_int _ _
theorem layW : (∀ x ∈ takeW, (PyData.str x).canLay0 = true) ∧ ∀ x ∈ takeS, (PyData.str x).canLay0 = true := by decide +kernel
theorem PairSo.okn {p : PyData} (h : PairSo ranks stands p) : OkN 3 p := by
  obtain ⟨de, li, rfl, h1, h2, h3, h4⟩ := h
  refine okn_tup fun e he => ?_
  simp only [List.mem_cons, List.not_mem_nil, or_false] at he
  rcases he with e1 | e1 <;> subst e1
  · exact okn_tup fun e he => take_okn layW.1 (h3 e he)
  · exact okn_tup fun e he => take_okn layW.2 (h4 e he)
theorem RowSo.okn {p : PyData} (h : RowSo ranks stands p) : OkN 1 p := by
  obtain ⟨cs, rfl, _⟩ := h
  exact ints_okn cs
theorem DealSo.okn (h : DealSo marks ranks stands ws rd cl) : OkN 5 (dealD marks ws rd cl) := by
  refine okn_tup fun e he => ?_
  simp only [List.mem_cons, List.not_mem_nil, or_false] at he
  rcases he with e1 | e1 | e1 | e1 <;> subst e1
  · exact okn_int _ _
  · exact (ints_okn ws).mono (by decide)
  · exact (okn_tup (j := 1) fun e he => (h.rb e he).okn).mono (by decide)
  · exact okn_tup fun e he => (h.cb e he).okn
theorem PairSo.noL {p : PyData} (h : PairSo ranks stands p) : noL p = true := by
  obtain ⟨de, li, rfl, h1, h2, h3, h4⟩ := h
  have e1 : noLA de = true := by rw [noLA_all, List.all_eq_true]; exact fun x hx => take_noL (h3 x hx)
  have e2 : noLA li = true := by rw [noLA_all, List.all_eq_true]; exact fun x hx => take_noL (h4 x hx)
  simp only [Hk.noL, noLA, e1, e2, Bool.and_true]
theorem RowSo.noL {p : PyData} (h : RowSo ranks stands p) : noL p = true := by
  obtain ⟨cs, rfl, _⟩ := h
  exact ints_noLA cs
theorem DealSo.noL (h : DealSo marks ranks stands ws rd cl) : noL (dealD marks ws rd cl) = true := by
  have e1 : noLA rd = true := by rw [noLA_all, List.all_eq_true]; exact fun x hx => (h.rb x hx).noL
  have e2 : noLA cl = true := by rw [noLA_all, List.all_eq_true]; exact fun x hx => (h.cb x hx).noL
  simp only [dealD, Hk.noL, noLA, e1, e2, ints_noLA, Bool.and_true]
theorem marks_deal : marksOf (dealD marks ws rd cl) = (marks : Nat) := rfl
end
end Hk
set_option Elab.async false
set_option linter.all false
set_option maxRecDepth 100000
set_option maxHeartbeats 4000000
namespace Hk
open PySem PySem.Spec PyProof.Rows L2
theorem putD_mem {ds : List PyData} {n : Nat} {e x : PyData} (h : x ∈ putD ds n e) : x ∈ ds ∨ x = e := by
  unfold putD at h
  rcases List.mem_append.mp h with h | h
  · rcases List.mem_append.mp h with h | h
    · exact .inl (List.mem_of_mem_take h)
    · exact .inr (List.mem_singleton.mp h)
  · exact .inl (List.mem_of_mem_drop h)
theorem putD_has {ds : List PyData} {n : Nat} {e : PyData} : e ∈ putD ds n e := by
  unfold putD
  simp
theorem putD_len {ds : List PyData} {n : Nat} {e : PyData} (h : n < ds.length) : (putD ds n e).length = ds.length := by
  unfold putD
  simp
  omega
theorem putD_all {ds : List PyData} {n : Nat} {e : PyData} {p : PyData → Bool} (h : p e = false) : (putD ds n e).all p = false := by
  rw [List.all_eq_false]
  exact ⟨e, putD_has, by rw [h]; decide⟩
theorem putD_okn {k : Nat} {ds : List PyData} {n : Nat} {e : PyData} (h : OkN (k + 1) (.tuple ds)) (he : OkN k e) : OkN (k + 1) (.tuple (putD ds n e)) := okn_tup fun x hx => by
  rcases putD_mem hx with z | z
  · exact okn_mem h z
  · rw [z]; exact he
theorem isDRead_bad {r : Int} {ds : List PyData} (h : ds.all (isDRow r ((ds.length : Int) - 1)) = false) : isDRead r (.tuple ds) = false := by
  show (decide (1 ≤ ds.length) && decide (ds.length ≤ 8) && ds.all (isDRow r ((ds.length : Int) - 1))) = false
  rw [h, Bool.and_false]
theorem isTakes_bad {a b : Int} {w : List Str} {ds : List PyData} (h : ds.all (isTake b w) = false) : isTakes a b w (.tuple ds) = false := by
  show (decide ((ds.length : Int) = a) && ds.all (isTake b w)) = false
  rw [h, Bool.and_false]
theorem isTakes_len {a b : Int} {w : List Str} {ds : List PyData} (h : (ds.length : Int) ≠ a) : isTakes a b w (.tuple ds) = false := by
  show (decide ((ds.length : Int) = a) && ds.all (isTake b w)) = false
  rw [decide_eq_false h, Bool.false_and]
theorem isDClose_bad {m a b : Int} {ds : List PyData} (h : ds.all (isDPair a b) = false) : isDClose m a b (.tuple ds) = false := by
  show (decide ((ds.length : Int) = m) && ds.all (isDPair a b)) = false
  rw [h, Bool.and_false]
theorem isDClose_len {m a b : Int} {ds : List PyData} (h : (ds.length : Int) ≠ m) : isDClose m a b (.tuple ds) = false := by
  show (decide ((ds.length : Int) = m) && ds.all (isDPair a b)) = false
  rw [decide_eq_false h, Bool.false_and]
theorem isWts_bad {ds : List PyData} (h : ds.all (isBt 0 99) = false) : isWts (.tuple ds) = false := by
  unfold isWts
  show ((decide ((ds.length : Int) ≤ 8) && ds.all (isBt 0 99)) && _) = false
  rw [h, Bool.and_false, Bool.false_and]
theorem isWts_long {ds : List PyData} (h : 8 < ds.length) : isWts (.tuple ds) = false := by
  unfold isWts
  show ((decide ((ds.length : Int) ≤ 8) && ds.all (isBt 0 99)) && _) = false
  rw [decide_eq_false (by omega), Bool.false_and, Bool.false_and]
section
variable {marks ranks stands : Nat} {ws : List Int} {rd cl : List PyData}
abbrev wsD (ws : List Int) : PyData := .tuple (ws.map PyData.int)
theorem DealSo.fW (h : DealSo marks ranks stands ws rd cl) {a b c : PyData} (ha : isWts a = false) : dealFault (.tuple [.int (marks : Nat), a, b, c]) = some "weights" := by
  rw [fault_parts h.mark, ha]
  rfl
theorem DealSo.fR (h : DealSo marks ranks stands ws rd cl) {b c : PyData} (hb : isDRead ranks b = false) : dealFault (.tuple [.int (marks : Nat), wsD ws, b, c]) = some "read" := by
  rw [fault_parts h.mark, if_pos h.wts, h.lenW, hb]
  rfl
theorem DealSo.fC (h : DealSo marks ranks stands ws rd cl) {c : PyData} (hc : isDClose marks stands ranks c = false) : dealFault (.tuple [.int (marks : Nat), wsD ws, .tuple rd, c]) = some "close" := by
  rw [fault_parts h.mark, if_pos h.wts, h.lenW, if_pos h.read]
  show (if isDClose (marks : Nat) (rd.length : Nat) ranks c = true then _ else _) = _
  rw [h.rl, hc]
  rfl
theorem fForm {mk a b c : PyData} (h : isBt 1 3 mk = false) : dealFault (.tuple [mk, a, b, c]) = some "form" := by
  show @Eq (Option Str) (if isBt 1 3 mk = true then _ else _) _
  rw [h]
  rfl
theorem DealSo.bRow (h : DealSo marks ranks stands ws rd cl) {n : Nat} (hn : n < stands) {r : PyData} (hr : isDRow ranks ((stands : Int) - 1) r = false) : isDRead ranks (.tuple (putD rd n r)) = false := by
  refine isDRead_bad ?_
  rw [putD_len (by rw [h.rl]; exact hn), h.rl]
  exact putD_all hr
theorem rowBad {top : Int} {cs : List PyData} {n : Nat} {e : PyData} (he : isBt 0 top e = false) : isDRow ranks top (.tuple (putD cs n e)) = false := by
  unfold isDRow
  show ((decide (((putD cs n e).length : Int) ≤ (ranks : Int)) && (putD cs n e).all (isBt 0 top)) && _) = false
  rw [putD_all he, Bool.and_false, Bool.false_and]
theorem rowLong {top : Int} {cs : List PyData} (he : cs.length ≠ ranks) : isDRow ranks top (.tuple cs) = false := by
  unfold isDRow
  rw [show decide (((lenOf (.tuple cs) : Nat) : Int) = (ranks : Int)) = false from decide_eq_false (by show ((cs.length : Nat) : Int) ≠ _; omega), Bool.and_false]
theorem pair1 {s r : Int} {x y : PyData} (h : isTakes s r takeW x = false) : isDPair s r (.tuple [x, y]) = false := by
  show (isTakes s r takeW x && isTakes s r takeS y) = false
  rw [h, Bool.false_and]
theorem pair2 {s r : Int} {x y : PyData} (h : isTakes s r takeS y = false) : isDPair s r (.tuple [x, y]) = false := by
  show (isTakes s r takeW x && isTakes s r takeS y) = false
  rw [h, Bool.and_false]
/-- a row of odd deals -/
def OddD (e : PyData) : Prop := ∃ (d : PyData) (wd : Str), e = .tuple [d, .str wd] ∧ OkN 8 d ∧ dealFault d = some wd ∧ wd ∈ (["form", "weights", "read", "close"] : List Str)
theorem odd_bad {odd : PyData} (h : odd ∈ [PyData.none, .bool true, .str "0", .int (-1), .tuple [.int 1], .int 100]) : isBt 0 99 odd = false ∧ OkN 1 odd := by
  simp only [List.mem_cons, List.not_mem_nil, or_false] at h
  rcases h with e | e | e | e | e | e <;> subst e
  · exact ⟨rfl, okn_non _⟩
  · exact ⟨rfl, okn_bl _ _⟩
  · exact ⟨rfl, okn_str _ (by decide +kernel) _⟩
  · exact ⟨rfl, okn_int _ _⟩
  · exact ⟨rfl, ints_okn [1]⟩
  · exact ⟨rfl, okn_int _ _⟩
theorem far_bad {s : Nat} {far : PyData} (h : far ∈ [PyData.int (s : Nat), .int (-1), .none, .bool true]) : isBt 0 ((s : Int) - 1) far = false ∧ OkN 0 far := by
  simp only [List.mem_cons, List.not_mem_nil, or_false] at h
  rcases h with e | e | e | e <;> subst e
  · exact ⟨by simp [isBt]; omega, okn_int _ _⟩
  · exact ⟨rfl, okn_int _ _⟩
  · exact ⟨rfl, okn_non _⟩
  · exact ⟨rfl, okn_bl _ _⟩
end
end Hk
set_option Elab.async false
set_option linter.all false
set_option maxRecDepth 100000
set_option maxHeartbeats 4000000
set_option pp.maxSteps 1500
namespace Hk
open PySem PySem.Spec PyProof.Rows L2
/-- something that is no tuple stands at m -/
def NT (H : Hp) (m : Addr) : Prop := ∃ o, H m = some o ∧ ∀ xs, o ≠ .tup xs
theorem NT.same {H H' : Hp} {m : Addr} (n : NT H m) (s : Same H H') : NT H' m := by
  obtain ⟨o, h, k⟩ := n
  exact ⟨o, s _ _ h, k⟩
theorem NT.ne {H : Hp} {m p : Addr} {xs : List V} (n : NT H m) (h : H p = some (.tup xs)) : p ≠ m := fun z => by
  obtain ⟨o, e, k⟩ := n
  rw [z, e] at h
  exact k xs (Option.some.inj h)
/-- pairs of places that the data does not reach -/
structure Away (H : Hp) (PS : List (Addr × Addr)) : Prop where
  ne : PS ≠ []
  all : ∀ x ∈ PS, NT H x.1 ∧ NT H x.2
theorem Away.same {H H' : Hp} {PS : List (Addr × Addr)} (n : Away H PS) (s : Same H H') : Away H' PS := ⟨n.ne, fun x hx => ⟨(n.all x hx).1.same s, (n.all x hx).2.same s⟩⟩
def DtS (PS : List (Addr × Addr)) (H : Hp) (v : V) (d : PyData) : Prop := ∀ x ∈ PS, Dt H x.1 x.2 v d
def DtAS (PS : List (Addr × Addr)) (H : Hp) (vs : List V) (ds : List PyData) : Prop := ∀ x ∈ PS, DtA H x.1 x.2 vs ds
theorem DtS.same {PS : List (Addr × Addr)} {H H' : Hp} {v : V} {d : PyData} (h : DtS PS H v d) (s : Same H H') : DtS PS H' v d := fun x hx => (h x hx).same s
theorem DtAS.same {PS : List (Addr × Addr)} {H H' : Hp} {vs : List V} {ds : List PyData} (h : DtAS PS H vs ds) (s : Same H H') : DtAS PS H' vs ds := fun x hx => (h x hx).same s
theorem DtS.tup {PS : List (Addr × Addr)} {H : Hp} {v : V} {ds : List PyData} (ne : PS ≠ []) (h : DtS PS H v (.tuple ds)) : ∃ a xs, v = .ref a ∧ H a = some (.tup xs) ∧ DtAS PS H xs ds := by
  cases PS with
  | nil => exact absurd rfl ne
  | cons x0 PS =>
    have h0 := h x0 (by simp)
    cases h0 with
    | @tup a xs _ ha _ _ da =>
    refine ⟨a, xs, rfl, ha, fun x hx => ?_⟩
    have h1 := h x hx
    cases h1 with
    | @tup _ ys _ hb _ _ db =>
    rw [ha] at hb
    cases hb
    exact db
theorem DtS.lst {PS : List (Addr × Addr)} {H : Hp} {v : V} {ds : List PyData} (ne : PS ≠ []) (h : DtS PS H v (.list ds)) : ∃ a xs, v = .ref a ∧ H a = some (.lst xs) ∧ DtAS PS H xs ds := by
  cases PS with
  | nil => exact absurd rfl ne
  | cons x0 PS =>
    have h0 := h x0 (by simp)
    cases h0 with
    | @lst a xs _ ha _ _ da =>
    refine ⟨a, xs, rfl, ha, fun x hx => ?_⟩
    have h1 := h x hx
    cases h1 with
    | @lst _ ys _ hb _ _ db =>
    rw [ha] at hb
    cases hb
    exact db
theorem Away.dt {PS : List (Addr × Addr)} {H : Hp} {a : Addr} {xs : List V} {ds : List PyData} (w : Away H PS) (h : H a = some (.tup xs)) (da : DtAS PS H xs ds) : DtS PS H (.ref a) (.tuple ds) := fun x hx => Dt.tup h ((w.all x hx).1.ne h) ((w.all x hx).2.ne h) (da x hx)
theorem Away.dtL {PS : List (Addr × Addr)} {H H1 : Hp} {a : Addr} {xs : List V} {ds : List PyData} (w : Away H PS) (n : H a = none) (h : H1 a = some (.lst xs)) (da : DtAS PS H1 xs ds) : DtS PS H1 (.ref a) (.list ds) := fun x hx => by
  have ne : ∀ {b : Addr}, NT H b → a ≠ b := fun {b} k z => by
    obtain ⟨o, e, _⟩ := k
    rw [← z, n] at e
    cases e
  exact Dt.lst h (ne (w.all x hx).1) (ne (w.all x hx).2) (da x hx)
theorem DtAS.len {PS : List (Addr × Addr)} {H : Hp} {vs : List V} {ds : List PyData} (ne : PS ≠ []) (h : DtAS PS H vs ds) : vs.length = ds.length := by
  cases PS with
  | nil => exact absurd rfl ne
  | cons x0 PS => exact (h x0 (by simp)).len
section
variable {P : Program} {w : World} {K : PySem.W.Frag} {mg : Str → Option Value} {base : Heap} {CD CF : Addr}
def spPut2 : Sp := fun vs H Q _ => ∃ (v x : V) (ds : List PyData) (e : PyData) (PS : List (Addr × Addr)) (n : Nat), vs = [v, .int (n : Nat), x] ∧ Away H PS ∧ DtS PS H v (.tuple ds) ∧ DtS PS H x e ∧ ds.length ≤ 200 ∧ ∀ (u : V) H', Same H H' → DtS PS H' u (.tuple (putD ds n e)) → Q u H'
theorem ok_law_put2 (T : Txt K mg) (at_ : At K mg "_law_put" s_law_put ["row", "n", "thing"]) : Kn P w K mg base 1 "_law_put" ["row", "n", "thing"] spPut2 := by
  refine Kn.mkN (st := s_law_put) (N := ["row", "n", "thing"]) at_ sc_law_put (fun vs H Q E h => ?_) (fun f cdv A outer s H vs Q E hr free h => ?_)
  · obtain ⟨v, x, ds, e, PS, n, rfl, _⟩ := h
    rfl
  · obtain ⟨v, x, ds, e, PS, n, rfl, aw, dt, ex, short, k⟩ := h
    refine ⟨_, (pss_one (ps_ret (pe_op op_catA (pe_op op_catA (pe_slice sl_tupA (pv 0) po_none (po_some (pv 1))) (pe_tup (pa_cons (pv 2) pa_nil))) (pe_slice sl_tupA (pv 0) (po_some (pe_op op_add (pv 1) pe_int)) po_none)))), ?_⟩
    obtain ⟨a, xs, rfl, ha, da⟩ := dt.tup aw.ne
    have el := da.len aw.ne
    refine ⟨_, rfl, _, rfl, _, rfl, ?_⟩
    refine sl_ok ha fun p1 H2 s2 hp1 => ?_
    refine ⟨_, rfl, by show 1 ≤ sizeLine; decide, fun y ny => ?_⟩
    have s3 := same_upd (o := .tup [x]) ny
    have hy : upd H2 y (.tup [x]) y = some (.tup [x]) := upd_same
    generalize upd H2 y (.tup [x]) = H3 at s3 hy ⊢
    have l1 := cutV_len (xs := xs) (lo := none) (hi := some ((n : Nat) : Int))
    refine cat_tup (s3 _ _ hp1) hy (Nat.le_of_lt (small1000 (by show _ + 1 ≤ 1000; omega))) fun p2 H5 s5 hp2 => ?_
    have s15 := (s2.trans s3).trans s5
    refine ⟨_, rfl, _, rfl, _, _, rfl, rfl, _, rfl, ?_⟩
    refine no_hi ?_
    refine sl_ok (s15 _ _ ha) fun p3 H6 s6 hp3 => ?_
    have l2 := cutV_len (xs := xs) (lo := some (((n : Nat) : Int) + 1)) (hi := none)
    refine cat_tup (s6 _ _ hp2) hp3 (Nat.le_of_lt (small1000 (by rw [List.length_append]; show _ + 1 + _ ≤ 1000; omega))) fun p4 H7 s7 hp4 => ?_
    have s17 := (s15.trans s6).trans s7
    refine k (.ref p4) H7 s17 ((aw.same s17).dt hp4 fun q hq => ?_)
    have da7 := (da q hq).same s17
    have z := ((da7.cut none (some ((n : Nat) : Int))).app (.cons ((ex q hq).same s17) .nil)).app (da7.cut (some (((n : Nat) : Int) + 1)) none)
    unfold cutD at z
    rw [cut_take el.symm, cut_drop el.symm] at z
    exact z
end
end Hk
set_option Elab.async false
set_option linter.all false
set_option maxRecDepth 100000
set_option maxHeartbeats 4000000
namespace Hk
open PySem PySem.Spec PyProof.Rows L2
section
variable {K : PySem.W.Frag} {H0 : Hp} {PS : List (Addr × Addr)} {σ : L2.St}
/-- a term that makes the data d, wherever what stands in H0 stands -/
def Mk (PS : List (Addr × Addr)) (H0 : Hp) (σ : L2.St) (te : TE) (d : PyData) : Prop := ∀ (H : Hp) (Q : VK), Same H0 H → (∀ v H', Same H H' → DtS PS H' v d → Q v H') → te σ H Q
def MkA (PS : List (Addr × Addr)) (H0 : Hp) (σ : L2.St) (ta : TA) (ds : List PyData) : Prop := ∀ (H : Hp) (Q : List V → Hp → Prop), Same H0 H → (∀ vs H', Same H H' → DtAS PS H' vs ds → Q vs H') → ta σ H Q
theorem mk_var {i : Nat} {v : V} {d : PyData} (h : σ[i]? = some (some v)) (dt : DtS PS H0 v d) : Mk PS H0 σ (tVar i) d := fun H Q s k => ⟨v, h, k v H (Same.refl H) (dt.same s)⟩
theorem mk_int (n : Int) : Mk PS H0 σ (tC (.int n)) (.int n) := fun H Q s k => k _ H (Same.refl H) fun _ _ => .int n
theorem mk_str (n : Str) : Mk PS H0 σ (tC (.str n)) (.str n) := fun H Q s k => k _ H (Same.refl H) fun _ _ => .str n
theorem mk_bl (n : Bool) : Mk PS H0 σ (tC (.bl n)) (.bool n) := fun H Q s k => k _ H (Same.refl H) fun _ _ => .bl n
theorem mk_non : Mk PS H0 σ (tC .non) .none := fun H Q s k => k _ H (Same.refl H) fun _ _ => .non
theorem mk_neg (n : Int) : Mk PS H0 σ (tUn (rU fun i => V.int (-i)) (tC (.int n))) (.int (-n)) := fun H Q s k => ⟨n, rfl, k _ H (Same.refl H) fun _ _ => .int (-n)⟩
theorem mkA_nil : MkA PS H0 σ tNil [] := fun H Q s k => k [] H (Same.refl H) fun _ _ => .nil
theorem mkA_cons {te : TE} {ta : TA} {d : PyData} {ds : List PyData} (h : Mk PS H0 σ te d) (r : MkA PS H0 σ ta ds) : MkA PS H0 σ (tCons te ta) (d :: ds) := fun H Q s k =>
  h H _ s fun v H1 s1 d1 => r H1 _ (s.trans s1) fun vs H2 s2 d2 => k (v :: vs) H2 (s1.trans s2) fun x hx => .cons ((d1 x hx).same s2) (d2 x hx)
theorem mk_tup {ta : TA} {ds : List PyData} (aw : Away H0 PS) (h : MkA PS H0 σ ta ds) (small : ds.length ≤ 1000) : Mk PS H0 σ (tTup ta) (.tuple ds) := fun H Q s k =>
  h H _ s fun vs H1 s1 d1 => ⟨by rw [d1.len aw.ne]; exact Nat.le_trans small (by decide), fun p np => by
    have s2 := same_upd (o := .tup vs) np
    exact k _ _ (s1.trans s2) (((aw.same (s.trans s1)).same s2).dt upd_same (d1.same s2))⟩
theorem mk_lst {ta : TA} {ds : List PyData} (aw : Away H0 PS) (h : MkA PS H0 σ ta ds) (small : ds.length ≤ 1000) : Mk PS H0 σ (tLst ta) (.list ds) := fun H Q s k =>
  h H _ s fun vs H1 s1 d1 => ⟨by rw [d1.len aw.ne]; exact Nat.le_trans small (by decide), fun p np => by
    have s2 := same_upd (o := .lst vs) np
    exact k _ _ (s1.trans s2) ((aw.same (s.trans s1)).dtL np upd_same (d1.same s2))⟩
theorem mk_put {ta tn tx : TE} {ds : List PyData} {n : Nat} {e : PyData} {X : XK} (aw : Away H0 PS) (ha : Mk PS H0 σ ta (.tuple ds)) (hn : Mk PS H0 σ tn (.int (n : Nat))) (hx : Mk PS H0 σ tx e) (small : ds.length ≤ 200) : Mk PS H0 σ (tCall spPut2 [] X (tCons ta (tCons tn (tCons tx tNil)))) (.tuple (putD ds n e)) := fun H Q s k =>
  ha H _ s fun v H1 s1 d1 => hn H1 _ (s.trans s1) fun vn H2 s2 d2 => hx H2 _ ((s.trans s1).trans s2) fun vx H3 s3 d3 => by
    obtain rfl : vn = .int (n : Nat) := by
      obtain ⟨x, hx⟩ : ∃ x, x ∈ PS := by
        cases PS with
        | nil => exact absurd rfl aw.ne
        | cons x _ => exact ⟨x, by simp⟩
      have z := d2 x hx
      cases z
      rfl
    exact ⟨v, vx, ds, e, PS, n, rfl, aw.same (((s.trans s1).trans s2).trans s3), d1.same (s2.trans s3), d3, small, fun u H4 s4 d4 => k u H4 (((s1.trans s2).trans s3).trans s4) d4⟩
theorem DtS.int {n : Int} {v : V} {H : Hp} (ne : PS ≠ []) (h : DtS PS H v (.int n)) : v = .int n := by
  cases PS with
  | nil => exact absurd rfl ne
  | cons x _ =>
    have z := h x (by simp)
    cases z
    rfl
theorem mk_cat {ta tb : TE} {ds es : List PyData} (aw : Away H0 PS) (ha : Mk PS H0 σ ta (.tuple ds)) (hb : Mk PS H0 σ tb (.tuple es)) (small : ds.length + es.length ≤ 1000) : Mk PS H0 σ (tOp (rCatA K) ta tb) (.tuple (ds ++ es)) := fun H Q s k =>
  ha H _ s fun v H1 s1 d1 => hb H1 _ (s.trans s1) fun u H2 s2 d2 => by
    obtain ⟨a, xs, rfl, ha, da⟩ := (d1.same s2).tup aw.ne
    obtain ⟨b, ys, rfl, hb, db⟩ := d2.tup aw.ne
    have s12 := s.trans (s1.trans s2)
    have aw2 := aw.same s12
    refine cat_tup ha hb (Nat.le_trans (m := 1000) (by rw [da.len aw.ne, db.len aw.ne]; exact small) (by decide)) fun p H3 s3 hp => ?_
    exact k _ H3 ((s1.trans s2).trans s3) ((aw2.same s3).dt hp fun x hx => ((da x hx).same s3).app ((db x hx).same s3))
theorem mk_catL {ta tb : TE} {ds es : List PyData} (aw : Away H0 PS) (ha : Mk PS H0 σ ta (.list ds)) (hb : Mk PS H0 σ tb (.list es)) (small : ds.length + es.length ≤ 1000) : Mk PS H0 σ (tOp rCat ta tb) (.list (ds ++ es)) := fun H Q s k =>
  ha H _ s fun v H1 s1 d1 => hb H1 _ (s.trans s1) fun u H2 s2 d2 => by
    obtain ⟨a, xs, rfl, ha, da⟩ := (d1.same s2).lst aw.ne
    obtain ⟨b, ys, rfl, hb, db⟩ := d2.lst aw.ne
    have s12 := s.trans (s1.trans s2)
    have aw2 := aw.same s12
    refine ⟨a, b, xs, ys, rfl, rfl, ha, hb, Nat.le_trans (m := 1000) (by rw [da.len aw.ne, db.len aw.ne]; exact small) (by decide), fun p np => ?_⟩
    have s3 := same_upd (o := .lst (xs ++ ys)) np
    exact k _ _ ((s1.trans s2).trans s3) (aw2.dtL np upd_same fun x hx => ((da x hx).same s3).app ((db x hx).same s3))
theorem DtAS.rep {H : Hp} {xs : List V} {ds : List PyData} (h : DtAS PS H xs ds) : ∀ n, DtAS PS H (List.replicate n xs).flatten (List.replicate n ds).flatten
  | 0 => fun x hx => .nil
  | n + 1 => fun x hx => by
    rw [List.replicate_succ, List.replicate_succ, List.flatten_cons, List.flatten_cons]
    exact (h x hx).app (DtAS.rep h n x hx)
theorem mk_rep {ta : TE} {ds : List PyData} {n : Nat} (aw : Away H0 PS) (ha : Mk PS H0 σ ta (.tuple ds)) (h0 : ds ≠ []) (h2 : 2 ≤ n) (h3 : n ≤ 1000) (small : ds.length ≤ 1000) : Mk PS H0 σ (tOp (rRepT K) ta (tC (.int (n : Nat)))) (.tuple (List.replicate n ds).flatten) := fun H Q s k =>
  ha H _ s fun v H1 s1 d1 => by
    obtain ⟨a, xs, rfl, ha, da⟩ := d1.tup aw.ne
    have aw2 := aw.same (s.trans s1)
    have el := da.len aw.ne
    refine ⟨a, (n : Int), xs, rfl, rfl, SqT.of ha, fun z => h0 (List.length_eq_zero_iff.mp (by rw [← el, z]; rfl)), by omega, by omega, by omega, fun p np => ?_⟩
    have s3 := same_upd (o := .tup (List.replicate (n : Int).toNat xs).flatten) np
    exact k _ _ (s1.trans s3) ((aw2.same s3).dt upd_same fun x hx => by rw [Int.toNat_natCast]; exact (((da.same s3).rep n) x hx))
theorem mk_ix {ta ti : TE} {ds : List PyData} {j : Nat} {e : PyData} (aw : Away H0 PS) (ha : Mk PS H0 σ ta (.tuple ds)) (hi : Mk PS H0 σ ti (.int (j : Nat))) (he : ds[j]? = some e) : Mk PS H0 σ (tOp (rIxT K) ta ti) e := fun H Q s k =>
  ha H _ s fun v H1 s1 d1 => hi H1 _ (s.trans s1) fun u H2 s2 d2 => by
    obtain rfl := d2.int aw.ne
    obtain ⟨a, xs, rfl, ha, da⟩ := (d1.same s2).tup aw.ne
    obtain ⟨y, hy⟩ : ∃ y, xs[j]? = some y := ⟨_, List.getElem?_eq_getElem (by rw [da.len aw.ne]; exact (List.getElem?_eq_some_iff.mp he).1)⟩
    refine ⟨a, xs, _, y, rfl, rfl, SqT.of ha, atI_nat hy, k y H2 (s1.trans s2) fun x hx => ?_⟩
    obtain ⟨d, hd, dd⟩ := (da x hx).at' hy
    rw [he] at hd
    cases hd
    exact dd
theorem mk_list {ta : TE} {ds : List PyData} {r : List V → Hp → VK → Prop} (aw : Away H0 PS) (hr : ∀ {a : Addr} {xs : List V} {H : Hp} {Q : VK}, H a = some (.tup xs) → (∀ l, H l = none → Q (.ref l) (upd H l (.lst xs))) → r [.ref a] H Q) (ha : Mk PS H0 σ ta (.tuple ds)) : Mk PS H0 σ (tCB r (tCons ta tNil)) (.list ds) := fun H Q s k =>
  ha H _ s fun v H1 s1 d1 => by
    obtain ⟨a, xs, rfl, ha, da⟩ := d1.tup aw.ne
    have aw2 := aw.same (s.trans s1)
    refine hr ha fun p np => ?_
    have s3 := same_upd (o := .lst xs) np
    exact k _ _ (s1.trans s3) (aw2.dtL np upd_same (da.same s3))
theorem mk_len {ta : TE} {ds : List PyData} {r : List V → Hp → VK → Prop} (aw : Away H0 PS) (hr : ∀ {a : Addr} {xs : List V} {H : Hp} {Q : VK}, H a = some (.tup xs) → Q (.int xs.length) H → r [.ref a] H Q) (ha : Mk PS H0 σ ta (.tuple ds)) : Mk PS H0 σ (tCB r (tCons ta tNil)) (.int (ds.length : Nat)) := fun H Q s k =>
  ha H _ s fun v H1 s1 d1 => by
    obtain ⟨a, xs, rfl, ha, da⟩ := d1.tup aw.ne
    refine hr ha ?_
    rw [da.len aw.ne]
    exact k _ _ s1 fun _ _ => .int _
end
end Hk
set_option Elab.async false
set_option linter.all false
set_option maxRecDepth 100000
set_option maxHeartbeats 8000000
set_option pp.maxSteps 3000
namespace Hk
open PySem PySem.Spec PyProof.Rows L2
theorem peelN {te : TE} {tg : TG} {u : TS} {D : Ends} {σ : L2.St} {H : Hp} {r : VK} {b c : L2.St → Hp → Prop} (h : te σ H fun x H1 => tg x σ H1 (u D)) : ({ nx := tSeq (tAsg te tg) u D, rt := r, bk := b, ct := c } : Ends).nx σ H := h
theorem opA {r : R2} {a b : TE} {σ : L2.St} {H : Hp} {Q : VK} (h : a σ H fun x H1 => b σ H1 fun y H2 => r x y H2 Q) : tOp r a b σ H Q := h
theorem peelG {i : Nat} {v : V} {te : TE} {tg : TG} {u : TS} {D : Ends} {σ : L2.St} {H : Hp} (h : te (σ.set i (some v)) H fun x H1 => tg x (σ.set i (some v)) H1 (u D)) : gName i v σ H (tSeq (tAsg te tg) u D) := h
theorem peelG2 {i : Nat} {v : V} {te : TE} {tg : TG} {u : TS} {D : Ends} {σ σ' : L2.St} {H : Hp} (e : σ.set i (some v) = σ') (h : te σ' H fun x H1 => tg x σ' H1 (u D)) : gName i v σ H (tSeq (tAsg te tg) u D) := by
  subst e
  exact h
section
variable {K : PySem.W.Frag} {H0 : Hp} {PS : List (Addr × Addr)} {σ : L2.St}
theorem Mk.mono {H1 : Hp} {te : TE} {d : PyData} (h : Mk PS H0 σ te d) (s : Same H0 H1) : Mk PS H1 σ te d := fun H Q s1 k => h H Q (s.trans s1) k
theorem mk_row {te : TE} {d : PyData} (aw : Away H0 PS) (wd : Str) (h : Mk PS H0 σ te d) : Mk PS H0 σ (tTup (tCons te (tCons (tC (.str wd)) tNil))) (.tuple [d, .str wd]) := mk_tup aw (mkA_cons h (mkA_cons (mk_str _) mkA_nil)) (Nat.le_of_ble_eq_true rfl)
theorem mk_emp (aw : Away H0 PS) : Mk PS H0 σ (tTup tNil) (.tuple []) := mk_tup aw mkA_nil (Nat.le_of_ble_eq_true rfl)
end
mutual
theorem Dt.fresh {H : Hp} {m g D : Addr} (n : H D = none) : ∀ {v : V} {d : PyData}, Dt H m g v d → Dt H D D v d
  | _, _, .non => .non
  | _, _, .bl b => .bl b
  | _, _, .int i => .int i
  | _, _, .str x => .str x
  | _, _, .lst h _ _ a => .lst h (fun z => by rw [z, n] at h; cases h) (fun z => by rw [z, n] at h; cases h) (DtA.fresh n a)
  | _, _, .tup h _ _ a => .tup h (fun z => by rw [z, n] at h; cases h) (fun z => by rw [z, n] at h; cases h) (DtA.fresh n a)
theorem DtA.fresh {H : Hp} {m g D : Addr} (n : H D = none) : ∀ {vs : List V} {ds : List PyData}, DtA H m g vs ds → DtA H D D vs ds
  | _, _, .nil => .nil
  | _, _, .cons h t => .cons (Dt.fresh n h) (DtA.fresh n t)
end
mutual
theorem Dt.both {H : Hp} {m g D : Addr} {o : HO} : ∀ {v : V} {d : PyData}, Dt H m g v d → Dt H D D v d → Dt (upd H D o) m g v d
  | _, _, .non, _ => .non
  | _, _, .bl b, _ => .bl b
  | _, _, .int i, _ => .int i
  | _, _, .str x, _ => .str x
  | _, _, .lst h h1 h2 a, .lst k k1 _ b => .lst (by rw [upd_ne k1]; exact h) h1 h2 (DtA.both a (by rw [h] at k; cases k; exact b))
  | _, _, .tup h h1 h2 a, .tup k k1 _ b => .tup (by rw [upd_ne k1]; exact h) h1 h2 (DtA.both a (by rw [h] at k; cases k; exact b))
theorem DtA.both {H : Hp} {m g D : Addr} {o : HO} : ∀ {vs : List V} {ds : List PyData}, DtA H m g vs ds → DtA H D D vs ds → DtA (upd H D o) m g vs ds
  | _, _, .nil, _ => .nil
  | _, _, .cons h t, .cons k u => .cons (Dt.both h k) (DtA.both t u)
end
theorem kp_self {H : Hp} {D : Addr} {o : HO} : Kp D D H (upd H D o) := fun x _ h n _ => by
  rw [upd_ne n]
  exact h
theorem two {m g D : Addr} {H : Hp} {v : V} {d : PyData} : DtS [(m, g), (D, D)] H v d ↔ Dt H m g v d ∧ Dt H D D v d := by
  refine ⟨fun h => ⟨h (m, g) (by simp), h (D, D) (by simp)⟩, fun h x hx => ?_⟩
  simp only [List.mem_cons, List.not_mem_nil, or_false] at hx
  rcases hx with z | z <;> rw [z]
  · exact h.1
  · exact h.2
theorem twoA {m g D : Addr} {H : Hp} {v : List V} {d : List PyData} : DtAS [(m, g), (D, D)] H v d ↔ DtA H m g v d ∧ DtA H D D v d := by
  refine ⟨fun h => ⟨h (m, g) (by simp), h (D, D) (by simp)⟩, fun h x hx => ?_⟩
  simp only [List.mem_cons, List.not_mem_nil, or_false] at hx
  rcases hx with z | z <;> rw [z]
  · exact h.1
  · exact h.2
theorem two_put {m g D : Addr} {H : Hp} {v : V} {d : PyData} {o : HO} (h : DtS [(m, g), (D, D)] H v d) : DtS [(m, g), (D, D)] (upd H D o) v d := two.mpr ⟨(two.mp h).1.both (two.mp h).2, (two.mp h).2.keep kp_self⟩
theorem twoA_put {m g D : Addr} {H : Hp} {v : List V} {d : List PyData} {o : HO} (h : DtAS [(m, g), (D, D)] H v d) : DtAS [(m, g), (D, D)] (upd H D o) v d := twoA.mpr ⟨(twoA.mp h).1.both (twoA.mp h).2, (twoA.mp h).2.keep kp_self⟩
theorem two_new {m g D : Addr} {H : Hp} {v : V} {d : PyData} (h : Dt H m g v d) (n : H D = none) : DtS [(m, g), (D, D)] H v d := two.mpr ⟨h, h.fresh n⟩
theorem two_away {m g D : Addr} {H : Hp} {xs : List V} (w : Away H [(m, g)]) (h : H D = some (.lst xs)) : Away H [(m, g), (D, D)] := by
  have a := w.all (m, g) (by simp)
  refine ⟨by simp, fun x hx => ?_⟩
  simp only [List.mem_cons, List.not_mem_nil, or_false] at hx
  rcases hx with z | z <;> rw [z]
  · exact a
  · exact ⟨⟨_, h, fun xs z => by cases z⟩, ⟨_, h, fun xs z => by cases z⟩⟩
theorem twoA_snoc {m g D : Addr} {H : Hp} {vs : List V} {v : V} {ds : List PyData} {d : PyData} (h : DtAS [(m, g), (D, D)] H vs ds) (k : DtS [(m, g), (D, D)] H v d) : DtAS [(m, g), (D, D)] H (vs ++ [v]) (ds ++ [d]) := fun x hx => (h x hx).snoc (k x hx)
theorem peelS {te : TE} {tg : TG} {u : TS} {D : Ends} {σ σ' : L2.St} {H : Hp} (e : σ = σ') (h : te σ' H fun x H1 => tg x σ' H1 (u D)) : tSeq (tAsg te tg) u D σ H := by
  subst e
  exact h
theorem isDRead_long {r : Int} {ds : List PyData} (h : 8 < ds.length) : isDRead r (.tuple ds) = false := by
  show (decide (1 ≤ ds.length) && decide (ds.length ≤ 8) && ds.all (isDRow r ((ds.length : Int) - 1))) = false
  rw [decide_eq_false (p := ds.length ≤ 8) (by omega), Bool.and_false, Bool.false_and]
theorem peelApp {K : PySem.W.Frag} {i j : Nat} {v : V} {p : Addr} {xs : List V} {te : TE} {u : TS} {D : Ends} {σ σ' : L2.St} {H : Hp} (e : σ.set i (some v) = σ') (hv : σ'[j]? = some (some (.ref p))) (hp : H p = some (.lst xs)) (h : te σ' H fun x H1 => rAppend (.ref p) [x] H1 fun _ H2 => u D σ' H2) : gName i v σ H (tSeq (tDrop (tBM K "list" rAppend (tVar j) (tCons te tNil))) u D) := by
  subst e
  exact ⟨_, hv, .inl ⟨rfl, _, SqL.of hp⟩, h⟩
theorem peelApp2 {K : PySem.W.Frag} {j : Nat} {p : Addr} {xs : List V} {te : TE} {u : TS} {D : Ends} {σ : L2.St} {H : Hp} (hv : σ[j]? = some (some (.ref p))) (hp : H p = some (.lst xs)) (h : te σ H fun x H1 => rAppend (.ref p) [x] H1 fun _ H2 => u D σ H2) : tSeq (tDrop (tBM K "list" rAppend (tVar j) (tCons te tNil))) u D σ H :=
  ⟨_, hv, .inl ⟨rfl, _, SqL.of hp⟩, h⟩
theorem Dr.nt {H : Hp} {m c g : Addr} {n : Int} (d : Dr H m c g n) : Away H [(m, g)] := by
  obtain ⟨gs, hg, _⟩ := d.hg
  refine ⟨by simp, fun x hx => ?_⟩
  rw [List.mem_singleton.mp hx]
  exact ⟨⟨_, d.hm, fun xs z => by cases z⟩, ⟨_, hg, fun xs z => by cases z⟩⟩
theorem pick_ix {K : PySem.W.Frag} {H : Hp} {m g : Addr} {v : V} {ds : List PyData} {r : Int} {Q : VK} (h : Dt H m g v (.list ds)) (h0 : 0 ≤ r) (h1 : r < ds.length) (k : ∀ u d, d ∈ ds → Dt H m g u d → Q u H) : rIxL K v (.int r) H Q := by
  cases h with
  | @lst a xs _ ha _ _ da =>
  obtain ⟨j, rfl⟩ : ∃ n : Nat, r = (n : Int) := ⟨r.toNat, by omega⟩
  obtain ⟨y, hy⟩ : ∃ y, xs[j]? = some y := ⟨_, List.getElem?_eq_getElem (by rw [da.len]; omega)⟩
  obtain ⟨d, hd, dd⟩ := da.at' hy
  exact ⟨a, xs, _, y, rfl, rfl, SqL.of ha, atI_nat hy, k y d (List.mem_of_getElem? hd) dd⟩
section
variable {P : Program} {w : World} {K : PySem.W.Frag} {mg : Str → Option Value} {base : Heap} {CD CF B fI fJ fB : Addr}
abbrev s_law_odd_deals : Stmt := top 53
theorem sc_law_odd_deals : FnScope ["m", "deal", "marks", "weights", "read_so", "close_so", "odd", "stand", "rank", "mark", "far", "rows", "dead", "living", "bent", "one"] ["m", "deal"] (defScope s_law_odd_deals) := ⟨rfl, rfl, rfl, by decide +kernel, rfl, by decide +kernel, by decide +kernel⟩
def spOddD : Sp := fun vs H Q _ => ∃ (m c g : Addr) (q : Int) (v : V) (marks ranks stands : Nat) (ws : List Int) (rd cl : List PyData), vs = [.ref m, v] ∧ Dr H m c g q ∧ q < 100000 ∧ Dt H m g v (dealD marks ws rd cl) ∧ DealSo marks ranks stands ws rd cl ∧
  ∀ (p : Addr) (xs : List V) (rows : List PyData) H' (q' : Int), Kp m g H H' → Dr H' m c g q' → q ≤ q' → q' ≤ q + 5 → H' p = some (.lst xs) → p ≠ m → p ≠ g → DtA H' m g xs rows → (∀ e ∈ rows, OddD e) → rows.length ≤ 40 → Q (.ref p) H'
theorem ok_law_odd_deals (T : Txt K mg) (k_law_draw : Kn P w K mg base 2 "_law_draw" ["m", "limit"] sp_draw) (k_law_put : Kn P w K mg base 1 "_law_put" ["row", "n", "thing"] spPut2) (at_ : At K mg "_law_odd_deals" s_law_odd_deals ["m", "deal"]) : Kn P w K mg base 3 "_law_odd_deals" ["m", "deal"] spOddD := by
  refine Kn.mkN (st := s_law_odd_deals) (N := ["m", "deal", "marks", "weights", "read_so", "close_so", "odd", "stand", "rank", "mark", "far", "rows", "dead", "living", "bent", "one"]) at_ sc_law_odd_deals (fun vs H Q E h => ?_) (fun f cdv A outer s H vs Q E hr free h => ?_)
  · obtain ⟨m, c, g, q, v, marks, ranks, stands, ws, rd, cl, rfl, _⟩ := h
    rfl
  · obtain ⟨m, c, g, q, v, marks, ranks, stands, ws, rd, cl, rfl, dr, q0, dv, so, k⟩ := h
    refine ⟨_, (pss_cons (ps_asg (pv 1) (pg_tup rfl (pgs_cons (pg_name (i := 2) sc_law_odd_deals.nd rfl (Or.inl rfl)) (pgs_cons (pg_name (i := 3) sc_law_odd_deals.nd rfl (Or.inl rfl)) (pgs_cons (pg_name (i := 4) sc_law_odd_deals.nd rfl (Or.inl rfl)) (pgs_cons (pg_name (i := 5) sc_law_odd_deals.nd rfl (Or.inr rfl)) pgs_nil)))))) (pss_cons (ps_set (i := 6) sc_law_odd_deals.nd rfl (Or.inl rfl) (pe_ix ix_list (pe_lst (pa_cons pe_non (pa_cons pe_bl (pa_cons pe_str (pa_cons (pe_un un_neg pe_int) (pa_cons (pe_tup (pa_cons pe_int pa_nil)) (pa_cons pe_int pa_nil))))))) (pe_callN k_law_draw free (hr.mono (by decide)) rfl passL (pa_cons (pv 0) (pa_cons pe_int pa_nil))) (fun _ _ => rfl))) (pss_cons (ps_asg (pe_tup (pa_cons (pe_callN k_law_draw free (hr.mono (by decide)) rfl passL (pa_cons (pv 0) (pa_cons (pe_callB (id := "len") call_len_seq (by rfl) T.b_len (by decide +kernel) (pa_cons (pv 4) pa_nil)) pa_nil))) (pa_cons (pe_callN k_law_draw free (hr.mono (by decide)) rfl passL (pa_cons (pv 0) (pa_cons (pe_callB (id := "len") call_len_seq (by rfl) T.b_len (by decide +kernel) (pa_cons (pv 3) pa_nil)) pa_nil))) (pa_cons (pe_callN k_law_draw free (hr.mono (by decide)) rfl passL (pa_cons (pv 0) (pa_cons (pv 2) pa_nil))) pa_nil)))) (pg_tup rfl (pgs_cons (pg_name (i := 7) sc_law_odd_deals.nd rfl (Or.inl rfl)) (pgs_cons (pg_name (i := 8) sc_law_odd_deals.nd rfl (Or.inl rfl)) (pgs_cons (pg_name (i := 9) sc_law_odd_deals.nd rfl (Or.inr rfl)) pgs_nil))))) (pss_cons (ps_set (i := 10) sc_law_odd_deals.nd rfl (Or.inl rfl) (pe_ix ix_list (pe_lst (pa_cons (pe_callB (id := "len") call_len_seq (by rfl) T.b_len (by decide +kernel) (pa_cons (pv 4) pa_nil)) (pa_cons (pe_un un_neg pe_int) (pa_cons pe_non (pa_cons pe_bl pa_nil))))) (pe_callN k_law_draw free (hr.mono (by decide)) rfl passL (pa_cons (pv 0) (pa_cons pe_int pa_nil))) (fun _ _ => rfl))) (pss_cons (ps_set (i := 11) sc_law_odd_deals.nd rfl (Or.inl rfl) (pe_lst (pa_cons (pe_tup (pa_cons pe_non (pa_cons pe_str pa_nil))) (pa_cons (pe_tup (pa_cons (pe_op op_catA (pv 1) (pe_tup (pa_cons pe_int pa_nil))) (pa_cons pe_str pa_nil))) (pa_cons (pe_tup (pa_cons (pe_callTy call_list_of (by rfl) T.b_list (by decide +kernel) (pa_cons (pv 1) pa_nil)) (pa_cons pe_str pa_nil))) (pa_cons (pe_tup (pa_cons (pe_callN k_law_put free (hr.mono (by decide)) rfl passL (pa_cons (pv 1) (pa_cons pe_int (pa_cons pe_int pa_nil)))) (pa_cons pe_str pa_nil))) (pa_cons (pe_tup (pa_cons (pe_callN k_law_put free (hr.mono (by decide)) rfl passL (pa_cons (pv 1) (pa_cons pe_int (pa_cons pe_int pa_nil)))) (pa_cons pe_str pa_nil))) pa_nil))))))) (pss_cons (ps_set (i := 11) sc_law_odd_deals.nd rfl (Or.inl rfl) (pe_op op_cat (pv 11) (pe_lst (pa_cons (pe_tup (pa_cons (pe_callN k_law_put free (hr.mono (by decide)) rfl passL (pa_cons (pv 1) (pa_cons pe_int (pa_cons pe_bl pa_nil)))) (pa_cons pe_str pa_nil))) (pa_cons (pe_tup (pa_cons (pe_callN k_law_put free (hr.mono (by decide)) rfl passL (pa_cons (pv 1) (pa_cons pe_int (pa_cons (pe_tup pa_nil) pa_nil)))) (pa_cons pe_str pa_nil))) (pa_cons (pe_tup (pa_cons (pe_callN k_law_put free (hr.mono (by decide)) rfl passL (pa_cons (pv 1) (pa_cons pe_int (pa_cons (pe_op op_repT (pv 3) pe_int) pa_nil)))) (pa_cons pe_str pa_nil))) pa_nil)))))) (pss_cons (ps_set (i := 11) sc_law_odd_deals.nd rfl (Or.inl rfl) (pe_op op_cat (pv 11) (pe_lst (pa_cons (pe_tup (pa_cons (pe_callN k_law_put free (hr.mono (by decide)) rfl passL (pa_cons (pv 1) (pa_cons pe_int (pa_cons (pe_callN k_law_put free (hr.mono (by decide)) rfl passL (pa_cons (pv 3) (pa_cons (pv 8) (pa_cons (pv 6) pa_nil)))) pa_nil)))) (pa_cons pe_str pa_nil))) (pa_cons (pe_tup (pa_cons (pe_callN k_law_put free (hr.mono (by decide)) rfl passL (pa_cons (pv 1) (pa_cons pe_int (pa_cons (pe_callTy call_list_of (by rfl) T.b_list (by decide +kernel) (pa_cons (pv 3) pa_nil)) pa_nil)))) (pa_cons pe_str pa_nil))) pa_nil))))) (pss_cons (ps_set (i := 11) sc_law_odd_deals.nd rfl (Or.inl rfl) (pe_op op_cat (pv 11) (pe_lst (pa_cons (pe_tup (pa_cons (pe_callN k_law_put free (hr.mono (by decide)) rfl passL (pa_cons (pv 1) (pa_cons pe_int (pa_cons (pe_callN k_law_put free (hr.mono (by decide)) rfl passL (pa_cons (pv 4) (pa_cons (pv 7) (pa_cons (pe_callN k_law_put free (hr.mono (by decide)) rfl passL (pa_cons (pe_ix ix_tup (pv 4) (pv 7) (fun _ _ => rfl)) (pa_cons (pv 8) (pa_cons (pv 10) pa_nil)))) pa_nil)))) pa_nil)))) (pa_cons pe_str pa_nil))) (pa_cons (pe_tup (pa_cons (pe_callN k_law_put free (hr.mono (by decide)) rfl passL (pa_cons (pv 1) (pa_cons pe_int (pa_cons (pe_tup pa_nil) pa_nil)))) (pa_cons pe_str pa_nil))) pa_nil))))) (pss_cons (ps_set (i := 11) sc_law_odd_deals.nd rfl (Or.inl rfl) (pe_op op_cat (pv 11) (pe_lst (pa_cons (pe_tup (pa_cons (pe_callN k_law_put free (hr.mono (by decide)) rfl passL (pa_cons (pv 1) (pa_cons pe_int (pa_cons (pe_callN k_law_put free (hr.mono (by decide)) rfl passL (pa_cons (pv 4) (pa_cons (pv 7) (pa_cons (pe_op op_catA (pe_ix ix_tup (pv 4) (pv 7) (fun _ _ => rfl)) (pe_tup (pa_cons pe_int pa_nil))) pa_nil)))) pa_nil)))) (pa_cons pe_str pa_nil))) (pa_cons (pe_tup (pa_cons (pe_callN k_law_put free (hr.mono (by decide)) rfl passL (pa_cons (pv 1) (pa_cons pe_int (pa_cons (pe_op op_repT (pv 4) pe_int) pa_nil)))) (pa_cons pe_str pa_nil))) pa_nil))))) (pss_cons (ps_asg (pe_ix ix_tup (pv 5) (pv 9) (fun _ _ => rfl)) (pg_tup rfl (pgs_cons (pg_name (i := 12) sc_law_odd_deals.nd rfl (Or.inl rfl)) (pgs_cons (pg_name (i := 13) sc_law_odd_deals.nd rfl (Or.inl rfl)) pgs_nil)))) (pss_cons (ps_set (i := 14) sc_law_odd_deals.nd rfl (Or.inl rfl) (pe_lst (pa_cons (pe_tup (pa_cons (pe_callN k_law_put free (hr.mono (by decide)) rfl passL (pa_cons (pv 12) (pa_cons (pv 7) (pa_cons (pe_tup (pa_cons pe_int (pa_cons pe_str pa_nil))) pa_nil)))) (pa_cons (pv 13) pa_nil))) (pa_cons (pe_tup (pa_cons (pe_callN k_law_put free (hr.mono (by decide)) rfl passL (pa_cons (pv 12) (pa_cons (pv 7) (pa_cons (pe_tup (pa_cons (pe_callB (id := "len") call_len_seq (by rfl) T.b_len (by decide +kernel) (pa_cons (pv 3) pa_nil)) (pa_cons pe_str pa_nil))) pa_nil)))) (pa_cons (pv 13) pa_nil))) (pa_cons (pe_tup (pa_cons (pv 12) (pa_cons (pe_op op_catA (pv 13) (pv 13)) pa_nil))) pa_nil))))) (pss_cons (ps_set (i := 14) sc_law_odd_deals.nd rfl (Or.inl rfl) (pe_op op_cat (pv 14) (pe_lst (pa_cons (pe_tup (pa_cons (pv 12) (pa_cons (pe_callN k_law_put free (hr.mono (by decide)) rfl passL (pa_cons (pv 13) (pa_cons (pv 7) (pa_cons (pe_tup (pa_cons pe_int (pa_cons pe_str pa_nil))) pa_nil)))) pa_nil))) (pa_cons (pe_tup (pa_cons (pv 12) (pa_cons (pe_callN k_law_put free (hr.mono (by decide)) rfl passL (pa_cons (pv 13) (pa_cons (pv 7) (pa_cons (pe_tup (pa_cons pe_int pa_nil)) pa_nil)))) pa_nil))) (pa_cons (pe_tup (pa_cons (pv 12) (pa_cons (pe_callTy call_list_of (by rfl) T.b_list (by decide +kernel) (pa_cons (pv 13) pa_nil)) pa_nil))) (pa_cons (pe_tup (pa_cons (pv 12) pa_nil)) (pa_cons pe_non pa_nil)))))))) (pss_cons (ps_set (i := 11) sc_law_odd_deals.nd rfl (Or.inl rfl) (pe_op op_cat (pv 11) (pe_lc (own := [("one", 15)]) (by rfl) sc_law_odd_deals.nd (tt := tYes) (pi_list (pv 14)) (blkOk_by (own := [("one", 15)]) (N := ["m", "deal", "marks", "weights", "read_so", "close_so", "odd", "stand", "rank", "mark", "far", "rows", "dead", "living", "bent", "one"]) (sc := defScope s_law_odd_deals) (by decide +kernel)) (fun _ _ _ _ _ => pg_name (i := 15) sc_law_odd_deals.nd rfl (Or.inl rfl)) (fun _ _ _ _ _ => pts_nil) (fun _ _ _ _ _ => (pe_tup (pa_cons (pe_callN k_law_put free (hr.mono (by decide)) rfl passL (pa_cons (pv 1) (pa_cons pe_int (pa_cons (pe_callN k_law_put free (hr.mono (by decide)) rfl passL (pa_cons (pv 5) (pa_cons (pv 9) (pa_cons (pv 15) pa_nil)))) pa_nil)))) (pa_cons pe_str pa_nil))))))) (pss_cons (ps_expr (pe_bm PySem.F.plainAttrs_list PySem.F.slot_list_append PySem.F.type_list_append mt_append (pv 11) (pa_cons (pe_tup (pa_cons (pe_callN k_law_put free (hr.mono (by decide)) rfl passL (pa_cons (pv 1) (pa_cons pe_int (pa_cons (pe_op op_catA (pv 5) (pv 5)) pa_nil)))) (pa_cons pe_str pa_nil))) pa_nil))) (pss_cons (ps_expr (pe_bm PySem.F.plainAttrs_list PySem.F.slot_list_append PySem.F.type_list_append mt_append (pv 11) (pa_cons (pe_tup (pa_cons (pe_tup (pa_cons (pv 2) (pa_cons (pv 3) (pa_cons (pe_callN k_law_put free (hr.mono (by decide)) rfl passL (pa_cons (pv 4) (pa_cons pe_int (pa_cons pe_non pa_nil)))) (pa_cons pe_non pa_nil))))) (pa_cons pe_str pa_nil))) pa_nil))) (pss_cons (ps_expr (pe_bm PySem.F.plainAttrs_list PySem.F.slot_list_append PySem.F.type_list_append mt_append (pv 11) (pa_cons (pe_tup (pa_cons (pe_tup (pa_cons (pv 2) (pa_cons pe_non (pa_cons pe_non (pa_cons pe_non pa_nil))))) (pa_cons pe_str pa_nil))) pa_nil))) (pss_one (ps_ret (pv 11))))))))))))))))))), ?_⟩
    have mm1 := so.m1
    have mm3 := so.m3
    have rr2 := so.r2
    have rr3 := so.r3
    have ss1 := so.s1
    have ss3 := so.s3
    cases dv with
    | @tup a xs _ ha am ag dx =>
    match xs, dx, ha with
    | [v1, vw, vr, vc], .cons e1 (.cons ew (.cons er (.cons ec .nil))), ha =>
    cases e1
    have dv : Dt H m g (.ref a) (dealD marks ws rd cl) := .tup ha am ag (.cons (.int _) (.cons ew (.cons er (.cons ec .nil))))
    refine ⟨_, rfl, a, _, rfl, SqT.of ha, rfl, _, _, rfl, _, _, rfl, _, _, rfl, _, _, rfl, rfl, ?_⟩
    -- odd
    refine peelN (opA ?_)
    refine mk_lst dr.nt (mkA_cons mk_non (mkA_cons (mk_bl true) (mkA_cons (mk_str "0") (mkA_cons (mk_neg 1) (mkA_cons (mk_tup dr.nt (mkA_cons (mk_int 1) mkA_nil) (by decide)) (mkA_cons (mk_int 100) mkA_nil)))))) (by decide) H _ (Same.refl H) fun v1 H1 s1 d1 => ?_
    have d1 := d1 (m, g) (by simp)
    refine ⟨_, rfl, m, c, g, q, 6, rfl, dr.keep s1, by omega, by decide, by decide, fun H2 r2 kp2 dr2 r20 r21 => ?_⟩
    refine pick_ix (d1.keep kp2) r20 r21 fun vo odd ho eo => ?_
    have kH2 := (Kp.of s1).trans kp2
    -- stand, rank, mark
    have cr := er.keep kH2
    have cw := ew.keep kH2
    obtain ⟨ra, rxs, rfl, hra, dra⟩ : ∃ a xs, vr = .ref a ∧ H2 a = some (.tup xs) ∧ DtA H2 m g xs rd := by
      cases cr with
      | @tup a xs _ h _ _ d => exact ⟨a, xs, rfl, h, d⟩
    obtain ⟨wa, wxs, rfl, hwa, dwa⟩ : ∃ a xs, vw = .ref a ∧ H2 a = some (.tup xs) ∧ DtA H2 m g xs (ws.map PyData.int) := by
      cases cw with
      | @tup a xs _ h _ _ d => exact ⟨a, xs, rfl, h, d⟩
    have lr : rxs.length = stands := by rw [dra.len, so.rl]
    have lw : wxs.length = ranks := by rw [dwa.len, List.length_map, so.wl]
    have pn := Dt.ofTup dr2 hwa
    have pr := Dt.ofTup dr2 hra
    refine ⟨_, rfl, _, rfl, ra, rxs, rfl, .inr (SqT.of hra), m, c, g, q + 1, _, rfl, dr2, by omega, by omega, by omega, fun H3 st kp3 dr3 st0 st1 => ?_⟩
    have hwa3 := kp3 _ _ hwa pn.1 pn.2
    refine ⟨_, rfl, _, rfl, wa, wxs, rfl, .inr (SqT.of hwa3), m, c, g, q + 1 + 1, _, rfl, dr3, by omega, by omega, by omega, fun H4 rk kp4 dr4 rk0 rk1 => ?_⟩
    refine ⟨_, rfl, _, rfl, m, c, g, q + 1 + 1 + 1, (marks : Int), rfl, dr4, by omega, by omega, by omega, fun H5 mk kp5 dr5 mk0 mk1 => ?_⟩
    rw [lr] at st1
    rw [lw] at rk1
    obtain ⟨st, rfl⟩ : ∃ n : Nat, st = (n : Int) := ⟨st.toNat, by omega⟩
    obtain ⟨rk, rfl⟩ : ∃ n : Nat, rk = (n : Int) := ⟨rk.toNat, by omega⟩
    obtain ⟨mk, rfl⟩ : ∃ n : Nat, mk = (n : Int) := ⟨mk.toNat, by omega⟩
    refine ⟨by show 3 ≤ sizeLine; decide, fun p5 np5 => ?_⟩
    have s6 := same_upd (o := .tup [.int (st : Nat), .int (rk : Nat), .int (mk : Nat)]) np5
    have hp5 : upd H5 p5 (.tup [.int (st : Nat), .int (rk : Nat), .int (mk : Nat)]) p5 = some (.tup [.int (st : Nat), .int (rk : Nat), .int (mk : Nat)]) := upd_same
    have dr6 := dr5.keep s6
    generalize upd H5 p5 (.tup [.int (st : Nat), .int (rk : Nat), .int (mk : Nat)]) = H6 at s6 hp5 dr6 ⊢
    refine ⟨p5, _, rfl, SqT.of hp5, rfl, _, _, rfl, _, _, rfl, _, _, rfl, rfl, ?_⟩
    have kH6 := (((kH2.trans kp3).trans kp4).trans kp5).trans (Kp.of s6)
    -- far
    have lenR : ∀ {a : Addr} {xs : List V} {H : Hp} {Q : VK}, H a = some (.tup xs) → Q (.int xs.length) H → rLenQ K [.ref a] H Q := fun h q => ⟨_, _, rfl, .inr (SqT.of h), q⟩
    have vr6 : DtS [(m, g)] H6 (.ref ra) (.tuple rd) := fun x hx => by
      rw [List.mem_singleton.mp hx]
      exact er.keep kH6
    refine peelN (opA ?_)
    refine mk_lst dr6.nt (mkA_cons (mk_len dr6.nt (fun {a xs H Q} => lenR) (mk_var (i := 4) rfl vr6)) (mkA_cons (mk_neg 1) (mkA_cons mk_non (mkA_cons (mk_bl true) mkA_nil)))) (Nat.le_of_ble_eq_true rfl) H6 _ (Same.refl H6) fun v7 H7 s7 d7 => ?_
    have d7 := d7 (m, g) (by simp)
    refine ⟨_, rfl, m, c, g, _, 4, rfl, dr6.keep s7, by omega, by decide, by decide, fun H8 r4 kp8 dr8 r40 r41 => ?_⟩
    refine pick_ix (d7.keep kp8) r40 r41 fun vf far hf ef => ?_
    have kH8 := (kH6.trans (Kp.of s7)).trans kp8
    have ob := odd_bad ho
    rw [so.rl] at hf
    have fb := far_bad hf
    have aw := dr8.nt
    have one : ∀ {v : V} {d : PyData}, Dt H8 m g v d → DtS [(m, g)] H8 v d := fun h x hx => by
      rw [List.mem_singleton.mp hx]
      exact h
    have D0 := one (dv.keep kH8)
    have W0 := one (ew.keep kH8)
    have R0 := one (er.keep kH8)
    have C0 := one (ec.keep kH8)
    have O0 := one (eo.keep ((((kp3.trans kp4).trans kp5).trans (Kp.of s6)).trans ((Kp.of s7).trans kp8)))
    have F0 := one ef
    have lenT : ∀ {a : Addr} {xs : List V} {H : Hp} {Q : VK}, H a = some (.tup xs) → (∀ l, H l = none → Q (.ref l) (upd H l (.lst xs))) → (∃ p ys, [V.ref a] = [V.ref p] ∧ (SqL K H p ys ∨ SqT K H p ys) ∧ ∀ l, H l = none → Q (.ref l) (upd H l (.lst ys))) := fun h q => ⟨_, _, rfl, .inr (SqT.of h), q⟩
    refine peelG2 (σ' := [some (.ref m), some (.ref a), some (.int (marks : Nat)), some (.ref wa), some (.ref ra), some vc, some vo, some (.int (st : Nat)), some (.int (rk : Nat)), some (.int (mk : Nat)), some vf, none, none, none, none, none]) rfl ?_
    refine mk_lst aw (mkA_cons (mk_row aw _ mk_non)
      (mkA_cons (mk_row aw _ (mk_cat aw (mk_var rfl D0) (mk_tup aw (mkA_cons (mk_int 0) mkA_nil) (Nat.le_of_ble_eq_true rfl)) (Nat.le_of_ble_eq_true rfl)))
      (mkA_cons (mk_row aw _ (mk_list aw (fun {a xs H Q} => lenT) (mk_var rfl D0)))
      (mkA_cons (mk_row aw _ (mk_put aw (mk_var rfl D0) (mk_int ((0 : Nat) : Int)) (mk_int 0) (Nat.le_of_ble_eq_true rfl)))
      (mkA_cons (mk_row aw _ (mk_put aw (mk_var rfl D0) (mk_int ((0 : Nat) : Int)) (mk_int 4) (Nat.le_of_ble_eq_true rfl))) mkA_nil))))) (Nat.le_of_ble_eq_true rfl) H8 _ (Same.refl H8) fun v9 H9 s9 d9 => ?_
    have awl : (ws.map PyData.int).length ≤ 200 := by rw [List.length_map, so.wl]; omega
    have arl : rd.length ≤ 200 := by rw [so.rl]; omega
    have ne_w : ws.map PyData.int ≠ [] := fun z => by
      have := so.wl
      rw [← List.length_map (f := PyData.int), z] at this
      simp at this
      omega
    have ne_r : rd ≠ [] := fun z => by
      have := so.rl
      rw [z] at this
      simp at this
      omega
    have iS : DtS [(m, g)] H8 (.int (st : Nat)) (.int (st : Nat)) := fun _ _ => .int _
    have iR : DtS [(m, g)] H8 (.int (rk : Nat)) (.int (rk : Nat)) := fun _ _ => .int _
    have iM : DtS [(m, g)] H8 (.int (mk : Nat)) (.int (mk : Nat)) := fun _ _ => .int _
    -- rows 2
    refine peelG2 (σ' := [some (.ref m), some (.ref a), some (.int (marks : Nat)), some (.ref wa), some (.ref ra), some vc, some vo, some (.int (st : Nat)), some (.int (rk : Nat)), some (.int (mk : Nat)), some vf, some v9, none, none, none, none]) rfl ?_
    refine mk_catL (aw.same s9) (mk_var rfl d9) ((mk_lst aw (mkA_cons (mk_row aw _ (mk_put aw (mk_var rfl D0) (mk_int ((0 : Nat) : Int)) (mk_bl true) (Nat.le_of_ble_eq_true rfl)))
      (mkA_cons (mk_row aw _ (mk_put aw (mk_var rfl D0) (mk_int ((1 : Nat) : Int)) (mk_emp aw) (Nat.le_of_ble_eq_true rfl)))
      (mkA_cons (mk_row aw _ (mk_put aw (mk_var rfl D0) (mk_int ((1 : Nat) : Int)) (mk_rep (n := 5) aw (mk_var rfl W0) ne_w (by decide) (by decide) (by omega)) (Nat.le_of_ble_eq_true rfl))) mkA_nil))) (Nat.le_of_ble_eq_true rfl)).mono s9) (Nat.le_of_ble_eq_true rfl) H9 _ (Same.refl H9) fun v10 H10 s10 d10 => ?_
    have s10' := s9.trans s10
    -- rows 3
    refine peelG2 (σ' := [some (.ref m), some (.ref a), some (.int (marks : Nat)), some (.ref wa), some (.ref ra), some vc, some vo, some (.int (st : Nat)), some (.int (rk : Nat)), some (.int (mk : Nat)), some vf, some v10, none, none, none, none]) rfl ?_
    refine mk_catL (aw.same s10') (mk_var rfl d10) ((mk_lst aw (mkA_cons (mk_row aw _ (mk_put aw (mk_var rfl D0) (mk_int ((1 : Nat) : Int)) (mk_put aw (mk_var rfl W0) (mk_var rfl iR) (mk_var rfl O0) awl) (Nat.le_of_ble_eq_true rfl)))
      (mkA_cons (mk_row aw _ (mk_put aw (mk_var rfl D0) (mk_int ((1 : Nat) : Int)) (mk_list aw (fun {a xs H Q} => lenT) (mk_var rfl W0)) (Nat.le_of_ble_eq_true rfl))) mkA_nil)) (Nat.le_of_ble_eq_true rfl)).mono s10') (Nat.le_of_ble_eq_true rfl) H10 _ (Same.refl H10) fun v11 H11 s11 d11 => ?_
    have s11' := s10'.trans s11
    -- rows 4
    obtain ⟨rst, hrst⟩ : ∃ r, rd[st]? = some r := ⟨_, List.getElem?_eq_getElem (by rw [so.rl]; omega)⟩
    obtain ⟨cs, rfl, csl, csb⟩ := so.rb _ (List.mem_of_getElem? hrst)
    have acl : (cs.map PyData.int).length ≤ 200 := by rw [List.length_map, csl]; omega
    refine peelG2 (σ' := [some (.ref m), some (.ref a), some (.int (marks : Nat)), some (.ref wa), some (.ref ra), some vc, some vo, some (.int (st : Nat)), some (.int (rk : Nat)), some (.int (mk : Nat)), some vf, some v11, none, none, none, none]) rfl ?_
    refine mk_catL (aw.same s11') (mk_var rfl d11) ((mk_lst aw (mkA_cons (mk_row aw _ (mk_put aw (mk_var rfl D0) (mk_int ((2 : Nat) : Int)) (mk_put aw (mk_var rfl R0) (mk_var rfl iS) (mk_put aw (mk_ix aw (mk_var rfl R0) (mk_var rfl iS) hrst) (mk_var rfl iR) (mk_var rfl F0) acl) arl) (Nat.le_of_ble_eq_true rfl)))
      (mkA_cons (mk_row aw _ (mk_put aw (mk_var rfl D0) (mk_int ((2 : Nat) : Int)) (mk_emp aw) (Nat.le_of_ble_eq_true rfl))) mkA_nil)) (Nat.le_of_ble_eq_true rfl)).mono s11') (Nat.le_of_ble_eq_true rfl) H11 _ (Same.refl H11) fun v12 H12 s12 d12 => ?_
    have s12' := s11'.trans s12
    -- rows 5
    refine peelG2 (σ' := [some (.ref m), some (.ref a), some (.int (marks : Nat)), some (.ref wa), some (.ref ra), some vc, some vo, some (.int (st : Nat)), some (.int (rk : Nat)), some (.int (mk : Nat)), some vf, some v12, none, none, none, none]) rfl ?_
    refine mk_catL (aw.same s12') (mk_var rfl d12) ((mk_lst aw (mkA_cons (mk_row aw _ (mk_put aw (mk_var rfl D0) (mk_int ((2 : Nat) : Int)) (mk_put aw (mk_var rfl R0) (mk_var rfl iS) (mk_cat aw (mk_ix aw (mk_var rfl R0) (mk_var rfl iS) hrst) (mk_tup aw (mkA_cons (mk_int 0) mkA_nil) (Nat.le_of_ble_eq_true rfl)) (by rw [List.length_map, csl]; show _ + 1 ≤ _; omega)) arl) (Nat.le_of_ble_eq_true rfl)))
      (mkA_cons (mk_row aw _ (mk_put aw (mk_var rfl D0) (mk_int ((2 : Nat) : Int)) (mk_rep (n := 9) aw (mk_var rfl R0) ne_r (by decide) (by decide) (by omega)) (Nat.le_of_ble_eq_true rfl))) mkA_nil)) (Nat.le_of_ble_eq_true rfl)).mono s12') (Nat.le_of_ble_eq_true rfl) H12 _ (Same.refl H12) fun v13 H13 s13 d13 => ?_
    have s13' := s12'.trans s13
    -- dead, living
    obtain ⟨pr, hpr⟩ : ∃ r, cl[mk]? = some r := ⟨_, List.getElem?_eq_getElem (by rw [so.cl_]; omega)⟩
    obtain ⟨de, li, rfl, del, lil, deb, lib⟩ := so.cb _ (List.mem_of_getElem? hpr)
    refine peelG2 (σ' := [some (.ref m), some (.ref a), some (.int (marks : Nat)), some (.ref wa), some (.ref ra), some vc, some vo, some (.int (st : Nat)), some (.int (rk : Nat)), some (.int (mk : Nat)), some vf, some v13, none, none, none, none]) rfl ?_
    refine mk_ix aw (mk_var rfl C0) (mk_var rfl iM) hpr H13 _ s13' fun vp H14 s14 d14 => ?_
    obtain ⟨pa, pxs, rfl, hpa, dpa⟩ := d14.tup (by simp)
    have dpa := dpa (m, g) (by simp)
    match pxs, dpa, hpa with
    | [vde, vli], .cons ede (.cons eli .nil), hpa =>
    refine ⟨pa, _, rfl, SqT.of hpa, rfl, _, _, rfl, _, _, rfl, rfl, ?_⟩
    have s14' := s13'.trans s14
    have aw14 := aw.same s14'
    have one14 : ∀ {v : V} {d : PyData}, Dt H14 m g v d → DtS [(m, g)] H14 v d := fun h x hx => by
      rw [List.mem_singleton.mp hx]
      exact h
    have E0_ := one14 ede
    have L0_ := one14 eli
    have adl : de.length ≤ 200 := by omega
    have all_ : li.length ≤ 200 := by omega
    have iS14 := iS.same s14'
    have W14 := W0.same s14'
    -- bent
    refine peelS (σ' := [some (.ref m), some (.ref a), some (.int (marks : Nat)), some (.ref wa), some (.ref ra), some vc, some vo, some (.int (st : Nat)), some (.int (rk : Nat)), some (.int (mk : Nat)), some vf, some v13, some vde, some vli, none, none]) rfl ?_
    refine mk_lst aw14 (mkA_cons (mk_tup aw14 (mkA_cons (mk_put aw14 (mk_var rfl E0_) (mk_var rfl iS14) (mk_row aw14 _ (mk_int 0)) adl) (mkA_cons (mk_var rfl L0_) mkA_nil)) (Nat.le_of_ble_eq_true rfl))
      (mkA_cons (mk_tup aw14 (mkA_cons (mk_put aw14 (mk_var rfl E0_) (mk_var rfl iS14) (mk_row aw14 _ (mk_len aw14 (fun {a xs H Q} => lenR) (mk_var rfl W14))) adl) (mkA_cons (mk_var rfl L0_) mkA_nil)) (Nat.le_of_ble_eq_true rfl))
      (mkA_cons (mk_tup aw14 (mkA_cons (mk_var rfl E0_) (mkA_cons (mk_cat aw14 (mk_var rfl L0_) (mk_var rfl L0_) (by omega)) mkA_nil)) (Nat.le_of_ble_eq_true rfl)) mkA_nil))) (Nat.le_of_ble_eq_true rfl) H14 _ (Same.refl H14) fun v15 H15 s15 d15 => ?_
    refine peelG2 (σ' := [some (.ref m), some (.ref a), some (.int (marks : Nat)), some (.ref wa), some (.ref ra), some vc, some vo, some (.int (st : Nat)), some (.int (rk : Nat)), some (.int (mk : Nat)), some vf, some v13, some vde, some vli, some v15, none]) rfl ?_
    refine mk_catL (aw14.same s15) (mk_var rfl d15) ((mk_lst aw14 (mkA_cons (mk_tup aw14 (mkA_cons (mk_var rfl E0_) (mkA_cons (mk_put aw14 (mk_var rfl L0_) (mk_var rfl iS14) (mk_row aw14 _ (mk_int 0)) all_) mkA_nil)) (Nat.le_of_ble_eq_true rfl))
      (mkA_cons (mk_tup aw14 (mkA_cons (mk_var rfl E0_) (mkA_cons (mk_put aw14 (mk_var rfl L0_) (mk_var rfl iS14) (mk_tup aw14 (mkA_cons (mk_int 0) mkA_nil) (Nat.le_of_ble_eq_true rfl)) all_) mkA_nil)) (Nat.le_of_ble_eq_true rfl))
      (mkA_cons (mk_tup aw14 (mkA_cons (mk_var rfl E0_) (mkA_cons (mk_list aw14 (fun {a xs H Q} => lenT) (mk_var rfl L0_)) mkA_nil)) (Nat.le_of_ble_eq_true rfl))
      (mkA_cons (mk_tup aw14 (mkA_cons (mk_var rfl E0_) mkA_nil) (Nat.le_of_ble_eq_true rfl))
      (mkA_cons mk_non mkA_nil))))) (Nat.le_of_ble_eq_true rfl)).mono s15) (Nat.le_of_ble_eq_true rfl) H15 _ (Same.refl H15) fun v16 H16 s16 d16 => ?_
    have s16' := s14'.trans (s15.trans s16)
    obtain ⟨bp, bxs, rfl, hbp, dbp⟩ := d16.lst (by simp)
    have dbp := dbp (m, g) (by simp)
    have d13' := d13.same (s14.trans (s15.trans s16))
    have aw16 := aw.same s16'
    have okde : OkN 2 (.tuple de) := okn_tup fun e he => take_okn layW.1 (deb e he)
    have okli : OkN 2 (.tuple li) := okn_tup fun e he => take_okn layW.2 (lib e he)
    obtain ⟨bent, dbent, bl, bad⟩ : ∃ bent, DtA H16 m g bxs bent ∧ bent.length = 8 ∧ ∀ o ∈ bent, isDPair stands ranks o = false ∧ OkN 4 o := by
      refine ⟨_, dbp, rfl, fun o ho => ?_⟩
      have pairN : ∀ {x y : PyData}, OkN 3 x → OkN 3 y → OkN 4 (.tuple [x, y]) := fun hx hy => okn_tup fun e he => by
        simp only [List.mem_cons, List.not_mem_nil, or_false] at he
        rcases he with z | z <;> rw [z]
        · exact hx
        · exact hy
      have cellN : ∀ (i : Int) (wd : Str), (PyData.str wd).canLay0 = true → OkN 1 (.tuple [.int i, .str wd]) := fun i wd hw => okn_tup fun e he => by
        simp only [List.mem_cons, List.not_mem_nil, or_false] at he
        rcases he with z | z <;> rw [z]
        · exact okn_int _ _
        · exact okn_str _ hw _
      simp only [List.cons_append, List.nil_append, List.mem_cons, List.not_mem_nil, or_false] at ho
      rcases ho with e | e | e | e | e | e | e | e <;> subst e
      · refine ⟨pair1 (isTakes_bad (putD_all ?_)), pairN ((putD_okn okde (cellN _ _ (by decide +kernel))).mono (by decide)) (okli.mono (by decide))⟩
        show (isBt 0 ((ranks : Int) - 1) (.int 0) && inW takeW (.str "self")) = false
        rw [show inW takeW (.str "self") = false from by decide +kernel, Bool.and_false]
      · refine ⟨pair1 (isTakes_bad (putD_all ?_)), pairN ((putD_okn okde (cellN _ _ (by decide +kernel))).mono (by decide)) (okli.mono (by decide))⟩
        show (isBt 0 ((ranks : Int) - 1) (.int ((ws.map PyData.int).length : Nat)) && inW takeW (.str "lost")) = false
        rw [List.length_map, so.wl, show isBt 0 ((ranks : Int) - 1) (.int (ranks : Nat)) = false from by simp [isBt]; omega, Bool.false_and]
      · refine ⟨pair2 (isTakes_len ?_), pairN (okde.mono (by decide)) (okn_tup (j := 2) fun e he => ?_)⟩
        · rw [List.length_append]
          omega
        · rcases List.mem_append.mp he with z | z
          · exact (okn_mem okli z).mono (by decide)
          · exact (okn_mem okli z).mono (by decide)
      · refine ⟨pair2 (isTakes_bad (putD_all ?_)), pairN (okde.mono (by decide)) ((putD_okn okli (cellN _ _ (by decide +kernel))).mono (by decide))⟩
        show (isBt 0 ((ranks : Int) - 1) (.int 0) && inW takeS (.str "all")) = false
        rw [show inW takeS (.str "all") = false from by decide +kernel, Bool.and_false]
      · exact ⟨pair2 (isTakes_bad (putD_all rfl)), pairN (okde.mono (by decide)) ((putD_okn okli (ints_okn [0])).mono (by decide))⟩
      · exact ⟨pair2 rfl, pairN (okde.mono (by decide)) (okn_lst (j := 2) fun e he => (okn_mem okli he).mono (by decide))⟩
      · exact ⟨rfl, okn_tup (j := 3) fun e he => by rw [List.mem_singleton.mp he]; exact okde.mono (by decide)⟩
      · exact ⟨rfl, okn_non _⟩
    obtain ⟨lp, lxs, e13, hl, dl13⟩ := d13'.lst (by simp)
    have okD : OkN 8 (dealD marks ws rd cl) := so.okn.mono (by decide)
    have okC : OkN 7 (.tuple cl) := (okn_mem okD (by simp)).mono (by decide)
    have okR : OkN 7 (.tuple rd) := (okn_mem okD (by simp)).mono (by decide)
    have okW : OkN 7 (.tuple (ws.map PyData.int)) := (okn_mem okD (by simp)).mono (by decide)
    have dl13 := dl13 (m, g) (by simp)
    obtain ⟨rows, dr13, rl13, odd13⟩ : ∃ rows, DtA H16 m g lxs rows ∧ rows.length = 14 ∧ ∀ e ∈ rows, OddD e := by
      refine ⟨_, dl13, rfl, fun e he => ?_⟩
      simp only [List.cons_append, List.nil_append, List.mem_cons, List.not_mem_nil, or_false] at he
      rcases he with e1 | e1 | e1 | e1 | e1 | e1 | e1 | e1 | e1 | e1 | e1 | e1 | e1 | e1 <;> subst e1
      · exact ⟨_, "form", rfl, okn_non _, rfl, by decide⟩
      · refine ⟨_, "form", rfl, okn_tup (j := 7) fun e he => ?_, rfl, by decide⟩
        rcases List.mem_append.mp (show e ∈ [PyData.int (marks : Nat), .tuple (ws.map PyData.int), .tuple rd, .tuple cl] ++ [PyData.int 0] from he) with z | z
        · exact okn_mem okD z
        · rw [List.mem_singleton.mp z]
          exact okn_int _ _
      · exact ⟨_, "form", rfl, okn_lst (j := 7) fun e he => okn_mem okD he, rfl, by decide⟩
      · exact ⟨_, "form", rfl, putD_okn (k := 7) okD (okn_int _ _), fForm rfl, by decide⟩
      · exact ⟨_, "form", rfl, putD_okn (k := 7) okD (okn_int _ _), fForm rfl, by decide⟩
      · exact ⟨_, "form", rfl, putD_okn (k := 7) okD (okn_bl _ _), fForm rfl, by decide⟩
      · exact ⟨_, "weights", rfl, putD_okn (k := 7) okD ((ints_okn []).mono (by decide)), so.fW rfl, by decide⟩
      · refine ⟨_, "weights", rfl, putD_okn (k := 7) okD (okn_tup (j := 6) fun e he => ?_), so.fW (isWts_long ?_), by decide⟩
        · obtain ⟨l, hl1, hl2⟩ := List.mem_flatten.mp he
          rw [(List.mem_replicate.mp hl1).2] at hl2
          exact okn_mem okW hl2
        · simp only [List.replicate, List.flatten_cons, List.length_append, List.length_map, so.wl]
          omega
      · exact ⟨_, "weights", rfl, putD_okn (k := 7) okD (putD_okn (k := 6) okW (ob.2.mono (by decide))), so.fW (isWts_bad (putD_all ob.1)), by decide⟩
      · exact ⟨_, "weights", rfl, putD_okn (k := 7) okD (okn_lst (j := 6) fun e he => okn_mem okW he), so.fW rfl, by decide⟩
      · exact ⟨_, "read", rfl, putD_okn (k := 7) okD (putD_okn (k := 6) okR (putD_okn (k := 5) ((ints_okn cs).mono (by decide)) (fb.2.mono (by decide)))), so.fR (so.bRow (by omega) (rowBad fb.1)), by decide⟩
      · exact ⟨_, "read", rfl, putD_okn (k := 7) okD ((ints_okn []).mono (by decide)), so.fR rfl, by decide⟩
      · refine ⟨_, "read", rfl, putD_okn (k := 7) okD (putD_okn (k := 6) okR (okn_tup (j := 5) fun e he => ?_)), so.fR (so.bRow (by omega) (rowLong ?_)), by decide⟩
        · rcases List.mem_append.mp he with z | z
          · exact (okn_mem (ints_okn cs) z).mono (by decide)
          · rw [List.mem_singleton.mp z]
            exact okn_int _ _
        · rw [List.length_append, List.length_map, csl]
          show ranks + 1 ≠ ranks
          omega
      · refine ⟨_, "read", rfl, putD_okn (k := 7) okD (okn_tup (j := 6) fun e he => ?_), so.fR ?_, by decide⟩
        · obtain ⟨l, hl1, hl2⟩ := List.mem_flatten.mp he
          rw [(List.mem_replicate.mp hl1).2] at hl2
          exact okn_mem okR hl2
        · refine isDRead_long ?_
          simp only [List.replicate, List.flatten_cons, List.length_append, so.rl]
          omega
    refine peelG2 (σ' := [some (.ref m), some (.ref a), some (.int (marks : Nat)), some (.ref wa), some (.ref ra), some vc, some vo, some (.int (st : Nat)), some (.int (rk : Nat)), some (.int (mk : Nat)), some vf, some v13, some vde, some vli, some (.ref bp), none]) rfl ?_
    refine opA ?_
    refine ⟨_, rfl, _, rfl, bp, rfl, ⟨_, SqL.of hbp⟩, fun D nD => ?_⟩
    have cll : cl.length ≤ 200 := by rw [so.cl_]; omega
    refine lc_it (walk_list (xs := bxs)) (fun i G => Same H16 G ∧ ∃ acc ds, G D = some (.lst acc) ∧ ds.length = i ∧ DtAS [(m, g), (D, D)] G acc ds ∧ ∀ e ∈ ds, OddD e) ⟨same_upd nD, [], [], upd_same, rfl, (fun x hx => .nil), (fun e z => by cases z)⟩ (fun _ _ _ q => SqL.of (q.1 _ _ hbp)) ?_ ?_
    · rintro i x G0 G hi ⟨sg, acc, ds, hD, dl, dd, od⟩ ⟨rfl, hx⟩
      obtain ⟨o, ho, dto⟩ := dbent.at' hx
      obtain ⟨b1, b2⟩ := bad o (List.mem_of_getElem? ho)
      have w2 := two_away (aw16.same sg) hD
      have up : ∀ {v : V} {d : PyData}, Dt H16 m g v d → DtS [(m, g), (D, D)] G v d := fun h => (two_new h nD).same sg
      refine ⟨rfl, yes_if ?_⟩
      refine mk_row w2 "close" (mk_put w2 (mk_var rfl (up ((D0.same s16') (m, g) (by simp)))) (mk_int ((3 : Nat) : Int)) (mk_put w2 (mk_var rfl (up ((C0.same s16') (m, g) (by simp)))) (mk_var rfl (up (.int (mk : Nat)))) (mk_var rfl (up dto)) cll) (Nat.le_of_ble_eq_true rfl)) _ _ (Same.refl _) fun v G4 s4 d4 => ?_
      have la := (dd.same s4).len (by simp)
      refine ⟨acc, s4 _ _ hD, by rw [la, dl]; exact small_of (k := 8) (by have := dbent.len; omega) (by decide), same_set (sg.trans s4) nD, acc ++ [v], ds ++ [_], upd_same, by rw [List.length_append, dl]; rfl, twoA_put (twoA_snoc (dd.same s4) d4), fun e he => ?_⟩
      rcases List.mem_append.mp he with z | z
      · exact od e z
      · rw [List.mem_singleton.mp z]
        exact ⟨_, "close", rfl, putD_okn (k := 7) okD (putD_okn (k := 6) okC (b2.mono (by decide))), so.fC (isDClose_bad (putD_all b1)), by decide⟩
    · rintro G ⟨sg, acc, ds, hD, dl, dd, od⟩
      have ddm := (twoA.mp dd).1
      have bxl : bxs.length = 8 := by rw [dbent.len, bl]
      refine ⟨lp, D, lxs, acc, e13, rfl, sg _ _ hl, hD, Nat.le_trans (m := 1000) (by have := dr13.len; have := ddm.len; omega) (by decide), fun p np => ?_⟩
      have sp := same_upd (o := .lst (lxs ++ acc)) np
      have hp : upd G p (.lst (lxs ++ acc)) p = some (.lst (lxs ++ acc)) := upd_same
      have dall := (twoA.mpr ⟨(dr13.same sg).app ddm, ((dr13.same sg).app ddm).fresh np⟩).same sp
      have fp : H16 p = none := sg.free np
      have sP := sg.trans sp
      generalize upd G p (.lst (lxs ++ acc)) = G1 at sp hp dall sP ⊢
      refine peelApp (σ' := [some (.ref m), some (.ref a), some (.int (marks : Nat)), some (.ref wa), some (.ref ra), some vc, some vo, some (.int (st : Nat)), some (.int (rk : Nat)), some (.int (mk : Nat)), some vf, some (.ref p), some vde, some vli, some (.ref bp), none]) rfl rfl hp ?_
      have w1 := two_away (aw16.same sP) hp
      have up : ∀ {v : V} {d : PyData} {G : Hp}, Same H16 G → Dt H16 m g v d → DtS [(m, g), (p, p)] G v d := fun s h => (two_new h fp).same s
      have DD := (D0.same s16') (m, g) (by simp)
      have CC := (C0.same s16') (m, g) (by simp)
      have WW := (W0.same s16') (m, g) (by simp)
      have RR := (R0.same s16') (m, g) (by simp)
      have l1 : (lxs ++ acc).length = 22 := by rw [List.length_append]; have := dr13.len; have := ddm.len; omega
      have od0 : ∀ e ∈ rows ++ ds, OddD e := fun e he => by
        rcases List.mem_append.mp he with z | z
        · exact odd13 e z
        · exact od e z
      generalize lxs ++ acc = x1 at hp dall l1
      generalize rows ++ ds = r1 at dall od0
      refine mk_row w1 "close" (mk_put w1 (mk_var rfl (up sP DD)) (mk_int ((3 : Nat) : Int)) (mk_cat w1 (mk_var rfl (up sP CC)) (mk_var rfl (up sP CC)) (by omega)) (Nat.le_of_ble_eq_true rfl)) G1 _ (Same.refl _) fun v2 G2 t2 d2 => ?_
      refine ⟨p, _, _, rfl, rfl, t2 _ _ hp, by rw [l1]; exact small_of (k := 30) (by decide) (by decide), ?_⟩
      have dall2 := twoA_put (o := .lst (x1 ++ [v2])) (twoA_snoc (dall.same t2) d2)
      have sP2 := same_set (o := .lst (x1 ++ [v2])) (sP.trans t2) fp
      have hp2 : upd G2 p (.lst (x1 ++ [v2])) p = some (.lst (x1 ++ [v2])) := upd_same
      generalize upd G2 p (.lst (x1 ++ [v2])) = G3 at dall2 sP2 hp2 ⊢
      have w3 := two_away (aw16.same sP2) hp2
      refine peelApp2 rfl hp2 ?_
      refine mk_row w3 "read" (mk_tup w3 (mkA_cons (mk_var rfl (up sP2 (.int (marks : Nat)))) (mkA_cons (mk_var rfl (up sP2 WW)) (mkA_cons (mk_put w3 (mk_var rfl (up sP2 RR)) (mk_int ((0 : Nat) : Int)) mk_non arl) (mkA_cons mk_non mkA_nil)))) (Nat.le_of_ble_eq_true rfl)) G3 _ (Same.refl _) fun v4 G4 t4 d4 => ?_
      refine ⟨p, _, _, rfl, rfl, t4 _ _ hp2, by rw [List.length_append, l1]; exact small_of (k := 30) (Nat.le_of_ble_eq_true rfl) (by decide), ?_⟩
      have dall4 := twoA_put (o := .lst (x1 ++ [v2] ++ [v4])) (twoA_snoc (dall2.same t4) d4)
      have sP4 := same_set (o := .lst (x1 ++ [v2] ++ [v4])) (sP2.trans t4) fp
      have hp4 : upd G4 p (.lst (x1 ++ [v2] ++ [v4])) p = some (.lst (x1 ++ [v2] ++ [v4])) := upd_same
      generalize upd G4 p (.lst (x1 ++ [v2] ++ [v4])) = G5 at dall4 sP4 hp4 ⊢
      have w5 := two_away (aw16.same sP4) hp4
      refine peelApp2 rfl hp4 ?_
      refine mk_row w5 "weights" (mk_tup w5 (mkA_cons (mk_var rfl (up sP4 (.int (marks : Nat)))) (mkA_cons mk_non (mkA_cons mk_non (mkA_cons mk_non mkA_nil)))) (Nat.le_of_ble_eq_true rfl)) G5 _ (Same.refl _) fun v6 G6 t6 d6 => ?_
      refine ⟨p, _, _, rfl, rfl, t6 _ _ hp4, by rw [List.length_append, List.length_append, l1]; exact small_of (k := 30) (Nat.le_of_ble_eq_true rfl) (by decide), ?_⟩
      have dall6 := twoA_put (o := .lst (x1 ++ [v2] ++ [v4] ++ [v6])) (twoA_snoc (dall4.same t6) d6)
      have sP6 := same_set (o := .lst (x1 ++ [v2] ++ [v4] ++ [v6])) (sP4.trans t6) fp
      have hp6 : upd G6 p (.lst (x1 ++ [v2] ++ [v4] ++ [v6])) p = some (.lst (x1 ++ [v2] ++ [v4] ++ [v6])) := upd_same
      generalize upd G6 p (.lst (x1 ++ [v2] ++ [v4] ++ [v6])) = G7 at dall6 sP6 hp6 ⊢
      have fp8 : H8 p = none := s16'.free fp
      have d6m := (twoA.mp dall6).1
      refine ⟨_, rfl, k p _ _ G7 _ (kH8.trans (Kp.of (s16'.trans sP6))) (dr8.keep (s16'.trans sP6)) (by omega) (by omega) hp6 (dr8.ne_m fp8) (dr8.ne_g fp8) d6m (fun e he => ?_) ?_⟩
      · rcases List.mem_append.mp he with he | z
        · rcases List.mem_append.mp he with he | z
          · rcases List.mem_append.mp he with he | z
            · exact od0 e he
            · rw [List.mem_singleton.mp z]
              refine ⟨_, "close", rfl, putD_okn (k := 7) okD (okn_tup (j := 6) fun e he => ?_), so.fC (isDClose_len ?_), by decide⟩
              · rcases List.mem_append.mp he with y | y
                · exact okn_mem okC y
                · exact okn_mem okC y
              · rw [List.length_append, so.cl_]
                omega
          · rw [List.mem_singleton.mp z]
            refine ⟨_, "read", rfl, okn_tup (j := 7) fun e he => ?_, so.fR (so.bRow (by omega) rfl), by decide⟩
            simp only [List.mem_cons, List.not_mem_nil, or_false] at he
            rcases he with y | y | y | y <;> rw [y]
            · exact okn_int _ _
            · exact okW
            · exact putD_okn (k := 6) okR (okn_non _)
            · exact okn_non _
        · rw [List.mem_singleton.mp z]
          refine ⟨_, "weights", rfl, okn_tup (j := 7) fun e he => ?_, so.fW rfl, by decide⟩
          simp only [List.mem_cons, List.not_mem_nil, or_false] at he
          rcases he with y | y | y | y <;> rw [y]
          · exact okn_int _ _
          · exact okn_non _
          · exact okn_non _
          · exact okn_non _
      · have := d6m.len
        rw [← this]
        simp only [List.length_append, l1]
        exact Nat.le_of_ble_eq_true rfl
end
end Hk
set_option Elab.async false
set_option linter.all false
set_option maxRecDepth 100000
set_option maxHeartbeats 4000000
namespace Hk
open PySem PySem.Spec PyProof.Rows L2
def wordsK : List Str := ["lines", "lost", "self", "form", "weights", "read", "close", "deal", "family"]
mutual
/-- small data: numbers below 100, the words, tuples of at most nine -/
def ti : PyData → Bool
  | .int i => decide (0 ≤ i) && decide (i < 100)
  | .str w => wordsK.any (· == w)
  | .bool _ => true
  | .none => true
  | .tuple ds => decide (ds.length ≤ 9) && tiA ds
  | _ => false
def tiA : List PyData → Bool
  | [] => true
  | d :: ds => ti d && tiA ds
end
theorem tiA_all {ds : List PyData} : tiA ds = ds.all ti := by
  induction ds with
  | nil => rfl
  | cons d ds ih => simp [tiA, ih]
def Ti (k : Nat) (d : PyData) : Prop := ti d = true ∧ d.depth ≤ k
theorem Ti.mono {j k : Nat} {d : PyData} (h : Ti j d) (jk : j ≤ k) : Ti k d := ⟨h.1, Nat.le_trans h.2 jk⟩
theorem depthAll_le {k : Nat} : ∀ {es : List PyData}, (∀ e ∈ es, e.depth ≤ k) → PyData.depthAll es ≤ k
  | [], _ => Nat.zero_le _
  | e :: es, h => by
    have h1 := h e (by simp)
    have h2 := depthAll_le (es := es) fun x hx => h x (by simp [hx])
    simp [PyData.depthAll]
    omega
theorem ti_tup {k : Nat} {ds : List PyData} (h : ∀ e ∈ ds, Ti k e) (l : ds.length ≤ 9) : Ti (k + 1) (.tuple ds) := by
  refine ⟨?_, ?_⟩
  · show (decide (ds.length ≤ 9) && tiA ds) = true
    rw [decide_eq_true l, Bool.true_and, tiA_all, List.all_eq_true]
    exact fun e he => (h e he).1
  · have := depthAll_le fun e he => (h e he).2
    simp [PyData.depth]
    omega
theorem ti_word {w : Str} (h : w ∈ wordsK) : Ti 0 (.str w) := ⟨List.any_eq_true.mpr ⟨w, h, by simp⟩, Nat.zero_le _⟩
theorem ti_int {i : Int} (h0 : 0 ≤ i) (h8 : i < 100) : Ti 0 (.int i) := ⟨by show (decide (0 ≤ i) && decide (i < 100)) = true; rw [decide_eq_true h0, decide_eq_true h8]; rfl, Nat.zero_le _⟩
theorem shown_dig {i : Int} (h0 : 0 ≤ i) (h8 : i < 100) : (PyData.shown (.int i)).length ≤ 13 ∧ i.natAbs.log2 < 1920 ∧ PyData.weight (.int i) ≤ 8 := by
  have key : ∀ n : Nat, n < 100 → (PyData.shown (.int (n : Int))).length ≤ 13 ∧ (n : Int).natAbs.log2 < 1920 ∧ PyData.weight (.int (n : Int)) ≤ 8 := by decide +kernel
  obtain ⟨n, rfl⟩ : ∃ n : Nat, i = (n : Int) := ⟨i.toNat, by omega⟩
  exact key n (by omega)
theorem word_facts : ∀ w ∈ wordsK, (PyData.str w).canLay0 = true ∧ PyData.weight (.str w) ≤ 8 := by decide +kernel
/-- weight of small data of a depth -/
def wgt : Nat → Nat
  | 0 => 8
  | k + 1 => 9 * (wgt k + 1)
theorem wgt_mono (k : Nat) : wgt k ≤ wgt (k + 1) := by
  show wgt k ≤ 9 * (wgt k + 1)
  omega
theorem wgt_le {j k : Nat} (h : j ≤ k) : wgt j ≤ wgt k := by
  induction h with
  | refl => exact Nat.le_refl _
  | step _ ih => exact Nat.le_trans ih (wgt_mono _)
theorem wgt4 (k : Nat) : 8 ≤ wgt k := wgt_le (Nat.zero_le k)
structure TiF (k : Nat) (d : PyData) : Prop where
  lay : d.canLay0 = true
  sh : d.showable = true
  it : d.intsShort 13 = true
  w : d.weight ≤ wgt k
structure TiFs (k : Nat) (ds : List PyData) : Prop where
  lay : PyData.canLayAll0 ds = true
  sh : PyData.showableAll ds = true
  it : PyData.intsShortAll 13 ds = true
  w : PyData.weightAll ds ≤ ds.length * (wgt k + 1)
mutual
theorem ti_facts : ∀ (k : Nat) (d : PyData), ti d = true → d.depth ≤ k → TiF k d
  | k, .int i, h, _ => by
    have h' : (decide (0 ≤ i) && decide (i < 100)) = true := h
    simp only [Bool.and_eq_true, decide_eq_true_eq] at h'
    have z := shown_dig h'.1 h'.2
    exact ⟨rfl, decide_eq_true z.2.1, decide_eq_true z.1, Nat.le_trans z.2.2 (wgt4 k)⟩
  | k, .str w, h, _ => by
    have h' : (wordsK.any (· == w)) = true := h
    obtain ⟨x, hx, e⟩ := List.any_eq_true.mp h'
    have e2 : x = w := by simpa using e
    subst e2
    have z := word_facts x hx
    exact ⟨z.1, rfl, rfl, Nat.le_trans z.2 (wgt4 k)⟩
  | k, .bool b, _, _ => ⟨rfl, rfl, rfl, Nat.zero_le _⟩
  | k, .none, h, _ => ⟨rfl, rfl, rfl, Nat.zero_le _⟩
  | k, .list _, h, _ => by cases h
  | k, .dict _, h, _ => by cases h
  | k, .tuple ds, h, hd => by
    have h' : (decide (ds.length ≤ 9) && tiA ds) = true := h
    simp only [Bool.and_eq_true, decide_eq_true_eq] at h'
    have hd' : PyData.depthAll ds + 1 ≤ k := hd
    cases k with
    | zero => omega
    | succ j =>
      have z := ti_factsA j ds h'.2 (by omega)
      exact ⟨z.lay, z.sh, z.it, Nat.le_trans z.w (Nat.mul_le_mul_right _ h'.1)⟩
theorem ti_factsA : ∀ (k : Nat) (ds : List PyData), tiA ds = true → PyData.depthAll ds ≤ k → TiFs k ds
  | k, [], _, _ => ⟨rfl, rfl, rfl, by simp [PyData.weightAll]⟩
  | k, d :: ds, h, hd => by
    have h' : (ti d && tiA ds) = true := h
    simp only [Bool.and_eq_true] at h'
    have hd' : max d.depth (PyData.depthAll ds) ≤ k := hd
    have a := ti_facts k d h'.1 (by omega)
    have b := ti_factsA k ds h'.2 (by omega)
    refine ⟨?_, ?_, ?_, ?_⟩
    · show (d.canLay0 && PyData.canLayAll0 ds) = true
      rw [a.lay, b.lay]
      rfl
    · show (d.showable && PyData.showableAll ds) = true
      rw [a.sh, b.sh]
      rfl
    · show (d.intsShort 13 && PyData.intsShortAll 13 ds) = true
      rw [a.it, b.it]
      rfl
    · show d.weight + 1 + PyData.weightAll ds ≤ (ds.length + 1) * (wgt k + 1)
      rw [Nat.add_mul, Nat.one_mul]
      have := a.w
      have := b.w
      omega
end
theorem Ti.shw {d : PyData} (t : Ti 5 d) : Shw d := by
  have f := ti_facts 5 d t.1 t.2
  have w5 : wgt 5 = 538821 := by decide
  have wl : d.weight ≤ 2 ^ 20 := by
    have := f.w
    have e : (2 : Nat) ^ 20 = 1048576 := by decide
    omega
  have l0 : PyData.layable0 d = true := by
    show (PyData.canLay0 d && decide (PyData.depth d ≤ 64) && decide (PyData.weight d ≤ 2 ^ 20)) = true
    rw [f.lay, decide_eq_true (by have := t.2; omega), decide_eq_true wl]
    rfl
  have sl := shown_le13 l0 f.it
  exact ⟨f.sh, f.lay, by have := t.2; omega, Nat.le_trans sl (by decide)⟩
section
variable {marks ranks stands : Nat} {ws : List Int} {rd cl : List PyData}
theorem takeW_K : ∀ x ∈ takeW, x ∈ wordsK := by decide
theorem takeS_K : ∀ x ∈ takeS, x ∈ wordsK := by decide
theorem odd_K : ∀ x ∈ (["form", "weights", "read", "close"] : List Str), x ∈ wordsK := by decide
theorem take_ti {w : List Str} {d : PyData} (hw : ∀ x ∈ w, x ∈ wordsK) (r9 : ranks ≤ 9) (h : isTake ranks w d = true) : Ti 1 d := by
  unfold isTake at h
  split at h
  · rename_i a b
    rw [Bool.and_eq_true] at h
    cases a <;> simp [isBt] at h
    cases b <;> simp [inW] at h
    rename_i i y
    refine ti_tup (k := 0) (fun e he => ?_) (by simp)
    simp only [List.mem_cons, List.not_mem_nil, or_false] at he
    rcases he with e1 | e1 <;> subst e1
    · exact ti_int (by omega) (by omega)
    · exact ti_word (hw _ h.2)
  · cases h
theorem ints_ti {cs : List Int} (l : cs.length ≤ 9) (h : ∀ c ∈ cs, 0 ≤ c ∧ c < 100) : Ti 1 (.tuple (cs.map PyData.int)) := ti_tup (fun e he => by
  obtain ⟨c, hc, rfl⟩ := List.mem_map.mp he
  exact ti_int (h c hc).1 (h c hc).2) (by rw [List.length_map]; exact l)
theorem DealSo.shw (h : DealSo marks ranks stands ws rd cl) : Shw (dealD marks ws rd cl) := by
  have r3 := h.r3
  have s3 := h.s3
  refine (ti_tup (k := 4) (fun e he => ?_) (Nat.le_of_ble_eq_true rfl)).shw
  simp only [List.mem_cons, List.not_mem_nil, or_false] at he
  rcases he with e1 | e1 | e1 | e1 <;> subst e1
  · exact (ti_int (by omega) (by have := h.m3; omega)).mono (by decide)
  · exact (ints_ti (by rw [h.wl]; omega) h.wb).mono (by decide)
  · refine (ti_tup (k := 1) (fun e he => ?_) (by rw [h.rl]; omega)).mono (by decide)
    obtain ⟨cs, rfl, csl, csb⟩ := h.rb e he
    exact ints_ti (by omega) fun c hc => by have := csb c hc; omega
  · refine ti_tup (k := 3) (fun e he => ?_) (by rw [h.cl_]; have := h.m3; omega)
    obtain ⟨de, li, rfl, h1, h2, h3, h4⟩ := h.cb e he
    refine ti_tup (k := 2) (fun e he => ?_) (by simp)
    simp only [List.mem_cons, List.not_mem_nil, or_false] at he
    rcases he with e1 | e1 <;> subst e1
    · exact ti_tup (k := 1) (fun e he => take_ti takeW_K (by omega) (h3 e he)) (by omega)
    · exact ti_tup (k := 1) (fun e he => take_ti takeS_K (by omega) (h4 e he)) (by omega)
theorem dealt_shw {cs : List PyData} (h : ∀ c ∈ cs, CellD ranks c) (r3 : ranks ≤ 9) (l : cs.length ≤ 9) : Shw (.tuple cs) := by
  refine ((ti_tup (k := 1) (fun e he => ?_) l).mono (by decide)).shw
  obtain ⟨r, w, rfl, hr, hw⟩ := h e he
  refine ti_tup (k := 0) (fun e he => ?_) (by simp)
  simp only [List.mem_cons, List.not_mem_nil, or_false] at he
  rcases he with e1 | e1 <;> subst e1
  · exact ti_int (by omega) (by omega)
  · exact ti_word (takeS_K _ hw)
theorem word_shw {w : Str} (h : w ∈ wordsK) : Shw (.str w) := ((ti_word h).mono (by decide)).shw
theorem pair_shw {w : Str} {x : PyData} (h : w ∈ wordsK) (hx : Ti 0 x) : Shw (.tuple [.str w, x]) := by
  refine ((ti_tup (k := 0) (fun e he => ?_) (Nat.le_of_ble_eq_true rfl)).mono (by decide)).shw
  simp only [List.mem_cons, List.not_mem_nil, or_false] at he
  rcases he with e1 | e1 <;> subst e1
  · exact ti_word h
  · exact hx
theorem ti_none : Ti 0 .none := ⟨rfl, Nat.zero_le _⟩
end
end Hk
set_option Elab.async false
set_option linter.all false
set_option maxRecDepth 100000
set_option maxHeartbeats 8000000
set_option pp.maxSteps 3000
namespace Hk
open PySem PySem.Spec PyProof.Rows L2
theorem dealt_cells {d : PyData} {marks stands ranks : Nat} (ok : DealOk d marks stands ranks) {ds : List PyData} (h : wrongAt (marks : Nat) 0 ds = none) : ∀ n, n ≤ ds.length → ∀ c ∈ dealt d (ds.take n), CellD ranks c
  | 0, _, c, hc => by
    rw [List.take_zero] at hc
    cases hc
  | n + 1, hn, c, hc => by
    obtain ⟨x, hx⟩ : ∃ x, ds[n]? = some x := ⟨_, List.getElem?_eq_getElem (by omega)⟩
    have ih := dealt_cells ok h n (by omega)
    have gi := none_good h n x hx
    rw [Nat.zero_add] at gi
    obtain ⟨mk, al, cs, rfl, k0, k1, c6, cb⟩ := line_parts gi
    have e : ds.take (n + 1) = ds.take n ++ [.tuple [.int mk, .bool al, .tuple (cs.map PyData.int)]] := by rw [List.take_add_one, hx]; rfl
    rw [e, dealt_snoc] at hc
    rcases List.mem_append.mp hc with z | z
    · exact ih c z
    · rw [List.mem_singleton.mp z]
      rw [kids_ints]
      have st := stand_lt ok ih (cs.map Int.toNat) 0 ok.s1 fun y hy => by
        obtain ⟨q, hq, rfl⟩ := List.mem_map.mp hy
        have := cb q hq
        rw [dealt_len, List.length_take]
        omega
      exact deal_cell ok (k := mk.toNat) (s := (cs.map Int.toNat).foldl (standStep d (dealt d (ds.take n))) 0) (al := al) (by omega) st
theorem seq_byG {i : Nat} {v : V} {t u : TS} {D : Ends} {σ σ1 : L2.St} {H : Hp} (e : σ.set i (some v) = σ1) (G : L2.St → Hp → Prop) (hk : ∀ σ' H', G σ' H' → u D σ' H') (h : ∀ R : L2.St → Hp → Prop, (∀ σ' H', G σ' H' → R σ' H') → t { D with nx := R } σ1 H) : gName i v σ H (tSeq t u D) := by
  subst e
  exact h (u D) hk
theorem seq_by {t u : TS} {D : Ends} {σ : L2.St} {H : Hp} (G : L2.St → Hp → Prop) (hk : ∀ σ' H', G σ' H' → u D σ' H') (h : ∀ R : L2.St → Hp → Prop, (∀ σ' H', G σ' H' → R σ' H') → t { D with nx := R } σ H) : tSeq t u D σ H := h (u D) hk
section
variable {P : Program} {w : World} {K : PySem.W.Frag} {mg : Str → Option Value} {base : Heap} {CD CF B fI fJ fB : Addr}
abbrev s_law : Stmt := top 54
theorem sc_law : FnScope ["script", "m", "turn", "marks", "deal", "family", "lines", "some", "thing", "word", "one"] ["script"] (defScope s_law) := ⟨rfl, rfl, rfl, by decide +kernel, rfl, by decide +kernel, by decide +kernel⟩
def spLaw (K : PySem.W.Frag) : Sp := fun vs H Q _ => ∃ (a : Addr) (ns : List Int), vs = [.ref a] ∧ SqL K H a (ns.map V.int) ∧ ns.length ≤ 63 ∧ ∀ H', Q (.bl true) H'
theorem ok_law (T : Txt K mg) (k_law_begun : Kn P w K mg base 2 "_law_begun" ["script"] (spBegun K)) (k_law_draw : Kn P w K mg base 2 "_law_draw" ["m", "limit"] sp_draw) (k_law_deal : Kn P w K mg base 3 "_law_deal" ["m", "marks", "wide"] spLDeal)
    (k_law_family : Kn P w K mg base 3 "_law_family" ["m", "marks", "most"] spLFam) (k_law_like : Kn P w K mg base 1 "_law_like" ["got", "due"] (spLike K)) (k_need_deal : Kn P w K mg base 7 "need_deal" ["deal"] (spDeal CD))
    (k_dealt_lines : Kn P w K mg base 9 "dealt_lines" ["deal", "family"] (spDLines CD CF)) (k_law_dealt : Kn P w K mg base 1 "_law_dealt" ["deal", "family"] spLDealt) (k_law_odd_deals : Kn P w K mg base 3 "_law_odd_deals" ["m", "deal"] spOddD)
    (k_law_need_error : Kn P w K mg base 8 "_law_need_error" ["deal"] spNErr) (k_law_error : Kn P w K mg base 10 "_law_error" ["deal", "family"] spLErr) (at_ : At K mg "law" s_law ["script"]) : Kn P w K mg base 11 "law" ["script"] (spLaw K) := by
  refine Kn.mkN (st := s_law) (N := ["script", "m", "turn", "marks", "deal", "family", "lines", "some", "thing", "word", "one"]) at_ sc_law (fun vs H Q E h => ?_) (fun f cdv A outer s H vs Q E hr free h => ?_)
  · obtain ⟨a, ns, rfl, _⟩ := h
    rfl
  · obtain ⟨a, ns, rfl, ha, l63, k⟩ := h
    refine ⟨_, (pss_cons (ps_set (i := 1) sc_law.nd rfl (Or.inr rfl) (pe_callN k_law_begun free (hr.mono (by decide)) rfl passL (pa_cons (pv 0) pa_nil))) (pss_cons (ps_for PassesOwn.never rfl (pi_range1 rfl T.b_range (pa_cons pe_int pa_nil)) (pg_name (i := 2) sc_law.nd rfl (Or.inl rfl)) (pss_cons (ps_set (i := 3) sc_law.nd rfl (Or.inl rfl) (pe_op op_add pe_int (pe_callN k_law_draw free (hr.mono (by decide)) rfl passL (pa_cons (pv 1) (pa_cons pe_int pa_nil))))) (pss_cons (ps_set (i := 4) sc_law.nd rfl (Or.inl rfl) (pe_callN k_law_deal free (hr.mono (by decide)) rfl passL (pa_cons (pv 1) (pa_cons (pv 3) (pa_cons pe_int pa_nil))))) (pss_cons (ps_if (pt_cmpR op_eq (pe_callN k_law_draw free (hr.mono (by decide)) rfl passL (pa_cons (pv 1) (pa_cons pe_int pa_nil))) pe_int (nomark _)) (pss_one (ps_set (i := 4) sc_law.nd rfl (Or.inl rfl) (pe_tup (pa_cons (pv 3) (pa_cons (pe_callTy call_tuple_of (by rfl) T.b_tuple (by decide +kernel) (pa_cons (pe_lc (own := [("one", 10)]) (by rfl) sc_law.nd (tt := tYes) (pi_tup (pe_ix ix_tup (pv 4) pe_int (fun _ _ => rfl))) (blkOk_by (own := [("one", 10)]) (N := ["script", "m", "turn", "marks", "deal", "family", "lines", "some", "thing", "word", "one"]) (sc := defScope s_law) (by decide +kernel)) (fun _ _ _ _ _ => pg_name (i := 10) sc_law.nd rfl (Or.inl rfl)) (fun _ _ _ _ _ => pts_nil) (fun _ _ _ _ _ => (pe_callN k_law_draw free (hr.mono (by decide)) rfl passL (pa_cons (pv 1) (pa_cons pe_int pa_nil))))) pa_nil)) (pa_cons (pe_ix ix_tup (pv 4) pe_int (fun _ _ => rfl)) (pa_cons (pe_ix ix_tup (pv 4) pe_int (fun _ _ => rfl)) pa_nil))))))) pss_nil) (pss_cons (ps_set (i := 5) sc_law.nd rfl (Or.inl rfl) (pe_callN k_law_family free (hr.mono (by decide)) rfl passL (pa_cons (pv 1) (pa_cons (pv 3) (pa_cons pe_int pa_nil))))) (pss_cons (ps_set (i := 6) sc_law.nd rfl (Or.inl rfl) (pe_op op_catA (pv 5) (pe_callN k_law_family free (hr.mono (by decide)) rfl passL (pa_cons (pv 1) (pa_cons (pv 3) (pa_cons pe_int pa_nil)))))) (pss_cons (ps_if (pt_not (pt_val (pe_callN k_law_like free (hr.mono (by decide)) rfl passL (pa_cons (pe_callN k_need_deal free (hr.mono (by decide)) rfl (passL : Passes (L2.CX P w) _ E0) (pa_cons (pv 4) pa_nil)) (pa_cons (pv 4) pa_nil))))) (pss_one (ps_ret pe_bl)) pss_nil) (pss_cons (ps_for PassesOwn.never rfl (pi_tup (pe_tup (pa_cons (pv 5) (pa_cons (pv 6) pa_nil)))) (pg_name (i := 7) sc_law.nd rfl (Or.inl rfl)) (pss_one (ps_if (pt_not (pt_val (pe_callN k_law_like free (hr.mono (by decide)) rfl passL (pa_cons (pe_callN k_dealt_lines free (hr.mono (by decide)) rfl (passL : Passes (L2.CX P w) _ E0) (pa_cons (pv 4) (pa_cons (pv 7) pa_nil))) (pa_cons (pe_callTy call_tuple_of (by rfl) T.b_tuple (by decide +kernel) (pa_cons (pe_callN k_law_dealt free (hr.mono (by decide)) rfl passL (pa_cons (pv 4) (pa_cons (pv 7) pa_nil))) pa_nil)) pa_nil))))) (pss_one (ps_ret pe_bl)) pss_nil))) (pss_cons (ps_for PassesOwn.never rfl (pi_list (pe_callN k_law_odd_deals free (hr.mono (by decide)) rfl passL (pa_cons (pv 1) (pa_cons (pv 4) pa_nil)))) (pg_tup rfl (pgs_cons (pg_name (i := 8) sc_law.nd rfl (Or.inl rfl)) (pgs_cons (pg_name (i := 9) sc_law.nd rfl (Or.inl rfl)) pgs_nil))) (pss_one (ps_if (PW.pt (pw_or (pt_not (pt_val (pe_callN k_law_like free (hr.mono (by decide)) rfl passL (pa_cons (pe_callN k_law_need_error free (hr.mono (by decide)) rfl passL (pa_cons (pv 8) pa_nil)) (pa_cons (pv 9) pa_nil))))) (pw_or1 (pt_not (pt_val (pe_callN k_law_like free (hr.mono (by decide)) rfl passL (pa_cons (pe_callN k_law_error free (hr.mono (by decide)) rfl passL (pa_cons (pv 8) (pa_cons pe_non pa_nil))) (pa_cons (pe_tup (pa_cons pe_str (pa_cons (pv 9) pa_nil))) pa_nil)))))))) (pss_one (ps_ret pe_bl)) pss_nil))) (pss_cons (ps_if (pt_not (pt_val (pe_callN k_law_like free (hr.mono (by decide)) rfl passL (pa_cons (pe_callN k_law_error free (hr.mono (by decide)) rfl passL (pa_cons (pv 4) (pa_cons (pe_op op_catA (pv 6) (pe_tup (pa_cons (pe_tup (pa_cons (pv 3) (pa_cons pe_bl (pa_cons (pe_tup pa_nil) pa_nil)))) pa_nil))) pa_nil))) (pa_cons (pe_tup (pa_cons pe_str (pa_cons (pe_callB (id := "len") call_len_seq (by rfl) T.b_len (by decide +kernel) (pa_cons (pv 6) pa_nil)) pa_nil))) pa_nil))))) (pss_one (ps_ret pe_bl)) pss_nil) (pss_one (ps_if (PW.pt (pw_or (pt_not (pt_val (pe_callN k_law_like free (hr.mono (by decide)) rfl passL (pa_cons (pe_callN k_law_error free (hr.mono (by decide)) rfl passL (pa_cons (pv 4) (pa_cons (pe_tup pa_nil) pa_nil))) (pa_cons (pe_tup (pa_cons pe_str (pa_cons pe_non pa_nil))) pa_nil))))) (pw_or1 (pt_not (pt_val (pe_callN k_law_like free (hr.mono (by decide)) rfl passL (pa_cons (pe_callN k_law_error free (hr.mono (by decide)) rfl passL (pa_cons (pv 4) (pa_cons pe_non pa_nil))) (pa_cons (pe_tup (pa_cons pe_str (pa_cons pe_non pa_nil))) pa_nil)))))))) (pss_one (ps_ret pe_bl)) pss_nil)))))))))))) (pss_one (ps_ret pe_bl)))), ?_⟩
    refine ⟨_, rfl, a, ns, rfl, ha, l63, fun m c g H1 s1 nm ng d1 => ?_⟩
    refine ⟨2, rfl, by decide, by decide, ?_⟩
    refine for_it (walk_range (lo := 0) (n := 2)) (fun i σ G => ∃ (q : Int) (v2 v3 v4 v5 v6 v7 v8 v9 v10 : Option V), σ = [some (.ref a), some (.ref m), v2, v3, v4, v5, v6, v7, v8, v9, v10] ∧ Dr G m c g q ∧ q ≤ 1000 * (i : Nat)) ⟨0, _, _, _, _, _, _, _, _, _, rfl, d1, by simp⟩ (fun _ _ _ _ _ => trivial) ?_ ?_
    · rintro i x σ G0 G hi ⟨q, v2, v3, v4, v5, v6, v7, v8, v9, v10, rfl, d, q1⟩ ⟨rfl, hx⟩
      refine ⟨_, rfl, m, c, g, q, 3, rfl, d, by omega, by decide, by decide, fun H2 r kp2 d2 r0 r1 => ?_⟩
      obtain ⟨marks, em, m1, m3⟩ : ∃ marks : Nat, 1 + r = (marks : Int) ∧ 1 ≤ marks ∧ marks ≤ 3 := ⟨(1 + r).toNat, by omega, by omega, by omega⟩
      refine ⟨_, _, rfl, rfl, ?_⟩
      dsimp only
      rw [em]
      refine ⟨_, rfl, _, rfl, m, c, g, q + 1, marks, rfl, d2, by omega, m1, m3, fun u ranks stands ws rd cl H3 q3 kp3 d3 h1 h2 dt so => ?_⟩
      show gName 4 u _ H3 _
      dsimp only
      refine seq_byG (σ1 := [some (.ref a), some (.ref m), some x, some (.int (marks : Nat)), some u, v5, v6, v7, v8, v9, v10]) rfl (fun σ' H' => ∃ (u : V) (ws : List Int) (q4 : Int) (v10 : Option V), σ' = [some (.ref a), some (.ref m), some x, some (.int (marks : Nat)), some u, v5, v6, v7, v8, v9, v10] ∧ Dr H' m c g q4 ∧ q4 ≤ q + 100 ∧ Dt H' m g u (dealD marks ws rd cl) ∧ DealSo marks ranks stands ws rd cl) ?_ ?_
      · rintro σ' H4 ⟨u, ws, q4, v10, rfl, d4, h4, dt, so⟩
        refine ⟨_, rfl, _, rfl, m, c, g, q4, marks, 8, rfl, d4, by omega, m1, m3, by decide, by decide, fun uf fs H5 q5 kp5 d5 h5 h6 dtf lf1 lf8 fit => ?_⟩
        refine ⟨_, rfl, _, rfl, _, rfl, m, c, g, q5, marks, 1, rfl, d5, by omega, m1, m3, by decide, by decide, fun ul ls H6 q6 kp6 d6 h7 h8 dtl ll1 ll8 fitl => ?_⟩
        have dtf6 := dtf.keep kp6
        have dt6 := (dt.keep kp5).keep kp6
        cases dtf6 with
        | @tup fa fxs _ hfa fm fg df =>
        cases dtl with
        | @tup la lxs _ hla lm lg dl =>
        refine cat_tup hfa hla (Nat.le_trans (m := 1000) (by rw [df.len, dl.len]; omega) (by decide)) fun pl H7 s7 hpl => ?_
        have d7 := d6.keep s7
        have dtL : Dt H7 m g (.ref pl) (.tuple (fs ++ ls)) := .tup hpl (Dt.ofTup d7 hpl).1 (Dt.ofTup d7 hpl).2 ((df.same s7).app (dl.same s7))
        have dtF : Dt H7 m g (.ref fa) (.tuple fs) := .tup (s7 _ _ hfa) fm fg (df.same s7)
        have dt7 := dt6.same s7
        have fitL := fit.app fitl
        have okd : Okd (dealD marks ws rd cl) := so.okn.okd (by decide)
        have okf := so.ok
        -- need_deal
        refine ⟨_, rfl, u, _, m, g, rfl, dt7, okd, fun _ H8 s8 => ?_, fun wd e => by rw [okf] at e; cases e⟩
        refine ⟨_, rfl, u, u, _, rfl, (dt7.same s8).dp, (dt7.same s8).dp, so.shw, _, rfl, iteF ?_⟩
        have s78 := s7.trans s8
        refine ⟨_, rfl, _, rfl, by show 2 ≤ sizeLine; decide, fun pt npt => ?_⟩
        have s9 := s8.trans (same_upd (o := .tup [.ref fa, .ref pl]) npt)
        have hpt : upd H8 pt (.tup [.ref fa, .ref pl]) pt = some (.tup [.ref fa, .ref pl]) := upd_same
        generalize upd H8 pt (.tup [.ref fa, .ref pl]) = H9 at s9 hpt ⊢
        refine ⟨pt, rfl, ⟨_, SqT.of hpt⟩, ?_⟩
        obtain ⟨mk', st', rk', dok, em', _⟩ := deal_ok so.ok
        obtain rfl : marks = mk' := by rw [marks_deal] at em'; omega
        refine for_it (walk_tup (xs := [V.ref fa, V.ref pl])) (fun i σ G => Same H9 G ∧ ∃ v7, σ = [some (.ref a), some (.ref m), some x, some (.int (marks : Nat)), some u, some (.ref fa), some (.ref pl), v7, v8, v9, v10]) ⟨Same.refl _, _, rfl⟩ (fun i σ H' _ p => SqT.of (p.1 _ _ hpt)) ?_ ?_
        · rintro j y σ G0 G hj ⟨sg, v7, rfl⟩ ⟨rfl, hy⟩
          have s7G := s9.trans sg
          obtain ⟨es, dty, fity, ly1, ly9⟩ : ∃ es, Dt H7 m g y (.tuple es) ∧ Fit marks es ∧ 1 ≤ es.length ∧ es.length ≤ 9 := by
            match j, hj, hy with
            | 0, _, hy => cases hy; exact ⟨fs, dtF, fit, lf1, by omega⟩
            | 1, _, hy => cases hy; exact ⟨fs ++ ls, dtL, fitL, by rw [List.length_append]; omega, by rw [List.length_append]; omega⟩
            | n + 2, hj, _ => exact absurd hj (by simp)
          have fe := fit_fam fity ly1 (by omega)
          have dtu := dt7.same s7G
          have dty' := dty.same s7G
          refine ⟨_, rfl, _, rfl, u, y, _, _, m, g, rfl, dtu, okd, dty', fun _ _ p ys G1 t1 hp dy => ?_, (fun wd e => by rw [okf] at e; cases e), (fun _ z e => by rw [marks_deal, fe] at e; cases e)⟩
          refine ⟨_, rfl, _, rfl, u, y, _, es, m, g, marks, st', rk', rfl, dtu.same t1, dty'.same t1, dok, fity.1, by omega, fun p2 ys2 G2 t2 hp2 dy2 => ?_⟩
          refine ⟨p2, ys2, rfl, .inl ⟨SqL.of hp2, fun l nl => ?_⟩⟩
          have t3 := same_upd (o := .tup ys2) nl
          have hl : upd G2 l (.tup ys2) l = some (.tup ys2) := upd_same
          have cells := dealt_cells dok fity.1 es.length (Nat.le_refl _)
          rw [List.take_length] at cells
          exact ⟨_, _, .tuple (dealt (dealD marks ws rd cl) es), rfl, .tup (SqT.of ((t2.trans t3) _ _ hp)) (dy.same (t2.trans t3)).dp, .tup (SqT.of hl) (dy2.same t3).dp, dealt_shw cells (by have := dok.r8; omega) (by rw [dealt_len]; exact ly9), _, rfl, iteF ⟨(sg.trans t1).trans (t2.trans t3), _, rfl⟩⟩
        rintro σ G ⟨sg, v7, rfl⟩
        have s7G := s9.trans sg
        have dG := d7.keep s7G
        refine ⟨_, rfl, _, rfl, m, c, g, q6, u, marks, ranks, stands, ws, rd, cl, rfl, dG, by omega, dt7.same s7G, so, fun po xo rows G1 q7 kpo dro ha1 hb1 hpo pom pog dxo odd lo => ?_⟩
        refine ⟨po, rfl, ⟨_, SqL.of hpo⟩, ?_⟩
        refine for_it (walk_list (xs := xo)) (fun i σ G' => Same G1 G' ∧ ∃ v8 v9, σ = [some (.ref a), some (.ref m), some x, some (.int (marks : Nat)), some u, some (.ref fa), some (.ref pl), v7, v8, v9, v10]) ⟨Same.refl _, _, _, rfl⟩ (fun i σ H' _ p => SqL.of (p.1 _ _ hpo)) ?_ ?_
        · rintro j y σ G0 G' hj ⟨sg2, v8, v9, rfl⟩ ⟨rfl, hy⟩
          obtain ⟨e, he, dte⟩ := dxo.at' hy
          obtain ⟨t, wd, rfl, okt, ft, wK⟩ := odd e (List.mem_of_getElem? he)
          cases dte with
          | @tup ra rxs _ hra _ _ dr_ =>
          match rxs, dr_, hra with
          | [vt, vw], .cons et (.cons ew .nil), hra =>
          cases ew
          refine ⟨ra, _, rfl, SqT.of (sg2 _ _ hra), rfl, _, _, rfl, _, _, rfl, rfl, ?_⟩
          have okT : Okd t := okt.okd (by decide)
          refine ⟨_, rfl, vt, t, m, g, rfl, et.same sg2, okT, fun G2 s2 => ?_⟩
          rw [ft]
          refine ⟨_, rfl, .str wd, .str wd, .str wd, rfl, .str _, .str _, word_shw (odd_K _ wK), _, rfl, iteF ?_⟩
          refine ⟨_, rfl, vt, .non, t, .none, m, g, rfl, et.same (sg2.trans s2), okT, .non, fun wd2 e p G3 s3 hp => ?_, (fun e => by rw [ft] at e; cases e), (fun e => by rw [ft] at e; cases e)⟩
          obtain rfl : wd = wd2 := by rw [ft] at e; exact Option.some.inj e
          refine ⟨_, rfl, by show 2 ≤ sizeLine; decide, fun p2 np2 => ?_⟩
          have s4 := same_upd (o := .tup [.str "deal", .str wd]) np2
          exact ⟨_, _, .tuple [.str "deal", .str wd], rfl, .tup (SqT.of (s4 _ _ hp)) (.cons (.str _) (.cons (.str _) .nil)), .tup (SqT.of upd_same) (.cons (.str _) (.cons (.str _) .nil)), pair_shw (by decide) (ti_word (odd_K _ wK)), _, rfl, iteF ⟨((sg2.trans s2).trans s3).trans s4, _, _, rfl⟩⟩
        rintro σ G3 ⟨sg3, v8, v9, rfl⟩
        have kG3 : Kp m g H7 G3 := ((Kp.of s7G).trans kpo).trans (Kp.of sg3)
        have dG3 := dro.keep sg3
        have dt3 := dt7.keep kG3
        have dl3 := dtL.keep kG3
        obtain ⟨hpl3, dpl3⟩ : G3 pl = some (.tup (fxs ++ lxs)) ∧ DtA G3 m g (fxs ++ lxs) (fs ++ ls) := by
          have h0 := dG3.keep (Same.refl G3)
          cases dl3 with
          | @tup _ ys _ h _ _ d2 =>
          have := kG3 _ _ hpl (Dt.ofTup d7 hpl).1 (Dt.ofTup d7 hpl).2
          rw [h] at this
          cases this
          exact ⟨h, d2⟩
        have fl := dpl3.len
        have fl9 : (fs ++ ls).length ≤ 9 := by rw [List.length_append]; omega
        -- lines and one bad line
        refine ⟨_, rfl, _, rfl, _, rfl, Nat.zero_le _, fun p0 np0 => ⟨by show 3 ≤ sizeLine; decide, fun p1 np1 => ⟨by show 1 ≤ sizeLine; decide, fun p2 np2 => ?_⟩⟩⟩
        have t0 := same_upd (o := .tup []) np0
        have g0 : upd G3 p0 (.tup []) p0 = some (.tup []) := upd_same
        generalize upd G3 p0 (.tup []) = K0 at t0 g0 np1 np2 ⊢
        have t1 := same_upd (o := .tup [.int (marks : Nat), .bl true, .ref p0]) np1
        have g1 : upd K0 p1 (.tup [.int (marks : Nat), .bl true, .ref p0]) p1 = some (.tup [.int (marks : Nat), .bl true, .ref p0]) := upd_same
        generalize upd K0 p1 (.tup [.int (marks : Nat), .bl true, .ref p0]) = K1 at t1 g1 np2 ⊢
        have t2 := same_upd (o := .tup [.ref p1]) np2
        have g2 : upd K1 p2 (.tup [.ref p1]) p2 = some (.tup [.ref p1]) := upd_same
        generalize upd K1 p2 (.tup [.ref p1]) = K2 at t2 g2 ⊢
        refine cat_tup (((t0.trans t1).trans t2) _ _ hpl3) g2 (Nat.le_trans (m := 1000) (by rw [fl]; show _ + 1 ≤ _; omega) (by decide)) fun p3 K3 t3 hp3 => ?_
        have T3 := ((t0.trans t1).trans t2).trans t3
        have e3 := dG3.keep T3
        have tup : ∀ {a : Addr} {xs : List V} {es : List PyData}, K3 a = some (.tup xs) → DtA K3 m g xs es → Dt K3 m g (.ref a) (.tuple es) := fun h da => .tup h (Dt.ofTup e3 h).1 (Dt.ofTup e3 h).2 da
        have D1 := tup (((t1.trans t2).trans t3) _ _ g0) .nil
        have D2 := tup ((t2.trans t3) _ _ g1) (.cons (.int _) (.cons (.bl _) (.cons D1 .nil)))
        have D3 := tup hp3 ((dpl3.same T3).app (.cons D2 .nil))
        have eo := fit_over fitL (by omega)
        refine ⟨u, .ref p3, _, _, m, g, rfl, dt3.same T3, okd, D3, (fun wd e => by rw [okf] at e; cases e), fun _ z e p K4 t4 hp => ?_, (fun _ e => by rw [marks_deal, eo] at e; cases e)⟩
        obtain rfl : V.int ((fs ++ ls).length : Nat) = z := by rw [marks_deal, eo] at e; exact Option.some.inj e
        refine ⟨_, rfl, pl, _, rfl, .inr (SqT.of ((T3.trans t4) _ _ hpl3)), by show 2 ≤ sizeLine; decide, fun p5 np5 => ?_⟩
        rw [fl] at *
        have t5 := same_upd (o := .tup [.str "family", .int ((fs ++ ls).length : Nat)]) np5
        have g5 : upd K4 p5 (.tup [.str "family", .int ((fs ++ ls).length : Nat)]) p5 = some (.tup [.str "family", .int ((fs ++ ls).length : Nat)]) := upd_same
        generalize upd K4 p5 (.tup [.str "family", .int ((fs ++ ls).length : Nat)]) = K5 at t5 g5 ⊢
        refine ⟨_, _, .tuple [.str "family", .int ((fs ++ ls).length : Nat)], rfl, .tup (SqT.of (t5 _ _ hp)) (.cons (.str _) (.cons (.int _) .nil)), .tup (SqT.of g5) (.cons (.str _) (.cons (.int _) .nil)), pair_shw (by decide) (ti_int (by omega) (by omega)), _, rfl, iteF ?_⟩
        have T5 := (T3.trans t4).trans t5
        -- (deal, ())
        refine ⟨_, rfl, Nat.zero_le _, fun p6 np6 => ?_⟩
        have t6 := same_upd (o := .tup []) np6
        have g6 : upd K5 p6 (.tup []) p6 = some (.tup []) := upd_same
        generalize upd K5 p6 (.tup []) = K6 at t6 g6 ⊢
        have T6 := T5.trans t6
        have e6 := dG3.keep T6
        refine ⟨u, .ref p6, _, .tuple [], m, g, rfl, dt3.same T6, okd, .tup g6 (Dt.ofTup e6 g6).1 (Dt.ofTup e6 g6).2 .nil, (fun wd e => by rw [okf] at e; cases e), fun _ z e p K7 t7 hp => ?_, (fun _ e => by rw [fam_empty] at e; cases e)⟩
        obtain rfl : V.non = z := by rw [fam_empty] at e; exact Option.some.inj e
        refine ⟨by show 2 ≤ sizeLine; decide, fun p8 np8 => ?_⟩
        have t8 := same_upd (o := .tup [.str "family", .non]) np8
        have g8 : upd K7 p8 (.tup [.str "family", .non]) p8 = some (.tup [.str "family", .non]) := upd_same
        generalize upd K7 p8 (.tup [.str "family", .non]) = K8 at t8 g8 ⊢
        refine ⟨_, _, .tuple [.str "family", .none], rfl, .tup (SqT.of (t8 _ _ hp)) (.cons (.str _) (.cons .non .nil)), .tup (SqT.of g8) (.cons (.str _) (.cons .non .nil)), pair_shw (by decide) ti_none, _, rfl, iteF ?_⟩
        have T8 := (T6.trans t7).trans t8
        -- (deal, None)
        refine ⟨_, rfl, u, .non, _, .none, m, g, rfl, dt3.same T8, okd, .non, (fun wd e => by rw [okf] at e; cases e), fun _ z e p K9 t9 hp => ?_, (fun _ e => by rw [fam_none] at e; cases e)⟩
        obtain rfl : V.non = z := by rw [fam_none] at e; exact Option.some.inj e
        refine ⟨by show 2 ≤ sizeLine; decide, fun p10 np10 => ?_⟩
        have t10 := same_upd (o := .tup [.str "family", .non]) np10
        have g10 : upd K9 p10 (.tup [.str "family", .non]) p10 = some (.tup [.str "family", .non]) := upd_same
        generalize upd K9 p10 (.tup [.str "family", .non]) = K10 at t10 g10 ⊢
        refine ⟨_, _, .tuple [.str "family", .none], rfl, .tup (SqT.of (t10 _ _ hp)) (.cons (.str _) (.cons .non .nil)), .tup (SqT.of g10) (.cons (.str _) (.cons .non .nil)), pair_shw (by decide) ti_none, _, rfl, iteF ?_⟩
        have T10 := (T8.trans t9).trans t10
        exact ⟨q7, _, _, _, _, _, _, _, _, _, rfl, dG3.keep T10, by omega⟩
      · intro R hR
        refine ⟨_, rfl, m, c, g, q3, 3, rfl, d3, by omega, by decide, by decide, fun H4 z kp4 d4 z0 z1 => ?_⟩
        refine ⟨rfl, _, rfl, ?_⟩
        have dt4 := dt.keep kp4
        cases hz : decide (V.int z = V.int 0) with
        | false =>
          refine iteF ?_
          exact hR _ _ ⟨u, ws, q3 + 1, v10, rfl, d4, by omega, dt4, so⟩
        | true =>
          refine iteT ?_
          refine ⟨_, rfl, _, rfl, tc_via (ixT_dt (Same.refl H4) (i := 1) dt4 (by simp) fun u1 e1 => ?_)⟩
          have e1 : Dt H4 m g u1 (.tuple (ws.map PyData.int)) := e1
          cases e1 with
          | @tup wa wxs _ hwa wm wg dw =>
          obtain rfl := dta_ints dw
          have rr3 := so.r3
          refine ⟨wa, rfl, ⟨_, SqT.of hwa⟩, fun D nD => ?_⟩
          refine lc_draw (walk_tup (xs := ws.map V.int)) (k := 1) (fun _ e => ∃ x : Int, e = .int x ∧ 0 ≤ x ∧ x < 100) (by decide) d4 (fun G kp => SqT.of (kp _ _ hwa wm wg)) (fun i H x H' y => y.1) nD (by rw [List.length_map, so.wl]; exact small_of (k := 3) so.r3 (by decide)) (fun i x G n' Q' hi y kp5 d5 h3 h4 q9 => ?_) (fun H5 n5 wd kp5 d5 h3 h4 gw => ?_)
          · rw [List.length_map, so.wl] at hi
            refine ⟨rfl, _, rfl, m, c, g, n', 100, rfl, d5, by omega, by decide, by decide, fun G4 x kp6 d6 x0 x1 => ?_⟩
            exact q9 G4 (n' + 1) _ (.int x) kp6 d6 (by omega) (by omega) (.int x) rfl ⟨x, rfl, x0, x1⟩
          · rw [List.length_map, so.wl] at h4 gw
            obtain ⟨ws2, rfl, wb2⟩ := ints_of gw.mem
            have wl2 : ws2.length = ranks := by have := gw.len; rw [List.length_map] at this; exact this
            obtain ⟨acc, hD, da⟩ := gw.ex
            obtain rfl := dta_ints da
            refine ⟨D, _, rfl, .inl ⟨SqL.of hD, fun l nl => ?_⟩⟩
            have s6 := same_upd (o := .tup (ws2.map V.int)) nl
            have hl : upd H5 l (.tup (ws2.map V.int)) l = some (.tup (ws2.map V.int)) := upd_same
            have d6 := d5.keep s6
            have dt6 := (dt4.keep kp5).same s6
            generalize upd H5 l (.tup (ws2.map V.int)) = H6 at s6 hl d6 dt6 ⊢
            refine ⟨_, rfl, tc_via (ixT_dt (Same.refl H6) (i := 2) dt6 (by simp) fun u2 e2 => ?_)⟩
            refine ⟨_, rfl, tc_via (ixT_dt (Same.refl H6) (i := 3) dt6 (by simp) fun u3 e3 => ?_)⟩
            refine ⟨by show 4 ≤ sizeLine; decide, fun p np => ?_⟩
            have s7 := same_upd (o := .tup [.int (marks : Nat), .ref l, u2, u3]) np
            have hp : upd H6 p (.tup [.int (marks : Nat), .ref l, u2, u3]) p = some (.tup [.int (marks : Nat), .ref l, u2, u3]) := upd_same
            have d7 := d6.keep s7
            have D1 : Dt H6 m g (.ref l) (.tuple (ws2.map PyData.int)) := .tup hl (Dt.ofTup d6 hl).1 (Dt.ofTup d6 hl).2 (ints_dt ws2)
            exact hR _ _ ⟨.ref p, ws2, n5, _, rfl, d7, by omega, .tup hp (Dt.ofTup d7 hp).1 (Dt.ofTup d7 hp).2 (.cons (.int _) (.cons (D1.same s7) (.cons (e2.same s7) (.cons (e3.same s7) .nil)))), { so with wl := wl2, wb := wb2 }⟩
    · rintro σ G _
      exact k _
end
end Hk
set_option Elab.async false
set_option linter.all false
set_option maxRecDepth 100000
set_option maxHeartbeats 4000000
namespace Hk
open PySem PySem.Spec PyProof.Rows L2
/-! ### the part of the heap that the head looks at: no empty table -/
def emptyTab (o : Obj) : Bool := match o.cls, o.data with
  | .none, .fields vs => vs.isEmpty
  | _, _ => false
def reach (g : Addr → Option Obj) : Nat → List Addr
  | 0 => [mainGlobals, cStatics]
  | n + 1 => He.growD g (reach g n)
def seen (g : Addr → Option Obj) (a : Addr) : Option Obj := match g a with
  | some o => if emptyTab o = true then none else some o
  | none => none
def fragZ (n : Nat) (g : Addr → Option Obj) : PySem.W.Frag := He.frG (seen g) (reach g n)
theorem seen_some {g : Addr → Option Obj} {a : Addr} {o : Obj} (e : seen g a = some o) : g a = some o ∧ emptyTab o = false := by
  unfold seen at e
  cases q : g a with
  | none => rw [q] at e; cases e
  | some u =>
    rw [q] at e
    cases p : emptyTab u with
    | true => simp [p] at e
    | false =>
      simp [p] at e
      subst e
      exact ⟨rfl, p⟩
theorem fragZ_at {n : Nat} {g : Addr → Option Obj} {a : Addr} {o : Obj} (e : (fragZ n g).lookup a = some o) : g a = some o ∧ emptyTab o = false := seen_some (He.frG_at _ e)
/-! ### the error's text -/
abbrev s_BadDeal___init__ : Stmt := inClass (top 3) 0
abbrev s_BadFamily___init__ : Stmt := inClass (top 2) 0
abbrev s_HeirError___init__ : Stmt := inClass (top 1) 0
theorem word_textD : ∃ p1 p2 a1 a2 a3 a4 a5 a6 q1 q2 q3 q4 : Pos, defArgs s_BadDeal___init__ = PySem.OwnX.bA "word" p1 p2 ∧ defBody s_BadDeal___init__ = PySem.OwnX.bB "word" a1 a2 a3 a4 a5 a6 q1 q2 q3 q4 ∧ defScope s_BadDeal___init__ = PySem.OwnX.bS "word" ∧ (a3.endLine == a5.line) = true :=
  ⟨_, _, _, _, _, _, _, _, _, _, _, _, rfl, rfl, rfl, rfl⟩
theorem word_textF : ∃ p1 p2 a1 a2 a3 a4 a5 a6 q1 q2 q3 q4 : Pos, defArgs s_BadFamily___init__ = PySem.OwnX.bA "place" p1 p2 ∧ defBody s_BadFamily___init__ = PySem.OwnX.bB "place" a1 a2 a3 a4 a5 a6 q1 q2 q3 q4 ∧ defScope s_BadFamily___init__ = PySem.OwnX.bS "place" ∧ (a3.endLine == a5.line) = true :=
  ⟨_, _, _, _, _, _, _, _, _, _, _, _, rfl, rfl, rfl, rfl⟩
theorem base_text : ∃ p1 p2 q1 q2 q3 q4 : Pos, defArgs s_HeirError___init__ = PySem.OwnX.hA p1 p2 ∧ defBody s_HeirError___init__ = PySem.OwnX.hB q1 q2 q3 q4 ∧ defScope s_HeirError___init__ = PySem.OwnX.hS :=
  ⟨_, _, _, _, _, _, rfl, rfl, rfl⟩
/-! ### the tests -/
def clsB (K : PySem.W.Frag) (C : Addr) : Bool := match K.lookup C with
  | some ⟨.type t, _, .cls cd, sl⟩ => decide (t = "type") && match cd.mro, sl.toList with
    | .ref C' :: bm, [_, _, _, _, some (.builtin n), _] => (decide (C' = C) && decide (n = "ValueError.__new__")) && ((!cd.hasDel && cd.hasDict) && PySem.HandSPX.refsVE bm)
    | _, _ => false
  | _ => false
theorem clsB_ok {K : PySem.W.Frag} {C : Addr} (h : clsB K C = true) :
    ∃ n q N bs bm sn sub ab col dd k0 k1 k2 k3 k5, K.lookup C = some (excClassObj n q C N bs bm true sn sub ab col dd k0 k1 k2 k3 k5 "ValueError.__new__") ∧ PySem.HandSPX.refsVE bm = true := by
  unfold clsB at h
  split at h
  · rename_i t dd cd sl ho
    obtain ⟨ht, hh⟩ := He.ba h
    clear h
    have ht := of_decide_eq_true ht
    subst ht
    split at hh
    · rename_i C' bm k0 k1 k2 k3 n k5 hm hs
      obtain ⟨h1, h2⟩ := He.ba hh
      obtain ⟨h3, h4⟩ := He.ba h1
      obtain ⟨h5, h6⟩ := He.ba h2
      obtain ⟨h7, h8⟩ := He.ba h5
      have e3 := of_decide_eq_true h3
      have e4 := of_decide_eq_true h4
      subst e3 e4
      obtain ⟨nm, bs, mro, ns, qn, hd, sn, sub, ab, col, del⟩ := cd
      dsimp only at hm h7 h8
      subst hm h8
      obtain rfl : del = false := by simpa using h7
      have hsl : sl = #[k0, k1, k2, k3, some (.builtin "ValueError.__new__"), k5] := by
        obtain ⟨l⟩ := sl
        exact congrArg Array.mk hs
      subst hsl
      exact ⟨_, _, _, _, _, _, _, _, _, _, _, _, _, _, _, ho, h6⟩
    · cases hh
  · cases h
abbrev FnN : Type := Option (Str × Str × Arguments × FuncBody × Scope × Addr × Addr)
def fnN (K : PySem.W.Frag) (f : Addr) : FnN := match K.lookup f with
  | some ⟨_, _, .func fd, _⟩ => some (fd.name, fd.qualname, fd.params, fd.body, fd.scope, fd.globals, fd.builtins)
  | _ => none
def noDfl (fd : FuncData) : Bool := match fd.defaults, fd.kwdefaults with
  | .none, .none => true
  | _, _ => false
def initB (K : PySem.W.Frag) (f C : Addr) (file : Str) : Bool := match K.lookup f with
  | some ⟨_, _, .func fd, _⟩ => noDfl fd && (PySem.W.codeIn K fd.code fd.qualname && ((match fd.closure with
      | [(x, cc)] => decide (x = "__class__") && (match K.lookup cc with
        | some ⟨_, _, .cell (some (.ref C')), _⟩ => decide (C' = C)
        | _ => false)
      | _ => false) && (match fd.code with
      | .ref cda => (match K.lookup cda with
        | some ⟨_, _, .fields vs, _⟩ => (match (vs[2]? : Option Value) with
          | some (.str t _) => decide (t = file)
          | _ => false)
        | _ => false)
      | _ => false)))
  | _ => false
def baseB (K : PySem.W.Frag) (f : Addr) : Bool := match K.lookup f with
  | some ⟨_, _, .func fd, _⟩ => noDfl fd && (PySem.W.codeIn K fd.code fd.qualname && fd.closure.isEmpty)
  | _ => false
def valB : FnN := some ("__init__", "HeirError.__init__", defArgs s_HeirError___init__, .stmts (defBody s_HeirError___init__), defScope s_HeirError___init__, mainGlobals, builtinsNs)
def testLD (K : PySem.W.Frag) (C B fI fB : Addr) (file : Str) : List Bool :=
  [clsB K C, He.eqO (PySem.W.findIn K (.ref C) "__setattr__") (some (some (.builtin "object.__setattr__"))), He.eqO (PySem.W.findIn K (.ref C) "__getattribute__") (some (some (.builtin "BaseException.__getattribute__"))),
   He.eqO (PySem.W.findIn K (.ref C) "__getattr__") (some none), He.eqO (PySem.W.findIn K (.ref C) "things") (some none), He.eqO (PySem.W.findIn K (.ref C) "word") (some none), He.eqO (PySem.W.findIn K (.ref C) "__init__") (some (some (.ref fI))),
   decide (PySem.W.typeIn K (.ref fI) = some (.type "function")), He.eqO (PySem.W.ks_superIn K C C "__init__") (some (some (.ref fB))), decide (PySem.W.typeIn K (.ref fB) = some (.type "function")), PySem.W.keepIn K (.ref C),
   decide (PySem.W.subIn K (.ref C) (.type "BaseException") = some true), decide (PySem.W.typeIn K (.ref C) = some (.type "type")), PySem.W.hasDictIn K C, decide (PySem.W.exmOne K (.ref C) (.ref C) = some true),
   decide (PySem.W.mroIn K C (.ref C) = some true), He.eqO (PySem.W.nsIn K cStatics "thirdparty.any") (some none), initB K fI C file, baseB K fB, He.eqO (PySem.W.findIn K (.ref C) "__class__") (some (some (.builtin "object.__class__"))),
   He.eqO (PySem.W.specialIn K (.builtin "object.__class__") "__get__") (some (some (.builtin "getset_descriptor.__get__"))), decide (PySem.W.takesIn K (.builtin "object.__class__") = some true), decide (PySem.W.mroIn K C (.type "object") = some true),
   decide (PySem.W.kitOne K (.ref C) (.ref B) = some true), decide (PySem.W.kitOne K (.ref C) (.type "ValueError") = some true)]
def valID : FnN := some ("__init__", "BadDeal.__init__", defArgs s_BadDeal___init__, .stmts (defBody s_BadDeal___init__), defScope s_BadDeal___init__, mainGlobals, builtinsNs)
structure OwnKD (K : PySem.W.Frag) (C B fI fB : Addr) (file : Str) : Prop where
  all : (testLD K C B fI fB file).all id = true
  fi : fnN K fI = valID
  fb : fnN K fB = valB
theorem OwnKD.at {K : PySem.W.Frag} {C B fI fB : Addr} {file : Str} (o : OwnKD K C B fI fB file) (i : Nat) {b : Bool} (h : (testLD K C B fI fB file)[i]? = some b := by rfl) : b = true :=
  List.all_eq_true.mp o.all b (List.mem_of_getElem? h)
def testLF (K : PySem.W.Frag) (C B fI fB : Addr) (file : Str) : List Bool :=
  [clsB K C, He.eqO (PySem.W.findIn K (.ref C) "__setattr__") (some (some (.builtin "object.__setattr__"))), He.eqO (PySem.W.findIn K (.ref C) "__getattribute__") (some (some (.builtin "BaseException.__getattribute__"))),
   He.eqO (PySem.W.findIn K (.ref C) "__getattr__") (some none), He.eqO (PySem.W.findIn K (.ref C) "things") (some none), He.eqO (PySem.W.findIn K (.ref C) "place") (some none), He.eqO (PySem.W.findIn K (.ref C) "__init__") (some (some (.ref fI))),
   decide (PySem.W.typeIn K (.ref fI) = some (.type "function")), He.eqO (PySem.W.ks_superIn K C C "__init__") (some (some (.ref fB))), decide (PySem.W.typeIn K (.ref fB) = some (.type "function")), PySem.W.keepIn K (.ref C),
   decide (PySem.W.subIn K (.ref C) (.type "BaseException") = some true), decide (PySem.W.typeIn K (.ref C) = some (.type "type")), PySem.W.hasDictIn K C, decide (PySem.W.exmOne K (.ref C) (.ref C) = some true),
   decide (PySem.W.mroIn K C (.ref C) = some true), He.eqO (PySem.W.nsIn K cStatics "thirdparty.any") (some none), initB K fI C file, baseB K fB, He.eqO (PySem.W.findIn K (.ref C) "__class__") (some (some (.builtin "object.__class__"))),
   He.eqO (PySem.W.specialIn K (.builtin "object.__class__") "__get__") (some (some (.builtin "getset_descriptor.__get__"))), decide (PySem.W.takesIn K (.builtin "object.__class__") = some true), decide (PySem.W.mroIn K C (.type "object") = some true),
   decide (PySem.W.kitOne K (.ref C) (.ref B) = some true), decide (PySem.W.kitOne K (.ref C) (.type "ValueError") = some true)]
def valIF : FnN := some ("__init__", "BadFamily.__init__", defArgs s_BadFamily___init__, .stmts (defBody s_BadFamily___init__), defScope s_BadFamily___init__, mainGlobals, builtinsNs)
structure OwnKF (K : PySem.W.Frag) (C B fI fB : Addr) (file : Str) : Prop where
  all : (testLF K C B fI fB file).all id = true
  fi : fnN K fI = valIF
  fb : fnN K fB = valB
theorem OwnKF.at {K : PySem.W.Frag} {C B fI fB : Addr} {file : Str} (o : OwnKF K C B fI fB file) (i : Nat) {b : Bool} (h : (testLF K C B fI fB file)[i]? = some b := by rfl) : b = true :=
  List.all_eq_true.mp o.all b (List.mem_of_getElem? h)
theorem fn_of {K : PySem.W.Frag} {f : Addr} {n q : Str} {pa : Arguments} {bd : FuncBody} {sc : Scope} {gl bu : Addr} (e : fnN K f = some (n, q, pa, bd, sc, gl, bu)) :
    ∃ oc od fd osl, K.lookup f = some ⟨oc, od, .func fd, osl⟩ ∧ fd.name = n ∧ fd.qualname = q ∧ fd.params = pa ∧ fd.body = bd ∧ fd.scope = sc ∧ fd.globals = gl ∧ fd.builtins = bu := by
  unfold fnN at e
  split at e
  · rename_i oc od fd osl ho
    have e2 := Option.some.inj e
    simp only [Prod.mk.injEq] at e2
    obtain ⟨h1, h2, h3, h4, h5, h6, h7⟩ := e2
    exact ⟨_, _, _, _, ho, h1, h2, h3, h4, h5, h6, h7⟩
  · cases e
theorem noDfl_ok {fd : FuncData} (h : noDfl fd = true) : fd.defaults = .none ∧ fd.kwdefaults = .none := by
  unfold noDfl at h
  split at h
  · rename_i a b
    exact ⟨a, b⟩
  · cases h
theorem own_txtD {P : Program} {K : PySem.W.Frag} {mg : Str → Option Value} {C B fI fB : Addr} (o : OwnKD K C B fI fB P.main.file) (gC : mg "BadDeal" = some (.ref C)) (nsup : mg "super" = none) (tops : (P.main.scope.names.lookup ("super" : Str)).isSome = false) :
    PySem.OwnX.OwnTxt P K mg "BadDeal" "word" C B fI fB where
  fld := ⟨by decide, by decide, by decide, by decide, by decide, by decide⟩
  gC := gC
  cls := clsB_ok (o.at 0)
  sa := He.eqO_ok (o.at 1)
  ga := He.eqO_ok (o.at 2)
  gg := He.eqO_ok (o.at 3)
  noT := He.eqO_ok (o.at 4)
  noF := He.eqO_ok (o.at 5)
  iC := He.eqO_ok (o.at 6)
  tC := of_decide_eq_true (o.at 7)
  sup := He.eqO_ok (o.at 8)
  tB := of_decide_eq_true (o.at 9)
  kC := o.at 10
  exC := of_decide_eq_true (o.at 11)
  tyC := of_decide_eq_true (o.at 12)
  hdC := o.at 13
  te := of_decide_eq_true (o.at 14)
  selfC := of_decide_eq_true (o.at 15)
  opq := He.eqO_ok (o.at 16)
  nsup := nsup
  tops := tops
  fnI := by
    obtain ⟨oc, od, fd, osl, ho, h1, h2, h3, h4, h5, h6, h7⟩ := fn_of o.fi
    have t := o.at 17
    unfold initB at t
    rw [ho] at t
    obtain ⟨t1, ta⟩ := He.ba t
    obtain ⟨t2, tb⟩ := He.ba ta
    obtain ⟨t3, t4⟩ := He.ba tb
    clear t ta tb
    obtain ⟨d1, d2⟩ := noDfl_ok t1
    obtain ⟨n1, n2, n3, n4, n5, n6, n7, n8, n9, n10, n11, n12, n13, n14, n15⟩ := fd
    dsimp only at h1 h2 h3 h4 h5 h6 h7 d1 d2 t2 t3 t4
    subst h1 h2 h3 h4 h5 h6 h7 d1 d2
    split at t3
    · rename_i x cc
      obtain ⟨t5, t6⟩ := He.ba t3
      clear t3
      have ex := of_decide_eq_true t5
      subst ex
      split at t6
      · rename_i cl cld C' csl hcc
        have eC := of_decide_eq_true t6
        subst eC
        split at t4
        · rename_i cda
          split at t4
          · rename_i ccl cdd vs ccs hcda
            split at t4
            · rename_i tt tf hvs
              have et := of_decide_eq_true t4
              subst et
              obtain ⟨p1, p2, a1, a2, a3, a4, a5, a6, q1, q2, q3, q4, w1, w2, w3, w4⟩ := word_textD
              refine ⟨_, oc, od, n10, n11, n12, cda, cc, n14, osl, p1, p2, a1, a2, a3, a4, a5, a6, q1, q2, q3, q4, ?_, t2, w4, fun x v => rfl, ⟨ccl, cdd, vs, ccs, tf, hcda, hvs⟩, cl, cld, csl, hcc⟩
              rw [ho, w1, w2, w3]
            · cases t4
          · cases t4
        · cases t4
      · cases t6
    · cases t3
  fnB := by
    obtain ⟨oc, od, fd, osl, ho, h1, h2, h3, h4, h5, h6, h7⟩ := fn_of o.fb
    have t := o.at 18
    unfold baseB at t
    rw [ho] at t
    obtain ⟨t1, t⟩ := He.ba t
    obtain ⟨t2, t3⟩ := He.ba t
    obtain ⟨d1, d2⟩ := noDfl_ok t1
    obtain ⟨n1, n2, n3, n4, n5, n6, n7, n8, n9, n10, n11, n12, n13, n14, n15⟩ := fd
    dsimp only at h1 h2 h3 h4 h5 h6 h7 d1 d2 t2 t3
    subst h1 h2 h3 h4 h5 h6 h7 d1 d2
    obtain rfl : n7 = [] := List.isEmpty_iff.mp t3
    obtain ⟨p1, p2, q1, q2, q3, q4, w1, w2, w3⟩ := base_text
    refine ⟨_, oc, od, n10, n11, n12, n13, n14, osl, p1, p2, q1, q2, q3, q4, ?_, t2, ?_⟩
    · rw [ho, w1, w2, w3]
    · unfold PySem.W.fnIn
      rw [ho]
theorem own_txtF {P : Program} {K : PySem.W.Frag} {mg : Str → Option Value} {C B fI fB : Addr} (o : OwnKF K C B fI fB P.main.file) (gC : mg "BadFamily" = some (.ref C)) (nsup : mg "super" = none) (tops : (P.main.scope.names.lookup ("super" : Str)).isSome = false) :
    PySem.OwnX.OwnTxt P K mg "BadFamily" "place" C B fI fB where
  fld := ⟨by decide, by decide, by decide, by decide, by decide, by decide⟩
  gC := gC
  cls := clsB_ok (o.at 0)
  sa := He.eqO_ok (o.at 1)
  ga := He.eqO_ok (o.at 2)
  gg := He.eqO_ok (o.at 3)
  noT := He.eqO_ok (o.at 4)
  noF := He.eqO_ok (o.at 5)
  iC := He.eqO_ok (o.at 6)
  tC := of_decide_eq_true (o.at 7)
  sup := He.eqO_ok (o.at 8)
  tB := of_decide_eq_true (o.at 9)
  kC := o.at 10
  exC := of_decide_eq_true (o.at 11)
  tyC := of_decide_eq_true (o.at 12)
  hdC := o.at 13
  te := of_decide_eq_true (o.at 14)
  selfC := of_decide_eq_true (o.at 15)
  opq := He.eqO_ok (o.at 16)
  nsup := nsup
  tops := tops
  fnI := by
    obtain ⟨oc, od, fd, osl, ho, h1, h2, h3, h4, h5, h6, h7⟩ := fn_of o.fi
    have t := o.at 17
    unfold initB at t
    rw [ho] at t
    obtain ⟨t1, ta⟩ := He.ba t
    obtain ⟨t2, tb⟩ := He.ba ta
    obtain ⟨t3, t4⟩ := He.ba tb
    clear t ta tb
    obtain ⟨d1, d2⟩ := noDfl_ok t1
    obtain ⟨n1, n2, n3, n4, n5, n6, n7, n8, n9, n10, n11, n12, n13, n14, n15⟩ := fd
    dsimp only at h1 h2 h3 h4 h5 h6 h7 d1 d2 t2 t3 t4
    subst h1 h2 h3 h4 h5 h6 h7 d1 d2
    split at t3
    · rename_i x cc
      obtain ⟨t5, t6⟩ := He.ba t3
      clear t3
      have ex := of_decide_eq_true t5
      subst ex
      split at t6
      · rename_i cl cld C' csl hcc
        have eC := of_decide_eq_true t6
        subst eC
        split at t4
        · rename_i cda
          split at t4
          · rename_i ccl cdd vs ccs hcda
            split at t4
            · rename_i tt tf hvs
              have et := of_decide_eq_true t4
              subst et
              obtain ⟨p1, p2, a1, a2, a3, a4, a5, a6, q1, q2, q3, q4, w1, w2, w3, w4⟩ := word_textF
              refine ⟨_, oc, od, n10, n11, n12, cda, cc, n14, osl, p1, p2, a1, a2, a3, a4, a5, a6, q1, q2, q3, q4, ?_, t2, w4, fun x v => rfl, ⟨ccl, cdd, vs, ccs, tf, hcda, hvs⟩, cl, cld, csl, hcc⟩
              rw [ho, w1, w2, w3]
            · cases t4
          · cases t4
        · cases t4
      · cases t6
    · cases t3
  fnB := by
    obtain ⟨oc, od, fd, osl, ho, h1, h2, h3, h4, h5, h6, h7⟩ := fn_of o.fb
    have t := o.at 18
    unfold baseB at t
    rw [ho] at t
    obtain ⟨t1, t⟩ := He.ba t
    obtain ⟨t2, t3⟩ := He.ba t
    obtain ⟨d1, d2⟩ := noDfl_ok t1
    obtain ⟨n1, n2, n3, n4, n5, n6, n7, n8, n9, n10, n11, n12, n13, n14, n15⟩ := fd
    dsimp only at h1 h2 h3 h4 h5 h6 h7 d1 d2 t2 t3
    subst h1 h2 h3 h4 h5 h6 h7 d1 d2
    obtain rfl : n7 = [] := List.isEmpty_iff.mp t3
    obtain ⟨p1, p2, q1, q2, q3, q4, w1, w2, w3⟩ := base_text
    refine ⟨_, oc, od, n10, n11, n12, n13, n14, osl, p1, p2, q1, q2, q3, q4, ?_, t2, ?_⟩
    · rw [ho, w1, w2, w3]
    · unfold PySem.W.fnIn
      rw [ho]
end Hk
set_option Elab.async false
set_option linter.all false
set_option maxRecDepth 100000
set_option maxHeartbeats 0
namespace Hk
open PySem PySem.Spec PyProof.Rows L2
def tupB (K : PySem.W.Frag) (a : Addr) : Bool := match K.lookup a with
  | some ⟨.type t, _, .seq us _, _⟩ => decide (t = "tuple") && (match us with
    | ⟨[.str x _, .str y _]⟩ => decide (x = ("lines" : Str)) && decide (y = ("lost" : Str))
    | _ => false)
  | _ => false
theorem tup_ok {K : PySem.W.Frag} {a : Addr} (h : tupB K a = true) (H : Hp) : SqT K H a (takeW.map V.str) := by
  unfold tupB at h
  split at h
  · rename_i t dd us n sl ho
    obtain ⟨h1, h2⟩ := He.ba h
    have e1 := of_decide_eq_true h1
    subst e1
    split at h2
    · rename_i x tx y ty
      obtain ⟨h3, h4⟩ := He.ba h2
      have e3 := of_decide_eq_true h3
      have e4 := of_decide_eq_true h4
      subst e3 e4
      exact .inr ⟨_, _, n, ho, rfl, rfl, by show 2 ≤ sizeLine; decide, .cons ⟨_, rfl⟩ (.cons ⟨_, rfl⟩ .nil)⟩
    · cases h2
  · cases h
def dd0 : He.DefD := ⟨("is_whole", none), "is_whole", "is_whole", defArgs (top 6), defBody (top 6), defScope (top 6), [], []⟩
def dd1 : He.DefD := ⟨("is_truth", none), "is_truth", "is_truth", defArgs (top 7), defBody (top 7), defScope (top 7), [], []⟩
def dd2 : He.DefD := ⟨("is_between", none), "is_between", "is_between", defArgs (top 8), defBody (top 8), defScope (top 8), [], []⟩
def dd3 : He.DefD := ⟨("is_number_row", none), "is_number_row", "is_number_row", defArgs (top 9), defBody (top 9), defScope (top 9), [], []⟩
def dd4 : He.DefD := ⟨("need_between", none), "need_between", "need_between", defArgs (top 10), defBody (top 10), defScope (top 10), [], []⟩
def dd5 : He.DefD := ⟨("need_marks", none), "need_marks", "need_marks", defArgs (top 11), defBody (top 11), defScope (top 11), [], []⟩
def dd6 : He.DefD := ⟨("is_pair", none), "is_pair", "is_pair", defArgs (top 14), defBody (top 14), defScope (top 14), [], []⟩
def dd7 : He.DefD := ⟨("is_line", none), "is_line", "is_line", defArgs (top 19), defBody (top 19), defScope (top 19), [], []⟩
def dd8 : He.DefD := ⟨("is_row_of_lines", none), "is_row_of_lines", "is_row_of_lines", defArgs (top 20), defBody (top 20), defScope (top 20), [], []⟩
def dd9 : He.DefD := ⟨("wrong_line", none), "wrong_line", "wrong_line", defArgs (top 21), defBody (top 21), defScope (top 21), [], []⟩
def dd10 : He.DefD := ⟨("need_lines", none), "need_lines", "need_lines", defArgs (top 22), defBody (top 22), defScope (top 22), [], []⟩
def dd11 : He.DefD := ⟨("need_family", none), "need_family", "need_family", defArgs (top 23), defBody (top 23), defScope (top 23), [.int 3], []⟩
def dd12 : He.DefD := ⟨("line_sizes", none), "line_sizes", "line_sizes", defArgs (top 24), defBody (top 24), defScope (top 24), [], []⟩
def dd13 : He.DefD := ⟨("is_weights", none), "is_weights", "is_weights", defArgs (top 28), defBody (top 28), defScope (top 28), [], []⟩
def dd14 : He.DefD := ⟨("is_deal_read", none), "is_deal_read", "is_deal_read", defArgs (top 29), defBody (top 29), defScope (top 29), [], []⟩
def dd15 : He.DefD := ⟨("is_takes", none), "is_takes", "is_takes", defArgs (top 30), defBody (top 30), defScope (top 30), [], []⟩
def dd16 : He.DefD := ⟨("is_deal_close", none), "is_deal_close", "is_deal_close", defArgs (top 31), defBody (top 31), defScope (top 31), [], []⟩
def dd17 : He.DefD := ⟨("deal_fault", none), "deal_fault", "deal_fault", defArgs (top 32), defBody (top 32), defScope (top 32), [], []⟩
def dd18 : He.DefD := ⟨("need_deal", none), "need_deal", "need_deal", defArgs (top 33), defBody (top 33), defScope (top 33), [], []⟩
def dd19 : He.DefD := ⟨("need_dealt", none), "need_dealt", "need_dealt", defArgs (top 34), defBody (top 34), defScope (top 34), [], []⟩
def dd20 : He.DefD := ⟨("taken", none), "taken", "taken", defArgs (top 35), defBody (top 35), defScope (top 35), [], []⟩
def dd21 : He.DefD := ⟨("dealt_lines", none), "dealt_lines", "dealt_lines", defArgs (top 36), defBody (top 36), defScope (top 36), [], []⟩
def dd22 : He.DefD := ⟨("_law_mixed", none), "_law_mixed", "_law_mixed", defArgs (top 38), defBody (top 38), defScope (top 38), [], []⟩
def dd23 : He.DefD := ⟨("_law_folded", none), "_law_folded", "_law_folded", defArgs (top 39), defBody (top 39), defScope (top 39), [], []⟩
def dd24 : He.DefD := ⟨("_law_draw", none), "_law_draw", "_law_draw", defArgs (top 40), defBody (top 40), defScope (top 40), [], []⟩
def dd25 : He.DefD := ⟨("_law_begun", none), "_law_begun", "_law_begun", defArgs (top 41), defBody (top 41), defScope (top 41), [], []⟩
def dd26 : He.DefD := ⟨("_law_like", none), "_law_like", "_law_like", defArgs (top 42), defBody (top 42), defScope (top 42), [], []⟩
def dd27 : He.DefD := ⟨("_law_planted", none), "_law_planted", "_law_planted", defArgs (top 43), defBody (top 43), defScope (top 43), [], []⟩
def dd28 : He.DefD := ⟨("_law_family", none), "_law_family", "_law_family", defArgs (top 44), defBody (top 44), defScope (top 44), [], []⟩
def dd29 : He.DefD := ⟨("_law_deal", none), "_law_deal", "_law_deal", defArgs (top 45), defBody (top 45), defScope (top 45), [], []⟩
def dd30 : He.DefD := ⟨("_law_dealt", none), "_law_dealt", "_law_dealt", defArgs (top 47), defBody (top 47), defScope (top 47), [], []⟩
def dd31 : He.DefD := ⟨("_law_error", none), "_law_error", "_law_error", defArgs (top 50), defBody (top 50), defScope (top 50), [], []⟩
def dd32 : He.DefD := ⟨("_law_need_error", none), "_law_need_error", "_law_need_error", defArgs (top 51), defBody (top 51), defScope (top 51), [], []⟩
def dd33 : He.DefD := ⟨("_law_put", none), "_law_put", "_law_put", defArgs (top 52), defBody (top 52), defScope (top 52), [], []⟩
def dd34 : He.DefD := ⟨("_law_odd_deals", none), "_law_odd_deals", "_law_odd_deals", defArgs (top 53), defBody (top 53), defScope (top 53), [], []⟩
def dd35 : He.DefD := ⟨("law", none), "law", "law", defArgs (top 54), defBody (top 54), defScope (top 54), [], []⟩
def fn0 : List He.DefD := [dd0, dd1, dd2, dd3, dd4, dd5, dd6, dd7, dd8, dd9, dd10, dd11]
def fn1 : List He.DefD := [dd12, dd13, dd14, dd15, dd16, dd17, dd18, dd19, dd20, dd21, dd22, dd23]
def fn2 : List He.DefD := [dd24, dd25, dd26, dd27, dd28, dd29, dd30, dd31, dd32, dd33, dd34, dd35]
def fnL : List He.DefD := fn0 ++ fn1 ++ fn2
def fa0 : List He.Fa := [.glo "is_whole", .glo "is_truth", .glo "is_between", .glo "is_number_row", .glo "need_between", .glo "need_marks", .glo "is_pair", .glo "is_line", .glo "is_row_of_lines", .glo "wrong_line", .glo "need_lines", .glo "need_family"]
def fa1 : List He.Fa := [.glo "line_sizes", .glo "is_weights", .glo "is_deal_read", .glo "is_takes", .glo "is_deal_close", .glo "deal_fault", .glo "need_deal", .glo "need_dealt", .glo "taken", .glo "dealt_lines", .glo "_law_mixed", .glo "_law_folded"]
def fa2 : List He.Fa := [.glo "_law_draw", .glo "_law_begun", .glo "_law_like", .glo "_law_planted", .glo "_law_family", .glo "_law_deal", .glo "_law_dealt", .glo "_law_error", .glo "_law_need_error", .glo "_law_put", .glo "_law_odd_deals", .glo "law"]
def fa3 : List He.Fa := [.glo "BadDeal", .glo "BadFamily", .glo "HeirError", .glo "TAKES", .free "int", .free "len", .free "range", .free "enumerate", .free "isinstance", .free "all", .free "sum", .free "repr"]
def fa4 : List He.Fa := [.free "tuple", .free "list", .free "str", .free "bool", .free "super", .free "min", .int "MOST_CHILDREN" 600, .int "MOST_LINES" 2000, .int "MOST_MEMBERS" (10 ^ 60), .int "MOST_STATES" 8, .int "MOST_WEIGHT" 99]
def faL : List He.Fa := fa0 ++ fa1 ++ fa2 ++ fa3 ++ fa4
abbrev RR : PySem.W.OpenRow := PySem.W.OpenLaw.row PySem.Challenge.rw_heirlines_k58_deals
abbrev AlZ : Type := He.AlD × (Bool × FnN × FnN) × (Bool × FnN) × Bool × Bool
def obsK (K : PySem.W.Frag) : AlZ :=
  (He.obsD faL fnL K, ((testLD K (He.ga K "BadDeal") (He.ga K "HeirError") (He.ma K (He.ga K "BadDeal") "__init__") (He.ma K (He.ga K "HeirError") "__init__") PySem.Challenge.pw_heirlines_k58_deals.main.file).all id,
    fnN K (He.ma K (He.ga K "BadDeal") "__init__"), fnN K (He.ma K (He.ga K "HeirError") "__init__")),
   ((testLF K (He.ga K "BadFamily") (He.ga K "HeirError") (He.ma K (He.ga K "BadFamily") "__init__") (He.ma K (He.ga K "HeirError") "__init__") PySem.Challenge.pw_heirlines_k58_deals.main.file).all id,
    fnN K (He.ma K (He.ga K "BadFamily") "__init__")),
   decide (PySem.W.exmOne K (.ref (He.ga K "BadFamily")) (.ref (He.ga K "BadDeal")) = some false), tupB K (He.ga K "TAKES"))
def valZ : AlZ := (He.valD fnL, (true, valID, valB), (true, valIF), true, true)
/-- what the end leans on: no empty table is looked at -/
def SaysZ (K : PySem.W.Frag) : Prop := obsK K = valZ ∧ ∀ a o, K.lookup a = some o → emptyTab o = false
def hk1 : PySem.W.Hook where
  α := AlZ
  obs := fun s => obsK (fragZ 5 s.heap.get?)
  val := fun _ => valZ
  says := fun _ h => ∃ K : PySem.W.Frag, K.In h ∧ SaysZ K
  of := fun _ _ e => ⟨_, fun _ _ q => (fragZ_at q).1, e, fun _ _ q => (fragZ_at q).2⟩
  keeps := fun _ _ _ ⟨K, hK, c⟩ k => ⟨K, PySem.W.Frag.In.keeps hK k, c⟩
def ob1 (s : PySem.W.SharedT) : AlZ := obsK (fragZ 5 (HandSHeadRun.getT s))
theorem ob1_eq (s : PySem.W.SharedT) : ob1 s = hk1.obs s.abs := by
  have e : HandSHeadRun.getT s = s.abs.heap.get? := funext (HandSHeadRun.getT_eq s)
  unfold ob1
  rw [e] <;> rfl
def loose0 : List PySem.Str := ["HeirError", "BadFamily", "BadDeal", "BadNumber", "is_whole", "is_truth", "is_between", "is_number_row", "need_between", "need_marks", "MOST_STATES", "is_pair"]
def loose1 : List PySem.Str := ["MOST_LINES", "MOST_CHILDREN", "MOST_MEMBERS", "is_line", "is_row_of_lines", "wrong_line", "need_lines", "need_family", "line_sizes", "MOST_WEIGHT", "TAKES", "is_weights"]
def loose2 : List PySem.Str := ["is_deal_read", "is_takes", "is_deal_close", "deal_fault", "need_deal", "need_dealt", "taken", "dealt_lines", "_law_mixed", "_law_folded", "_law_draw", "_law_begun"]
def loose3 : List PySem.Str := ["_law_like", "_law_planted", "_law_family", "_law_deal", "_law_near_deal", "_law_dealt", "_law_low", "_law_part", "_law_error", "_law_need_error", "_law_put", "_law_odd_deals"]
def loose : List PySem.Str := loose0 ++ loose1 ++ loose2 ++ loose3
theorem run1 (w : World) : HandSHeadRun.RunEq RR (PySem.W.view RR.prog [54]) hk1 ob1 8000 loose w := by
  intro os
  kernel_rfl
end Hk
set_option Elab.async false
set_option linter.all false
set_option maxRecDepth 100000
set_option maxHeartbeats 4000000
namespace Hk
open PySem PySem.Spec PyProof.Rows L2
abbrev PW : Program := PySem.Challenge.pw_heirlines_k58_deals
abbrev zD (K : PySem.W.Frag) : Addr := He.ga K "BadDeal"
abbrev zP (K : PySem.W.Frag) : Addr := He.ga K "BadFamily"
abbrev zB (K : PySem.W.Frag) : Addr := He.ga K "HeirError"
abbrev zI (K : PySem.W.Frag) : Addr := He.ma K (He.ga K "BadDeal") "__init__"
abbrev zJ (K : PySem.W.Frag) : Addr := He.ma K (He.ga K "BadFamily") "__init__"
abbrev zF (K : PySem.W.Frag) : Addr := He.ma K (He.ga K "HeirError") "__init__"
theorem at_fun {K : PySem.W.Frag} {x q : Str} {st : Stmt} {f : Addr} {fd : FuncData} (F : FunD K x q (defArgs st) (defBody st) (defScope st) [] [] f fd) : Fun K x q st f fd := by
  have kp := F.kp
  obtain ⟨oc, od, dV, kV, doc, pm, an, cdv, ct, osl, rfl, lk, hcd, hD, _⟩ := F.ex
  rcases hD with ⟨_, rfl⟩ | ⟨e, _⟩
  · exact ⟨⟨oc, od, kV, doc, pm, an, cdv, ct, osl, rfl, lk, hcd⟩, kp⟩
  · exact absurd rfl e
section
variable {K : PySem.W.Frag} {h : Heap} {mg : Str → Option Value}
theorem says_d (c : SaysZ K) : He.SaysD faL fnL K := congrArg (fun z : AlZ => z.1) c.1
theorem own_kD (c : SaysZ K) : OwnKD K (zD K) (zB K) (zI K) (zF K) PW.main.file :=
  ⟨congrArg (fun z : AlZ => z.2.1.1) c.1, congrArg (fun z : AlZ => z.2.1.2.1) c.1, congrArg (fun z : AlZ => z.2.1.2.2) c.1⟩
theorem own_kF (c : SaysZ K) : OwnKF K (zP K) (zB K) (zJ K) (zF K) PW.main.file :=
  ⟨congrArg (fun z : AlZ => z.2.2.1.1) c.1, congrArg (fun z : AlZ => z.2.2.1.2) c.1, congrArg (fun z : AlZ => z.2.1.2.2) c.1⟩
theorem exm_z (c : SaysZ K) : PySem.W.exmOne K (.ref (zP K)) (.ref (zD K)) = some false := of_decide_eq_true (congrArg (fun z : AlZ => z.2.2.2.1) c.1)
theorem no_super : (PW.main.scope.names.lookup ("super" : Str)).isSome = false := by decide +kernel

theorem hta_z (X : K.In h) (G : h.Ns mainGlobals mg) (c : SaysZ K) : ∃ ta, mg "TAKES" = some (.ref ta) ∧ ∀ H, SqT K H ta (takeW.map V.str) := ⟨_, He.glo_ok X G ((says_d c).fact 39 (f := .glo "TAKES") rfl), tup_ok (congrArg (fun z : AlZ => z.2.2.2.2) c.1)⟩
theorem txt (X : K.In h) (G : h.Ns mainGlobals mg) (c : SaysZ K) : Txt K mg :=
  ⟨He.free_ok X G ((says_d c).fact 40 (f := .free "int") rfl), He.free_ok X G ((says_d c).fact 41 (f := .free "len") rfl), He.free_ok X G ((says_d c).fact 42 (f := .free "range") rfl), He.free_ok X G ((says_d c).fact 43 (f := .free "enumerate") rfl), He.free_ok X G ((says_d c).fact 44 (f := .free "isinstance") rfl), He.free_ok X G ((says_d c).fact 45 (f := .free "all") rfl), He.free_ok X G ((says_d c).fact 46 (f := .free "sum") rfl), He.free_ok X G ((says_d c).fact 47 (f := .free "repr") rfl), He.free_ok X G ((says_d c).fact 48 (f := .free "tuple") rfl), He.free_ok X G ((says_d c).fact 49 (f := .free "list") rfl), He.free_ok X G ((says_d c).fact 50 (f := .free "str") rfl), He.free_ok X G ((says_d c).fact 51 (f := .free "bool") rfl)⟩
theorem own_tD (X : K.In h) (G : h.Ns mainGlobals mg) (c : SaysZ K) : PySem.OwnX.OwnTxt PW K mg "BadDeal" "word" (zD K) (zB K) (zI K) (zF K) :=
  own_txtD (own_kD c) (He.glo_ok X G ((says_d c).fact 36 (f := .glo "BadDeal") rfl)) (He.free_ok X G ((says_d c).fact 52 (f := .free "super") rfl)) no_super
theorem own_tF (X : K.In h) (G : h.Ns mainGlobals mg) (c : SaysZ K) : PySem.OwnX.OwnTxt PW K mg "BadFamily" "place" (zP K) (zB K) (zJ K) (zF K) :=
  own_txtF (own_kF c) (He.glo_ok X G ((says_d c).fact 37 (f := .glo "BadFamily") rfl)) (He.free_ok X G ((says_d c).fact 52 (f := .free "super") rfl)) no_super
theorem at_is_whole (X : K.In h) (G : h.Ns mainGlobals mg) (c : SaysZ K) : At K mg "is_whole" s_is_whole ["value"] := by
  obtain ⟨fd, F⟩ := (says_d c).def_ 0 (d := dd0) rfl
  exact ⟨_, fd, at_fun F, He.glo_ok X G ((says_d c).fact 0 (f := .glo "is_whole") rfl), FunD.bindsN F fun _ _ _ _ _ _ us hl => match us, hl with | [_], _ => rfl⟩
theorem kk_is_whole (X : K.In h) (G : h.Ns mainGlobals mg) (c : SaysZ K) {w : World} (base : Heap) : Kn PW w K mg base 1 "is_whole" ["value"] (spD1 isWh) := ok_is_whole (txt X G c) (at_is_whole X G c)
theorem at_is_truth (X : K.In h) (G : h.Ns mainGlobals mg) (c : SaysZ K) : At K mg "is_truth" s_is_truth ["value"] := by
  obtain ⟨fd, F⟩ := (says_d c).def_ 1 (d := dd1) rfl
  exact ⟨_, fd, at_fun F, He.glo_ok X G ((says_d c).fact 1 (f := .glo "is_truth") rfl), FunD.bindsN F fun _ _ _ _ _ _ us hl => match us, hl with | [_], _ => rfl⟩
theorem kk_is_truth (X : K.In h) (G : h.Ns mainGlobals mg) (c : SaysZ K) {w : World} (base : Heap) : Kn PW w K mg base 1 "is_truth" ["value"] (spD1 isB) := ok_is_truth (txt X G c) (at_is_truth X G c)
theorem at_is_between (X : K.In h) (G : h.Ns mainGlobals mg) (c : SaysZ K) : At K mg "is_between" s_is_between ["value", "low", "high"] := by
  obtain ⟨fd, F⟩ := (says_d c).def_ 2 (d := dd2) rfl
  exact ⟨_, fd, at_fun F, He.glo_ok X G ((says_d c).fact 2 (f := .glo "is_between") rfl), FunD.bindsN F fun _ _ _ _ _ _ us hl => match us, hl with | [_, _, _], _ => rfl⟩
theorem kk_is_between (X : K.In h) (G : h.Ns mainGlobals mg) (c : SaysZ K) {w : World} (base : Heap) : Kn PW w K mg base 2 "is_between" ["value", "low", "high"] (spD1I isBt) := ok_is_between (txt X G c) (kk_is_whole X G c base) (at_is_between X G c)
theorem at_is_pair (X : K.In h) (G : h.Ns mainGlobals mg) (c : SaysZ K) : At K mg "is_pair" s_is_pair ["value"] := by
  obtain ⟨fd, F⟩ := (says_d c).def_ 6 (d := dd6) rfl
  exact ⟨_, fd, at_fun F, He.glo_ok X G ((says_d c).fact 6 (f := .glo "is_pair") rfl), FunD.bindsN F fun _ _ _ _ _ _ us hl => match us, hl with | [_], _ => rfl⟩
theorem kk_is_pair (X : K.In h) (G : h.Ns mainGlobals mg) (c : SaysZ K) {w : World} (base : Heap) : Kn PW w K mg base 1 "is_pair" ["value"] (spD1 isPair) := ok_is_pair (txt X G c) (at_is_pair X G c)
theorem at_is_number_row (X : K.In h) (G : h.Ns mainGlobals mg) (c : SaysZ K) : At K mg "is_number_row" s_is_number_row ["value", "most", "high"] := by
  obtain ⟨fd, F⟩ := (says_d c).def_ 3 (d := dd3) rfl
  exact ⟨_, fd, at_fun F, He.glo_ok X G ((says_d c).fact 3 (f := .glo "is_number_row") rfl), FunD.bindsN F fun _ _ _ _ _ _ us hl => match us, hl with | [_, _, _], _ => rfl⟩
theorem kk_is_number_row (X : K.In h) (G : h.Ns mainGlobals mg) (c : SaysZ K) {w : World} (base : Heap) : Kn PW w K mg base 1 "is_number_row" ["value", "most", "high"] spNRow := ok_is_number_row (txt X G c) (at_is_number_row X G c)
theorem at_need_between (X : K.In h) (G : h.Ns mainGlobals mg) (c : SaysZ K) : At K mg "need_between" s_need_between ["value", "low", "high"] := by
  obtain ⟨fd, F⟩ := (says_d c).def_ 4 (d := dd4) rfl
  exact ⟨_, fd, at_fun F, He.glo_ok X G ((says_d c).fact 4 (f := .glo "need_between") rfl), FunD.bindsN F fun _ _ _ _ _ _ us hl => match us, hl with | [_, _, _], _ => rfl⟩
theorem kk_need_between (X : K.In h) (G : h.Ns mainGlobals mg) (c : SaysZ K) {w : World} (base : Heap) : Kn PW w K mg base 3 "need_between" ["value", "low", "high"] spNeedB := ok_need_between (txt X G c) (kk_is_between X G c base) (at_need_between X G c)
theorem at_need_marks (X : K.In h) (G : h.Ns mainGlobals mg) (c : SaysZ K) : At K mg "need_marks" s_need_marks ["marks"] := by
  obtain ⟨fd, F⟩ := (says_d c).def_ 5 (d := dd5) rfl
  exact ⟨_, fd, at_fun F, He.glo_ok X G ((says_d c).fact 5 (f := .glo "need_marks") rfl), FunD.bindsN F fun _ _ _ _ _ _ us hl => match us, hl with | [_], _ => rfl⟩
theorem kk_need_marks (X : K.In h) (G : h.Ns mainGlobals mg) (c : SaysZ K) {w : World} (base : Heap) : Kn PW w K mg base 4 "need_marks" ["marks"] spNeedM := ok_need_marks (txt X G c) (kk_need_between X G c base) (at_need_marks X G c)
theorem at_is_line (X : K.In h) (G : h.Ns mainGlobals mg) (c : SaysZ K) : At K mg "is_line" s_is_line ["value", "place", "marks"] := by
  obtain ⟨fd, F⟩ := (says_d c).def_ 7 (d := dd7) rfl
  exact ⟨_, fd, at_fun F, He.glo_ok X G ((says_d c).fact 7 (f := .glo "is_line") rfl), FunD.bindsN F fun _ _ _ _ _ _ us hl => match us, hl with | [_, _, _], _ => rfl⟩
theorem kk_is_line (X : K.In h) (G : h.Ns mainGlobals mg) (c : SaysZ K) {w : World} (base : Heap) : Kn PW w K mg base 3 "is_line" ["value", "place", "marks"] spLine := ok_is_line (txt X G c) (He.int_ok X G ((says_d c).fact 54 (f := .int "MOST_CHILDREN" 600) rfl)) (kk_is_between X G c base) (kk_is_truth X G c base) (kk_is_number_row X G c base) (at_is_line X G c)
theorem at_is_row_of_lines (X : K.In h) (G : h.Ns mainGlobals mg) (c : SaysZ K) : At K mg "is_row_of_lines" s_is_row_of_lines ["value"] := by
  obtain ⟨fd, F⟩ := (says_d c).def_ 8 (d := dd8) rfl
  exact ⟨_, fd, at_fun F, He.glo_ok X G ((says_d c).fact 8 (f := .glo "is_row_of_lines") rfl), FunD.bindsN F fun _ _ _ _ _ _ us hl => match us, hl with | [_], _ => rfl⟩
theorem kk_is_row_of_lines (X : K.In h) (G : h.Ns mainGlobals mg) (c : SaysZ K) {w : World} (base : Heap) : Kn PW w K mg base 1 "is_row_of_lines" ["value"] (spD1 isRows) := ok_is_row_of_lines (txt X G c) (He.int_ok X G ((says_d c).fact 55 (f := .int "MOST_LINES" 2000) rfl)) (at_is_row_of_lines X G c)
theorem at_wrong_line (X : K.In h) (G : h.Ns mainGlobals mg) (c : SaysZ K) : At K mg "wrong_line" s_wrong_line ["family", "marks"] := by
  obtain ⟨fd, F⟩ := (says_d c).def_ 9 (d := dd9) rfl
  exact ⟨_, fd, at_fun F, He.glo_ok X G ((says_d c).fact 9 (f := .glo "wrong_line") rfl), FunD.bindsN F fun _ _ _ _ _ _ us hl => match us, hl with | [_, _], _ => rfl⟩
theorem kk_wrong_line (X : K.In h) (G : h.Ns mainGlobals mg) (c : SaysZ K) {w : World} (base : Heap) : Kn PW w K mg base 4 "wrong_line" ["family", "marks"] spWrong := ok_wrong_line (txt X G c) (kk_is_line X G c base) (at_wrong_line X G c)
theorem at_need_lines (X : K.In h) (G : h.Ns mainGlobals mg) (c : SaysZ K) : At K mg "need_lines" s_need_lines ["family", "marks"] := by
  obtain ⟨fd, F⟩ := (says_d c).def_ 10 (d := dd10) rfl
  exact ⟨_, fd, at_fun F, He.glo_ok X G ((says_d c).fact 10 (f := .glo "need_lines") rfl), FunD.bindsN F fun _ _ _ _ _ _ us hl => match us, hl with | [_, _], _ => rfl⟩
theorem kk_need_lines (X : K.In h) (G : h.Ns mainGlobals mg) (c : SaysZ K) {w : World} (base : Heap) : Kn PW w K mg base 5 "need_lines" ["family", "marks"] (spLines (zP K)) := ok_need_lines (own_tF X G c) (kk_is_row_of_lines X G c base) (kk_wrong_line X G c base) (at_need_lines X G c)
theorem at_line_sizes (X : K.In h) (G : h.Ns mainGlobals mg) (c : SaysZ K) : At K mg "line_sizes" s_line_sizes ["lines"] := by
  obtain ⟨fd, F⟩ := (says_d c).def_ 12 (d := dd12) rfl
  exact ⟨_, fd, at_fun F, He.glo_ok X G ((says_d c).fact 12 (f := .glo "line_sizes") rfl), FunD.bindsN F fun _ _ _ _ _ _ us hl => match us, hl with | [_], _ => rfl⟩
theorem kk_line_sizes (X : K.In h) (G : h.Ns mainGlobals mg) (c : SaysZ K) {w : World} (base : Heap) : Kn PW w K mg base 1 "line_sizes" ["lines"] spSizes := ok_line_sizes (txt X G c) (at_line_sizes X G c)
theorem at_need_family (X : K.In h) (G : h.Ns mainGlobals mg) (c : SaysZ K) : AtD K mg "need_family" s_need_family ["family", "marks"] [.int 3] := by
  obtain ⟨fd, F⟩ := (says_d c).def_ 11 (d := dd11) rfl
  obtain ⟨ds, v, b⟩ := FunD.binds1 (ps := ["family", "marks"]) F 2 1 (by simp [He.DefD.dvs, dd11]) (by simp [He.DefD.dvs, dd11]) fun T kV doc pm an cdv ct us its hu hi => by
    match us, its, hu, hi with
    | [x, y], [z], _, _ => exact ⟨_, rfl, rfl⟩
  cases v
  exact ⟨_, fd, F, He.glo_ok X G ((says_d c).fact 11 (f := .glo "need_family") rfl), b⟩
theorem kk_need_family (X : K.In h) (G : h.Ns mainGlobals mg) (c : SaysZ K) {w : World} (base : Heap) : Kn PW w K mg base 6 "need_family" ["family", "marks"] (spFamily (zP K)) := ok_need_family (own_tF X G c) (He.int_ok X G ((says_d c).fact 56 (f := .int "MOST_MEMBERS" (10 ^ 60)) rfl)) (kk_need_marks X G c base) (kk_need_lines X G c base) (kk_line_sizes X G c base) (at_need_family X G c)
theorem at_is_weights (X : K.In h) (G : h.Ns mainGlobals mg) (c : SaysZ K) : At K mg "is_weights" s_is_weights ["value"] := by
  obtain ⟨fd, F⟩ := (says_d c).def_ 13 (d := dd13) rfl
  exact ⟨_, fd, at_fun F, He.glo_ok X G ((says_d c).fact 13 (f := .glo "is_weights") rfl), FunD.bindsN F fun _ _ _ _ _ _ us hl => match us, hl with | [_], _ => rfl⟩
theorem kk_is_weights (X : K.In h) (G : h.Ns mainGlobals mg) (c : SaysZ K) {w : World} (base : Heap) : Kn PW w K mg base 2 "is_weights" ["value"] (spD1 isWts) := ok_is_weights (txt X G c) (He.int_ok X G ((says_d c).fact 57 (f := .int "MOST_STATES" 8) rfl)) (He.int_ok X G ((says_d c).fact 58 (f := .int "MOST_WEIGHT" 99) rfl)) (kk_is_number_row X G c base) (at_is_weights X G c)
theorem at_is_deal_read (X : K.In h) (G : h.Ns mainGlobals mg) (c : SaysZ K) : At K mg "is_deal_read" s_is_deal_read ["value", "ranks"] := by
  obtain ⟨fd, F⟩ := (says_d c).def_ 14 (d := dd14) rfl
  exact ⟨_, fd, at_fun F, He.glo_ok X G ((says_d c).fact 14 (f := .glo "is_deal_read") rfl), FunD.bindsN F fun _ _ _ _ _ _ us hl => match us, hl with | [_, _], _ => rfl⟩
theorem kk_is_deal_read (X : K.In h) (G : h.Ns mainGlobals mg) (c : SaysZ K) {w : World} (base : Heap) : Kn PW w K mg base 2 "is_deal_read" ["value", "ranks"] spDRead := ok_is_deal_read (txt X G c) (He.int_ok X G ((says_d c).fact 57 (f := .int "MOST_STATES" 8) rfl)) (kk_is_number_row X G c base) (at_is_deal_read X G c)
theorem at_is_takes (X : K.In h) (G : h.Ns mainGlobals mg) (c : SaysZ K) : At K mg "is_takes" s_is_takes ["value", "stands", "ranks", "words"] := by
  obtain ⟨fd, F⟩ := (says_d c).def_ 15 (d := dd15) rfl
  exact ⟨_, fd, at_fun F, He.glo_ok X G ((says_d c).fact 15 (f := .glo "is_takes") rfl), FunD.bindsN F fun _ _ _ _ _ _ us hl => match us, hl with | [_, _, _, _], _ => rfl⟩
theorem kk_is_takes (X : K.In h) (G : h.Ns mainGlobals mg) (c : SaysZ K) {w : World} (base : Heap) : Kn PW w K mg base 3 "is_takes" ["value", "stands", "ranks", "words"] (spTakes K) := ok_is_takes (txt X G c) (kk_is_pair X G c base) (kk_is_between X G c base) (at_is_takes X G c)
theorem at_is_deal_close (X : K.In h) (G : h.Ns mainGlobals mg) (c : SaysZ K) : At K mg "is_deal_close" s_is_deal_close ["value", "marks", "stands", "ranks"] := by
  obtain ⟨fd, F⟩ := (says_d c).def_ 16 (d := dd16) rfl
  exact ⟨_, fd, at_fun F, He.glo_ok X G ((says_d c).fact 16 (f := .glo "is_deal_close") rfl), FunD.bindsN F fun _ _ _ _ _ _ us hl => match us, hl with | [_, _, _, _], _ => rfl⟩
theorem kk_is_deal_close (X : K.In h) (G : h.Ns mainGlobals mg) (c : SaysZ K) {w : World} (base : Heap) : Kn PW w K mg base 4 "is_deal_close" ["value", "marks", "stands", "ranks"] spDClose := ok_is_deal_close (txt X G c) (hta_z X G c) (kk_is_pair X G c base) (kk_is_takes X G c base) (at_is_deal_close X G c)
theorem at_deal_fault (X : K.In h) (G : h.Ns mainGlobals mg) (c : SaysZ K) : At K mg "deal_fault" s_deal_fault ["value"] := by
  obtain ⟨fd, F⟩ := (says_d c).def_ 17 (d := dd17) rfl
  exact ⟨_, fd, at_fun F, He.glo_ok X G ((says_d c).fact 17 (f := .glo "deal_fault") rfl), FunD.bindsN F fun _ _ _ _ _ _ us hl => match us, hl with | [_], _ => rfl⟩
theorem kk_deal_fault (X : K.In h) (G : h.Ns mainGlobals mg) (c : SaysZ K) {w : World} (base : Heap) : Kn PW w K mg base 5 "deal_fault" ["value"] spFaultD := ok_deal_fault (txt X G c) (kk_is_between X G c base) (kk_is_weights X G c base) (kk_is_deal_read X G c base) (kk_is_deal_close X G c base) (at_deal_fault X G c)
theorem at_need_deal (X : K.In h) (G : h.Ns mainGlobals mg) (c : SaysZ K) : At K mg "need_deal" s_need_deal ["deal"] := by
  obtain ⟨fd, F⟩ := (says_d c).def_ 18 (d := dd18) rfl
  exact ⟨_, fd, at_fun F, He.glo_ok X G ((says_d c).fact 18 (f := .glo "need_deal") rfl), FunD.bindsN F fun _ _ _ _ _ _ us hl => match us, hl with | [_], _ => rfl⟩
theorem kk_need_deal (X : K.In h) (G : h.Ns mainGlobals mg) (c : SaysZ K) {w : World} (base : Heap) : Kn PW w K mg base 7 "need_deal" ["deal"] (spDeal (zD K)) := ok_need_deal (own_tD X G c) (kk_deal_fault X G c base) (at_need_deal X G c)
theorem at_need_dealt (X : K.In h) (G : h.Ns mainGlobals mg) (c : SaysZ K) : At K mg "need_dealt" s_need_dealt ["deal", "family"] := by
  obtain ⟨fd, F⟩ := (says_d c).def_ 19 (d := dd19) rfl
  exact ⟨_, fd, at_fun F, He.glo_ok X G ((says_d c).fact 19 (f := .glo "need_dealt") rfl), FunD.bindsN F fun _ _ _ _ _ _ us hl => match us, hl with | [_, _], _ => rfl⟩
theorem kk_need_dealt (X : K.In h) (G : h.Ns mainGlobals mg) (c : SaysZ K) {w : World} (base : Heap) : Kn PW w K mg base 8 "need_dealt" ["deal", "family"] (spDealt (zD K) (zP K)) := ok_need_dealt (kk_need_deal X G c base) (kk_need_family X G c base) (at_need_dealt X G c)
theorem at_taken (X : K.In h) (G : h.Ns mainGlobals mg) (c : SaysZ K) : At K mg "taken" s_taken ["deal", "lines"] := by
  obtain ⟨fd, F⟩ := (says_d c).def_ 20 (d := dd20) rfl
  exact ⟨_, fd, at_fun F, He.glo_ok X G ((says_d c).fact 20 (f := .glo "taken") rfl), FunD.bindsN F fun _ _ _ _ _ _ us hl => match us, hl with | [_, _], _ => rfl⟩
theorem kk_taken (X : K.In h) (G : h.Ns mainGlobals mg) (c : SaysZ K) {w : World} (base : Heap) : Kn PW w K mg base 1 "taken" ["deal", "lines"] spTaken := ok_taken (txt X G c) (at_taken X G c)
theorem at_dealt_lines (X : K.In h) (G : h.Ns mainGlobals mg) (c : SaysZ K) : At K mg "dealt_lines" s_dealt_lines ["deal", "family"] := by
  obtain ⟨fd, F⟩ := (says_d c).def_ 21 (d := dd21) rfl
  exact ⟨_, fd, at_fun F, He.glo_ok X G ((says_d c).fact 21 (f := .glo "dealt_lines") rfl), FunD.bindsN F fun _ _ _ _ _ _ us hl => match us, hl with | [_, _], _ => rfl⟩
theorem kk_dealt_lines (X : K.In h) (G : h.Ns mainGlobals mg) (c : SaysZ K) {w : World} (base : Heap) : Kn PW w K mg base 9 "dealt_lines" ["deal", "family"] (spDLines (zD K) (zP K)) := ok_dealt_lines (kk_need_dealt X G c base) (kk_taken X G c base) (at_dealt_lines X G c)
theorem at_L_law_dealt (X : K.In h) (G : h.Ns mainGlobals mg) (c : SaysZ K) : At K mg "_law_dealt" s_law_dealt ["deal", "family"] := by
  obtain ⟨fd, F⟩ := (says_d c).def_ 30 (d := dd30) rfl
  exact ⟨_, fd, at_fun F, He.glo_ok X G ((says_d c).fact 30 (f := .glo "_law_dealt") rfl), FunD.bindsN F fun _ _ _ _ _ _ us hl => match us, hl with | [_, _], _ => rfl⟩
theorem kk_law_dealt (X : K.In h) (G : h.Ns mainGlobals mg) (c : SaysZ K) {w : World} (base : Heap) : Kn PW w K mg base 1 "_law_dealt" ["deal", "family"] spLDealt := ok_law_dealt (txt X G c) (at_L_law_dealt X G c)
theorem at_L_law_mixed (X : K.In h) (G : h.Ns mainGlobals mg) (c : SaysZ K) : At K mg "_law_mixed" s_law_mixed ["cell", "n"] := by
  obtain ⟨fd, F⟩ := (says_d c).def_ 22 (d := dd22) rfl
  exact ⟨_, fd, at_fun F, He.glo_ok X G ((says_d c).fact 22 (f := .glo "_law_mixed") rfl), FunD.bindsN F fun _ _ _ _ _ _ us hl => match us, hl with | [_, _], _ => rfl⟩
theorem kk_mixed (X : K.In h) (G : h.Ns mainGlobals mg) (c : SaysZ K) {w : World} (base : Heap) : Kn PW w K mg base 1 "_law_mixed" ["cell", "n"] sp_mixed := ok_mixed (txt X G c) (at_L_law_mixed X G c)
theorem at_L_law_draw (X : K.In h) (G : h.Ns mainGlobals mg) (c : SaysZ K) : At K mg "_law_draw" s_law_draw ["m", "limit"] := by
  obtain ⟨fd, F⟩ := (says_d c).def_ 24 (d := dd24) rfl
  exact ⟨_, fd, at_fun F, He.glo_ok X G ((says_d c).fact 24 (f := .glo "_law_draw") rfl), FunD.bindsN F fun _ _ _ _ _ _ us hl => match us, hl with | [_, _], _ => rfl⟩
theorem kk_draw (X : K.In h) (G : h.Ns mainGlobals mg) (c : SaysZ K) {w : World} (base : Heap) : Kn PW w K mg base 2 "_law_draw" ["m", "limit"] sp_draw := ok_draw (txt X G c) (kk_mixed X G c base) (at_L_law_draw X G c)
theorem at_L_law_folded (X : K.In h) (G : h.Ns mainGlobals mg) (c : SaysZ K) : At K mg "_law_folded" s_law_folded ["script"] := by
  obtain ⟨fd, F⟩ := (says_d c).def_ 23 (d := dd23) rfl
  exact ⟨_, fd, at_fun F, He.glo_ok X G ((says_d c).fact 23 (f := .glo "_law_folded") rfl), FunD.bindsN F fun _ _ _ _ _ _ us hl => match us, hl with | [_], _ => rfl⟩
theorem kk_law_folded (X : K.In h) (G : h.Ns mainGlobals mg) (c : SaysZ K) {w : World} (base : Heap) : Kn PW w K mg base 1 "_law_folded" ["script"] (spFolded K) := ok_law_folded (txt X G c) (at_L_law_folded X G c)
theorem at_L_law_begun (X : K.In h) (G : h.Ns mainGlobals mg) (c : SaysZ K) : At K mg "_law_begun" s_law_begun ["script"] := by
  obtain ⟨fd, F⟩ := (says_d c).def_ 25 (d := dd25) rfl
  exact ⟨_, fd, at_fun F, He.glo_ok X G ((says_d c).fact 25 (f := .glo "_law_begun") rfl), FunD.bindsN F fun _ _ _ _ _ _ us hl => match us, hl with | [_], _ => rfl⟩
theorem kk_law_begun (X : K.In h) (G : h.Ns mainGlobals mg) (c : SaysZ K) {w : World} (base : Heap) : Kn PW w K mg base 2 "_law_begun" ["script"] (spBegun K) := ok_law_begun (txt X G c) (kk_law_folded X G c base) (at_L_law_begun X G c)
theorem at_L_law_like (X : K.In h) (G : h.Ns mainGlobals mg) (c : SaysZ K) : At K mg "_law_like" s_law_like ["got", "due"] := by
  obtain ⟨fd, F⟩ := (says_d c).def_ 26 (d := dd26) rfl
  exact ⟨_, fd, at_fun F, He.glo_ok X G ((says_d c).fact 26 (f := .glo "_law_like") rfl), FunD.bindsN F fun _ _ _ _ _ _ us hl => match us, hl with | [_, _], _ => rfl⟩
theorem kk_law_like (X : K.In h) (G : h.Ns mainGlobals mg) (c : SaysZ K) {w : World} (base : Heap) : Kn PW w K mg base 1 "_law_like" ["got", "due"] (spLike K) := ok_law_like (txt X G c) (at_L_law_like X G c)
theorem at_L_law_put (X : K.In h) (G : h.Ns mainGlobals mg) (c : SaysZ K) : At K mg "_law_put" s_law_put ["row", "n", "thing"] := by
  obtain ⟨fd, F⟩ := (says_d c).def_ 33 (d := dd33) rfl
  exact ⟨_, fd, at_fun F, He.glo_ok X G ((says_d c).fact 33 (f := .glo "_law_put") rfl), FunD.bindsN F fun _ _ _ _ _ _ us hl => match us, hl with | [_, _, _], _ => rfl⟩
theorem kk_law_put (X : K.In h) (G : h.Ns mainGlobals mg) (c : SaysZ K) {w : World} (base : Heap) : Kn PW w K mg base 1 "_law_put" ["row", "n", "thing"] spPut := ok_law_put (txt X G c) (at_L_law_put X G c)
theorem at_L_law_need_error (X : K.In h) (G : h.Ns mainGlobals mg) (c : SaysZ K) : At K mg "_law_need_error" s_law_need_error ["deal"] := by
  obtain ⟨fd, F⟩ := (says_d c).def_ 32 (d := dd32) rfl
  exact ⟨_, fd, at_fun F, He.glo_ok X G ((says_d c).fact 32 (f := .glo "_law_need_error") rfl), FunD.bindsN F fun _ _ _ _ _ _ us hl => match us, hl with | [_], _ => rfl⟩
theorem kk_law_need_error (X : K.In h) (G : h.Ns mainGlobals mg) (c : SaysZ K) {w : World} (base : Heap) : Kn PW w K mg base 8 "_law_need_error" ["deal"] spNErr := ok_law_need_error (txt X G c) (own_tD X G c) (kk_need_deal X G c base) (at_L_law_need_error X G c)
theorem at_L_law_error (X : K.In h) (G : h.Ns mainGlobals mg) (c : SaysZ K) : At K mg "_law_error" s_law_error ["deal", "family"] := by
  obtain ⟨fd, F⟩ := (says_d c).def_ 31 (d := dd31) rfl
  exact ⟨_, fd, at_fun F, He.glo_ok X G ((says_d c).fact 31 (f := .glo "_law_error") rfl), FunD.bindsN F fun _ _ _ _ _ _ us hl => match us, hl with | [_, _], _ => rfl⟩
theorem kk_law_error (X : K.In h) (G : h.Ns mainGlobals mg) (c : SaysZ K) {w : World} (base : Heap) : Kn PW w K mg base 10 "_law_error" ["deal", "family"] spLErr := ok_law_error (txt X G c) (own_tD X G c) (own_tF X G c) (exm_z c) (kk_dealt_lines X G c base) (at_L_law_error X G c)
theorem at_L_law_planted (X : K.In h) (G : h.Ns mainGlobals mg) (c : SaysZ K) : At K mg "_law_planted" s_law_planted ["row", "looks"] := by
  obtain ⟨fd, F⟩ := (says_d c).def_ 27 (d := dd27) rfl
  exact ⟨_, fd, at_fun F, He.glo_ok X G ((says_d c).fact 27 (f := .glo "_law_planted") rfl), FunD.bindsN F fun _ _ _ _ _ _ us hl => match us, hl with | [_, _], _ => rfl⟩
theorem kk_law_planted (X : K.In h) (G : h.Ns mainGlobals mg) (c : SaysZ K) {w : World} (base : Heap) : Kn PW w K mg base 1 "_law_planted" ["row", "looks"] spPlanted := ok_law_planted (txt X G c) (at_L_law_planted X G c)
theorem at_L_law_family (X : K.In h) (G : h.Ns mainGlobals mg) (c : SaysZ K) : At K mg "_law_family" s_law_family ["m", "marks", "most"] := by
  obtain ⟨fd, F⟩ := (says_d c).def_ 28 (d := dd28) rfl
  exact ⟨_, fd, at_fun F, He.glo_ok X G ((says_d c).fact 28 (f := .glo "_law_family") rfl), FunD.bindsN F fun _ _ _ _ _ _ us hl => match us, hl with | [_, _, _], _ => rfl⟩
theorem kk_law_family (X : K.In h) (G : h.Ns mainGlobals mg) (c : SaysZ K) {w : World} (base : Heap) : Kn PW w K mg base 3 "_law_family" ["m", "marks", "most"] spLFam := ok_law_family (txt X G c) (He.free_ok X G ((says_d c).fact 53 (f := .free "min") rfl)) (kk_draw X G c base) (kk_law_planted X G c base) (at_L_law_family X G c)
theorem at_L_law_deal (X : K.In h) (G : h.Ns mainGlobals mg) (c : SaysZ K) : At K mg "_law_deal" s_law_deal ["m", "marks", "wide"] := by
  obtain ⟨fd, F⟩ := (says_d c).def_ 29 (d := dd29) rfl
  exact ⟨_, fd, at_fun F, He.glo_ok X G ((says_d c).fact 29 (f := .glo "_law_deal") rfl), FunD.bindsN F fun _ _ _ _ _ _ us hl => match us, hl with | [_, _, _], _ => rfl⟩
theorem kk_law_deal (X : K.In h) (G : h.Ns mainGlobals mg) (c : SaysZ K) {w : World} (base : Heap) : Kn PW w K mg base 3 "_law_deal" ["m", "marks", "wide"] spLDeal := ok_law_deal (txt X G c) (kk_draw X G c base) (at_L_law_deal X G c)
theorem kk_law_put2 (X : K.In h) (G : h.Ns mainGlobals mg) (c : SaysZ K) {w : World} (base : Heap) : Kn PW w K mg base 1 "_law_put" ["row", "n", "thing"] spPut2 := ok_law_put2 (txt X G c) (at_L_law_put X G c)
theorem at_L_law_odd_deals (X : K.In h) (G : h.Ns mainGlobals mg) (c : SaysZ K) : At K mg "_law_odd_deals" s_law_odd_deals ["m", "deal"] := by
  obtain ⟨fd, F⟩ := (says_d c).def_ 34 (d := dd34) rfl
  exact ⟨_, fd, at_fun F, He.glo_ok X G ((says_d c).fact 34 (f := .glo "_law_odd_deals") rfl), FunD.bindsN F fun _ _ _ _ _ _ us hl => match us, hl with | [_, _], _ => rfl⟩
theorem kk_law_odd_deals (X : K.In h) (G : h.Ns mainGlobals mg) (c : SaysZ K) {w : World} (base : Heap) : Kn PW w K mg base 3 "_law_odd_deals" ["m", "deal"] spOddD := ok_law_odd_deals (txt X G c) (kk_draw X G c base) (kk_law_put2 X G c base) (at_L_law_odd_deals X G c)
theorem at_law (X : K.In h) (G : h.Ns mainGlobals mg) (c : SaysZ K) : At K mg "law" s_law ["script"] := by
  obtain ⟨fd, F⟩ := (says_d c).def_ 35 (d := dd35) rfl
  exact ⟨_, fd, at_fun F, He.glo_ok X G ((says_d c).fact 35 (f := .glo "law") rfl), FunD.bindsN F fun _ _ _ _ _ _ us hl => match us, hl with | [_], _ => rfl⟩
theorem kk_law (X : K.In h) (G : h.Ns mainGlobals mg) (c : SaysZ K) {w : World} (base : Heap) : Kn PW w K mg base 11 "law" ["script"] (spLaw K) := ok_law (txt X G c) (kk_law_begun X G c base) (kk_draw X G c base) (kk_law_deal X G c base) (kk_law_family X G c base) (kk_law_like X G c base) (kk_need_deal X G c base) (kk_dealt_lines X G c base) (kk_law_dealt X G c base) (kk_law_odd_deals X G c base) (kk_law_need_error X G c base) (kk_law_error X G c base) (at_law X G c)
end
end Hk
set_option Elab.async false
set_option linter.all false
set_option maxRecDepth 100000
set_option maxHeartbeats 4000000
namespace Hk
open PySem PySem.Spec PyProof.Rows L2
/-- the law is entered: its table is empty, all else that is not followed is the ground -/
theorem law_entered {K : PySem.W.Frag} {mg mb : Str → Option Value} {w : World} {s1 : Shared} {fa a co Pt : Addr} {vs : List Value} {ns : List Int} (X : K.In s1.heap) (hns : s1.heap.Ns mainGlobals mg) (hb : s1.heap.Ns builtinsNs mb)
    (hbb : ∀ x : Str, x ≠ "__name__" → mb x = bootBuiltins x) (lim : s1.heap.NoLimit) (gens : s1.gens = #[]) (tabP : s1.heap.TableAt co Pt #[]) (hdP : PySem.W.CodeHd s1.heap co Pt) (noP : K.lookup Pt = none)
    (hbm : ∃ (bm : Addr) (ob : Obj), mg "__builtins__" = some (.ref bm) ∧ bm ≠ builtinsNs ∧ s1.heap.get? bm = some ob ∧ ob.cls = .type "module" ∧ ob.dict = some builtinsNs ∧ ob.data = .plain)
    (ha : s1.heap.get? a = some { cls := .type "list", data := .seq vs.toArray }) (hi : IntsAre vs ns) (l63 : ns.length ≤ 63)
    (F : ∀ base : Heap, Kn PW w K mg base 11 "law" ["script"] (spLaw K)) (hm : mg ("law" : Str) = some (.ref fa)) :
    codeAny (model PW w) callerA (.call (.ref fa) ⟨[.ref a], []⟩) (fun r s' => r = .ok (.ret (.bool true)) ∧ OldK s1.heap s'.heap ∧ s'.os = s1.os ∧ AllBare s'.gens) s1 := by
  have hP : s1.heap.get? Pt = some { cls := .none, data := .fields #[] } := tabP.2
  have rv := vals_ints hi
  have lv : vs.length = ns.length := hi.length
  have small : vs.length ≤ sizeLine := Nat.le_trans (by rw [lv]; exact l63) (by decide)
  have aP : a ≠ Pt := fun z => by
    rw [z, hP] at ha
    cases ha
  let oa : Obj := { cls := .type "list", data := .seq vs.toArray }
  let H : Hp := fun b => if b = Pt then some (.tbl #[]) else if b = a ∧ K.lookup a = none then some (.frz oa (.lst (ns.map V.int))) else none
  have HP : H Pt = some (.tbl #[]) := if_pos rfl
  have Hcase : ∀ b u, H b = some u → (b = Pt ∧ u = .tbl #[]) ∨ (b = a ∧ K.lookup a = none ∧ u = .frz oa (.lst (ns.map V.int))) := fun b u e => by
    by_cases h1 : b = Pt
    · have z : some (HO.tbl #[]) = some u := (if_pos h1).symm.trans e
      exact .inl ⟨h1, (Option.some.inj z).symm⟩
    · by_cases h2 : b = a ∧ K.lookup a = none
      · have z : some (HO.frz oa (.lst (ns.map V.int))) = some u := (if_pos h2).symm.trans ((if_neg h1).symm.trans e)
        exact .inr ⟨h2.1, h2.2, (Option.some.inj z).symm⟩
      · have z : none = some u := (if_neg h2).symm.trans ((if_neg h1).symm.trans e)
        cases z
  have Ha : SqL K H a (ns.map V.int) := by
    cases q : K.lookup a with
    | none => exact .inl (.inr ⟨oa, (if_neg aP).trans (if_pos ⟨rfl, q⟩)⟩)
    | some o =>
      have e := X a o q
      rw [ha] at e
      cases e
      exact .inr ⟨_, vs.toArray, _, q, rfl, rfl, rfl, by rw [List.size_toArray]; exact small, by simpa using rv⟩
  have plain : ∀ {b : Addr} {o : Obj}, s1.heap.get? b = some o → (∀ us n, o.data ≠ .seq us n) → o.data ≠ .fields #[] → H b = none := fun {b o} e d1 d2 => by
    cases q : H b with
    | none => rfl
    | some u =>
      rcases Hcase b u q with ⟨z, _⟩ | ⟨z, _⟩
      · rw [z, hP] at e
        cases e
        exact (d2 rfl).elim
      · rw [z, ha] at e
        cases e
        exact (d1 _ _ rfl).elim
  have onG : ∀ {b : Addr} {o : Obj}, s1.heap.get? b = some o → H b = none → (hidT s1.heap H).get? b = some o := fun e n => hidT_get e n
  have nsG : ∀ {b : Addr} {m : Str → Option Value}, s1.heap.Ns b m → (hidT s1.heap H).Ns b m := fun {b m} ⟨o, es, ep, e, d, r⟩ =>
    ⟨o, es, ep, onG e (plain e (fun us n z => by rw [d] at z; cases z) fun z => by rw [d] at z; cases z), d, r⟩
  have inG : K.In (hidT s1.heap H) := fun b o e => onG (X b o e) (by
    cases q : H b with
    | none => rfl
    | some u =>
      rcases Hcase b u q with ⟨z, _⟩ | ⟨z, z2, _⟩
      · rw [z, noP] at e
        cases e
      · rw [z, z2] at e
        cases e)
  have modG : L2.Mod K mg (hidT s1.heap H) := by
    obtain ⟨mc, h1, h2⟩ := lim
    exact ⟨inG, nsG hns, ⟨mb, nsG hb, hbb⟩, mc, nsG h1, h2⟩
  have okH : HOk PW w H s1.heap := fun b u e => by
    rcases Hcase b u e with ⟨rfl, rfl⟩ | ⟨rfl, _, rfl⟩
    · exact hP
    · exact ⟨ha, by rw [List.length_map, ← lv]; exact small, vs, _, rv, ha⟩
  have env : Env0 PW w K mg (hidT s1.heap H) callerA [] s1 H := ⟨rfl, modG, fun b o e => of_hidT e, Nat.le_of_eq (hidT_size _ _), trivial, fun b z => absurd (show b ∈ ([] : List Addr) from z) (by simp), okH, .of_eq gens⟩
  obtain ⟨f', fd, FG, em, _, bnd⟩ := F (hidT s1.heap H)
  have ef : f' = fa := by
    rw [hm] at em
    cases em
    rfl
  subst ef
  refine codeAny_mono (FG.goes callerA [] s1 H ⟨[.ref a], []⟩ [.ref a] [.ref a] (fun v _ => v = .bl true) (fun _ _ _ => False) ⟨rfl, by decide, by decide⟩ rfl env (bnd s1 [.ref a] X rfl) (.cons rfl .nil) ⟨a, ns, rfl, Ha, l63, fun _ => rfl⟩) ?_
  intro r s2 h
  match r, h with
  | .error e, h =>
    obtain ⟨_, _, _, _, _, _, _, _, _, _, _, _, z⟩ := h
    exact z.elim
  | .ok (.ret u), ⟨v, H2, os, bare, un, ok2, rel, q⟩ =>
    have q : v = .bl true := q
    subst q
    obtain rfl : u = Value.bool true := rel
    obtain ⟨more, hm⟩ := un.tbls Pt #[] HP
    have grown : s2.heap.get? Pt = some { cls := .none, data := .fields (#[] ++ more) } := ok2 Pt _ hm
    rw [Array.empty_append] at grown
    have stays : ∀ b o, b ≠ Pt → s1.heap.get? b = some o → s2.heap.get? b = some o := fun b o nb e => by
      cases z : H b with
      | none => exact un.keep b o e z (by intro y; cases y) (by intro y; cases y)
      | some u =>
        rcases Hcase b u z with ⟨y, _⟩ | ⟨rfl, _, rfl⟩
        · exact absurd y nb
        · obtain ⟨e1, _⟩ := ok2 b _ (un.frzs b oa _ z)
          rw [ha] at e
          cases e
          exact e1
    refine ⟨rfl, ⟨fun b o e => ?_, fun b o e => ?_⟩, os, bare⟩
    · by_cases hb2 : b = Pt
      · subst hb2
        rw [hP] at e
        cases e
        exact .inr (.inl ⟨tabP.isCodeTable, rfl, #[], more, rfl, by rw [Array.empty_append]; exact grown⟩)
      · exact .inl (stays b o hb2 e)
    · by_cases hb2 : b = Pt
      · exact ⟨_, by rw [hb2]; exact grown⟩
      · exact ⟨o, stays b o hb2 e⟩
end Hk
open PySem PySem.W PySem.Calls PyProof.Rows
theorem PySem.Challenge.cw_heirlines_k58_deals_holds : PySem.Challenge.rw_heirlines_k58_deals.Holds := by
  w_on; o_law
  refine HandSHeadRun.head_any (r := Hk.RR) (q := view Hk.RR.prog [54]) (H := Hk.hk1) (ob := Hk.ob1) (M := 8000) (loose := Hk.loose) (d := HandSHeadRun.topDef Hk.RR.prog 54) (kwd := []) Hk.ob1_eq
    (by kernel_rfl) (fun s => by kernel_rfl) Hk.run1 (by kernel_rfl) (by kernel_rfl) (by kernel_rfl) (by rfl) (by first | assumption | decide +kernel) (by decide +kernel) ⟨rfl, rfl, rfl, rfl, rfl, by decide +kernel⟩ ?hw ?hc
  case hw => w_witness2
  case hc =>
    refine Att.attach_callB (n := 63) rfl (by kernel_rfl) fun w s₀ s1 mg mb fa o pm cd doc a vs ns G Y ho hd hcd hmg0 hobj hints hlen hbits hg => ?_
    obtain ⟨K, KX, c⟩ := Y
    have hmg : mg ("law" : PySem.Str) = some (.ref fa) := by
      have e : (HandSHeadRun.topDef Hk.RR.prog 54).name = ("law" : PySem.Str) := by kernel_rfl
      rw [← e]
      exact hmg0
    have hrec : ((recsOf (view Hk.RR.prog [54])).any fun e => e.name == ("law" : PySem.Str)) = true := by kernel_rfl
    obtain ⟨dL, hm, hn⟩ := List.any_eq_true.mp hrec
    obtain ⟨fa2, o2, fd2, co, Pt, h1, h2, h3, h4, h5, h6⟩ := G.T.tab dL hm
    rw [show dL.name = ("law" : PySem.Str) from beq_iff_eq.mp hn, hmg] at h1
    cases h1
    have noP : K.lookup Pt = none := by
      cases q : K.lookup Pt with
      | none => rfl
      | some o =>
        have z := KX _ _ q
        rw [h6.2] at z
        cases z
        have y := c.2 _ _ q
        cases y
    exact Hk.law_entered KX G.T.g G.T.b G.T.builtins G.T.nolimit hg h6 (PySem.W.CodeHd.of h5 h6) noP G.T.bmain hobj hints hlen (fun base => Hk.kk_law KX G.T.g c base) hmg
