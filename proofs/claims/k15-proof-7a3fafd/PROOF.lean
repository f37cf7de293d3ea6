import PyProof.Rows.All
import Wide.All
import OpenK.AllK
import Wide.FinOn
import HandS.ForMost
import HandS.ForExc
import HandS.Lambda
import HandS.HeadEnd
import KE.KSuper
import HandS.ExcInit
import HandS.Star
import HandS.IsInst
import HandS.Style
import HandS.Flow
import HandS.Deep
import HandS.TupAny
import HandS.CallSlots
import HandS.TryMany
import KE.GoesEnum
import HandS.Walk
import KE.KDictKeyed
import HandS.Exc
import KE.KExcIs
import HandS.ExcIs
import HandS.Wide
import HandS.Defaults
import HandS.Comp
import HandS.WordsExc
import HandS.Head0
import HandS.Head1
import HandS.Head2
import HandS.HeadHook1
import HandS.HeadHook2
import HandS.EndTab
import PySem.Challenge.RW_heirlines_k15_whole_customs_judged
set_option Elab.async false
set_option linter.all false
set_option maxRecDepth 100000
set_option maxHeartbeats 4000000
namespace Hk
open PySem PySem.Spec PyProof.Rows L2
/-! ### repr of data -/
def rShow (K : PySem.W.Frag) : List V → Hp → VK → Prop := fun xs H Q =>
  ∃ (x : V) (d : PyData), xs = [x] ∧ Dp K H x d ∧ d.showable = true ∧ d.canLay0 = true ∧ d.depth ≤ 60 ∧ d.shown.length ≤ sizeLine ∧ Q (.str d.shown) H
theorem call_show {X : Cx} (free : X.A.guards = some []) (room : X.A.units + 64 < cLine) : CallR X (.builtin "repr") (rShow X.K) := by
  intro pins st σ H zs ws Q I rel want
  obtain ⟨x, d, rfl, dp, sh, lay, deep, short, goal⟩ := want
  obtain ⟨v, rfl, rv⟩ := vals1 rel
  cases dp with
  | non =>
    cases (show v = Value.none from rv)
    exact PySem.P.repr_of_none ⟨.str _, H, I.tok _, ⟨_, rfl⟩, goal⟩
  | bl b =>
    cases (show v = Value.bool b from rv)
    refine PySem.P.repr_of_bool ⟨.str _, H, I.tok _, ⟨_, rfl⟩, ?_⟩
    simpa [PyData.shown] using goal
  | int i =>
    obtain ⟨t, rfl⟩ := (show ∃ t, v = Value.int i t from rv)
    refine PySem.P.repr_of_int (by simpa [PyData.showable] using sh) ⟨.str _, H, I.tok _, ⟨_, rfl⟩, ?_⟩
    simpa [PyData.shown] using goal
  | str y =>
    obtain ⟨t, rfl⟩ := (show ∃ t, v = Value.str y t from rv)
    refine PySem.P.repr_of_str ⟨.str _, H, I.tok _, ⟨_, rfl⟩, ?_⟩ (by simpa [PyData.shown] using short)
    simpa [PyData.shown] using goal
  | @lst a xs ds hs ha =>
    cases (show v = Value.ref a from rv)
    obtain ⟨as, rd⟩ := Dp.reads I _ _ _ (Dp.lst hs ha) (show RelV (.ref a) (.ref a) from rfl)
    exact repr_of_reads' rd sh (PyData.noDict_hsm (PyData.hasDict_of_canLay _ lay)) free (by omega) (fun b o e => e)
      (fun h' u tk grow => ⟨.str _, H, I.kept grow, ⟨_, rfl⟩, goal⟩) short
  | @tup a xs ds hs ha =>
    cases (show v = Value.ref a from rv)
    obtain ⟨as, rd⟩ := Dp.reads I _ _ _ (Dp.tup hs ha) (show RelV (.ref a) (.ref a) from rfl)
    exact repr_of_reads' rd sh (PyData.noDict_hsm (PyData.hasDict_of_canLay _ lay)) free (by omega) (fun b o e => e)
      (fun h' u tk grow => ⟨.str _, H, I.kept grow, ⟨_, rfl⟩, goal⟩) short
/-! ### promises of defs that are entered where no repr is under way -/
structure FnG (P : Program) (w : World) (K : PySem.W.Frag) (mg : Str → Option Value) (base : Heap) (CX : CXT) (k : Nat) (f : Addr) (fd : FuncData) (ps : List Str) (sp : Sp) : Prop where
  many : ∀ vs H Q E, sp vs H Q E → vs.length = ps.length
  goes : ∀ (A : Around) (outer : List Env) (st : Shared) (H : Hp) (given : Args) (us : List Value) (vs : List V) (Q : VK) (E : XK), Room k A → A.guards = some [] →
    Env0 P w K mg base A outer st H → BindsTo st fd given (ps.zip us) → Vals vs us → sp vs H Q E → codeAny (model P w) A (.call (.ref f) given) (CR CX outer P w H st Q E) st
theorem FnG.of {P : Program} {w : World} {K : PySem.W.Frag} {mg : Str → Option Value} {base : Heap} {CX : CXT} {k : Nat} {f : Addr} {fd : FuncData} {ps : List Str} {sp : Sp}
    (F : FnOk P w K mg base CX k f fd ps sp) : FnG P w K mg base CX k f fd ps sp :=
  ⟨F.len, fun A outer st H given us vs Q E hr _ => F.run A outer st H given us vs Q E hr⟩
theorem fnG_mk {P : Program} {w : World} {K : PySem.W.Frag} {mg : Str → Option Value} {base : Heap} {CX : CXT} {x qual : Str} {st : Stmt} {f : Addr} {fd : FuncData} {N ps : List Str} {k : Nat} {sp : Sp} (F : Fun K x qual st f fd) (S : FnScope N ps (defScope st))
    (many : ∀ vs H Q E, sp vs H Q E → vs.length = ps.length)
    (body : ∀ (cdv : Value) (A : Around) (outer : List Env) (s : Shared) (H : Hp) (vs : List V) (Q : VK) (E : XK), Room k (A.deeper (envOfC qual (defScope st) s.heap.objs.size f cdv)) → (A.deeper (envOfC qual (defScope st) s.heap.objs.size f cdv)).guards = some [] → sp vs H Q E →
      ∃ t, PSs (cxOf CX P w K mg base N qual (defScope st) f cdv A outer s H E) (defBody st) t ∧ t { nx := fun _ H' => Q .non H', rt := Q } (start N vs) H) : FnG P w K mg base CX (k + 1) f fd ps sp := by
  obtain ⟨oc, od, kV, doc, pm, an, cdv, ct, osl, rfl, lk, hcd⟩ := F.ex
  refine ⟨many, fun A outer s H given us vs Q E hr free e0 hb rel want => ?_⟩
  exact LamX.run_ofS lk hcd S hr e0 hb rel (many _ _ _ _ want) fun hr' => body cdv A outer s H vs Q E hr' free want
section
variable {X : Cx} {CX : CXT} {k : Nat} {f : Addr} {fd : FuncData} {ps : List Str} {sp : Sp} {E : XK} {x : Str} {p pos : Pos} {e : Expr} {es : List Expr} {t : TA}
/-- x(e, ..), x a def of the text with such a promise -/
theorem pe_callG (F : FnG X.prog X.w X.K X.mg X.base CX k f fd ps sp) (free : X.A.guards = some []) (hr : Room k X.A) (isg : Gl X x) (at_ : X.mg x = some (.ref f)) (kept : PySem.W.keepIn X.K (.ref f) = true) (bind : Binds X.K fd ps [])
    (out : Passes CX X E) (args : PA X (e :: es) t) (nd : (x == ("__debug__" : Str)) = false := by decide)
    (head : starEach (e :: es) X.env = (false, eval e X.env) :: starEach es X.env := by rfl) (flat : (backTo pos (starEach es X.env)).any (·.1) = false := by rfl) :
    PE X (.Call (.Name x p) (e :: es) [] pos) (tCall sp [] E t) := by
  constructor
  intro pins st σ H Q I want
  apply wpAny_Call_Name_kw
  apply ld_glob I isg at_ _ nd
  apply PySem.W.callWith_K (h₀ := X.base) I.ok.mod.kin kept _ head flat
  apply thn (args.run pos pins st σ H _ I want)
  rintro us s1 ⟨vs, H1, I1, rel, goal⟩
  refine ⟨I1.kIn, ?_⟩
  rw [List.append_nil] at goal
  have hl : (us ++ []).length = ps.length := by rw [List.append_nil, ← rel.length]; exact F.many _ _ _ _ goal
  have hb := bind s1 us I1.kIn hl
  rw [List.append_nil] at hb
  apply wpAny_call
  refine codeAny_mono (F.goes X.A X.stack s1 H1 ⟨us, []⟩ us vs Q E hr free I1.env0 hb rel goal) ?_
  intro r s2 hq
  match r, hq with
  | .error e, hq => exact out pins σ H1 s1 e s2 I1 hq
  | .ok (.ret u), hq => exact I1.after hq
end
end Hk
set_option Elab.async false
set_option linter.all false
set_option maxRecDepth 100000
set_option maxHeartbeats 4000000
/-! an own error of two classes: the base keeps what it was made with (*things), the error says super().__init__(x) and keeps x under a name -/
namespace PySem
namespace OwnX
open PySem.W PySem.Calls PyProof.Rows PySem.HandSPX
/-! ### the texts of both __init__s -/
def hA (p1 p2 : Pos) : Arguments := { posonlyargs := [], args := [{ arg := "self", annotation := none, pos := p1 }], vararg := some { arg := "things", annotation := none, pos := p2 }, kwonlyargs := [], kw_defaults := [], kwarg := none, defaults := [] }
def hB (q1 q2 q3 q4 : Pos) : List Stmt := [.Assign [.Attribute (.Name "self" q1) "things" q2] (.Name "things" q3) q4]
def hS : Scope := { kind := .function, names := [(PySem.Str.ofString "self", .local), (PySem.Str.ofString "things", .local)], isGenerator := false, isCoroutine := false, more := [] }
def bA (fl : Str) (p1 p2 : Pos) : Arguments := { posonlyargs := [], args := [{ arg := "self", annotation := none, pos := p1 }, { arg := fl, annotation := none, pos := p2 }], vararg := none, kwonlyargs := [], kw_defaults := [], kwarg := none, defaults := [] }
def bB (fl : Str) (a1 a2 a3 a4 a5 a6 q1 q2 q3 q4 : Pos) : List Stmt :=
  [.Expr (.Call (.Attribute (.Call (.Name "super" a1) [] [] a2) "__init__" a3) [.Name fl a4] [] a5) a6, .Assign [.Attribute (.Name "self" q1) fl q2] (.Name fl q3) q4]
def bS (fl : Str) : Scope := { kind := .function, names := [(PySem.Str.ofString "self", .local), (fl, .local), (PySem.Str.ofString "__class__", .free), (PySem.Str.ofString "super", .globalImplicit)], isGenerator := false, isCoroutine := false, more := [] }
/-- what is asked of the field's name -/
structure Fld (fl : Str) : Prop where
  self : (("self" : Str) == fl) = false
  self' : (fl == ("self" : Str)) = false
  cls : (("__class__" : Str) == fl) = false
  sup : (("super" : Str) == fl) = false
  things : (fl == ("things" : Str)) = false
  dbg : (fl == ("__debug__" : Str)) = false
/-- what the written part says of the base class at B (__init__ at fB) and of the error's at C (__init__ at fI, its cell cc, its code cda) -/
structure OwnTxt (P : Program) (K : Frag) (mg : Str → Option Value) (nm fl : Str) (C B fI fB : Addr) : Prop where
  fld : Fld fl
  gC : mg nm = some (.ref C)
  cls : ∃ n q N bs bm sn sub ab col dd k0 k1 k2 k3 k5, K.lookup C = some (excClassObj n q C N bs bm true sn sub ab col dd k0 k1 k2 k3 k5 "ValueError.__new__") ∧ refsVE bm = true
  sa : findIn K (.ref C) "__setattr__" = some (some (.builtin "object.__setattr__"))
  ga : findIn K (.ref C) "__getattribute__" = some (some (.builtin "BaseException.__getattribute__"))
  gg : findIn K (.ref C) "__getattr__" = some none
  noT : findIn K (.ref C) "things" = some none
  noF : findIn K (.ref C) fl = some none
  iC : findIn K (.ref C) "__init__" = some (some (.ref fI))
  tC : typeIn K (.ref fI) = some (.type "function")
  sup : ks_superIn K C C "__init__" = some (some (.ref fB))
  tB : typeIn K (.ref fB) = some (.type "function")
  kC : keepIn K (.ref C) = true
  exC : subIn K (.ref C) (.type "BaseException") = some true
  tyC : typeIn K (.ref C) = some (.type "type")
  hdC : hasDictIn K C = true
  te : exmOne K (.ref C) (.ref C) = some true
  selfC : mroIn K C (.ref C) = some true
  opq : nsIn K cStatics "thirdparty.any" = some none
  nsup : mg "super" = none
  tops : (P.main.scope.names.lookup ("super" : Str)).isSome = false
  fnI : ∃ (q : Str) (oc : Value) (od : Option Addr) (doc pm : Value) (an : Option Addr) (cda cc : Addr) (ct : Value) (osl : Array (Option Value)) (p1 p2 a1 a2 a3 a4 a5 a6 q1 q2 q3 q4 : Pos),
    K.lookup fI = some ⟨oc, od, .func (ksFn "__init__" q (bA fl p1 p2) (bB fl a1 a2 a3 a4 a5 a6 q1 q2 q3 q4) (bS fl) .none .none doc pm an (.ref cda) ct cc), osl⟩ ∧ codeIn K (.ref cda) q = true ∧ (a3.endLine == a5.line) = true ∧
    (∀ x v : Value, bindArgs (ksFn "__init__" q (bA fl p1 p2) (bB fl a1 a2 a3 a4 a5 a6 q1 q2 q3 q4) (bS fl) .none .none doc pm an (.ref cda) ct cc) ⟨[x, v], []⟩ = pure [(PySem.Str.ofString "self", x), (fl, v)]) ∧
    (∃ (ccl : Value) (cdd : Option Addr) (vs : Array Value) (ccs : Array (Option Value)) (tf : Tok), K.lookup cda = some ⟨ccl, cdd, .fields vs, ccs⟩ ∧ vs[2]? = some (.str P.main.file tf)) ∧
    ∃ (cl : Value) (cld : Option Addr) (csl : Array (Option Value)), K.lookup cc = some ⟨cl, cld, .cell (some (.ref C)), csl⟩
  fnB : ∃ (q : Str) (oc : Value) (od : Option Addr) (doc pm : Value) (an : Option Addr) (cdv ct : Value) (osl : Array (Option Value)) (p1 p2 q1 q2 q3 q4 : Pos),
    K.lookup fB = some ⟨oc, od, .func (fnOf "__init__" q (hA p1 p2) (hB q1 q2 q3 q4) hS .none .none doc pm an cdv ct), osl⟩ ∧ codeIn K cdv q = true ∧ fnIn K fB = true
theorem LowL.ld {M : Model} {A : Around} {E : Value → Shared → Prop} {s : Shared} {env : Env} {m : Str → Option Value} {x : Str} {pos : Pos} {v : Value} {Q : Value → Shared → Prop} (hn : s.heap.Ns env.locals m) (hv : m x = some v) (h : Q v s)
    (hk : env.scope.kind = .function := by rfl) (hl : env.kindOf x = some .local := by rfl) (hd : (x == ("__debug__" : Str)) = false := by decide) : wpAny M A (eval (.Name x pos) env) Q E s :=
  wpAny_Name (wpAny_loadName_local hk hl hn hv h) hd
theorem super_call {fl : Str} {a1 a2 a3 a4 a5 : Pos} {env : Env} (hpos : (a3.endLine == a5.line) = true) : eval (.Call (.Attribute (.Call (.Name "super" a1) [] [] a2) "__init__" a3) [.Name fl a4] [] a5) env = (do
      let ov ← attributeBase (.Call (.Name "super" a1) [] [] a2) "__init__" env (eval (.Call (.Name "super" a1) [] [] a2) env)
      standAt a3.atName
      let (f, first) ← holding [ov] (getMethod ov "__init__" (do return (← importBound (.Call (.Name "super" a1) [] [] a2) env).getD true))
      callWith a5 f first (backTo a5 (starEach [.Name fl a4] env)) []) := by
  have h1 : ∀ ov : Value, methodCall (.Call (.Name "super" a1) [] [] a2) "__init__" a3 a5 env ov 1 (backTo a5 (starEach [.Name fl a4] env)) [] = (do
      let (f, first) ← holding [ov] (getMethod ov "__init__" (do return (← importBound (.Call (.Name "super" a1) [] [] a2) env).getD true))
      callWith a5 f first (backTo a5 (starEach [.Name fl a4] env)) []) := by
    intro ov
    unfold methodCall methodCallPos calleeOf
    rw [show methodCallForm 1 (backTo a5 (starEach [.Name fl a4] env)) [] = true from rfl]
    simp [hpos]
  show (do
      let ov ← attributeBase (.Call (.Name "super" a1) [] [] a2) "__init__" env (eval (.Call (.Name "super" a1) [] [] a2) env)
      standAt a3.atName
      methodCall (.Call (.Name "super" a1) [] [] a2) "__init__" a3 a5 env ov 1 (backTo a5 (starEach [.Name fl a4] env)) []) = _
  simp only [h1]
/-- what the base's __init__ leaves of a fresh error at x -/
structure BaseEnd (h h' : Heap) (x C dx t1 p : Addr) : Prop where
  keep : ∀ b o, b ≠ x → h.get? b = some o → h'.get? b = some o
  obj : h'.get? x = some { cls := .ref C, dict := some dx, data := .fields #[.ref t1, .none, .none, .none, .bool false, .none] }
  dbig : h.objs.size ≤ dx
  dne : dx ≠ x
  ns : h'.Ns1 dx (fun y => if y = "things" then some (.ref p) else none)
section
variable {prog : Program} {w : World} {A : Around} {E : Value → Shared → Prop} {R : Result → Shared → Prop} {s : Shared} {K : Frag} {mg : Str → Option Value} {nm fl : Str} {C B fI fB : Addr}
theorem base_init (T : OwnTxt prog K mg nm fl C B fI fB) {x t0 : Addr} {v : Value} (X : K.In s.heap) (lim : s.heap.NoLimit) (hx : s.heap.get? x = some (excO C t0)) (room : A.depth < recursionLimit)
    (hq : ∀ h' tk dx p, BaseEnd s.heap h' x C dx t0 p → R (.ok (.ret .none)) { s with heap := h', toks := tk }) :
    codeAny (model prog w) A (.call (.ref fB) ⟨[.ref x, v], []⟩) R s := by
  obtain ⟨q, oc, od, doc, pm, an, cdv, ct, osl, p1, p2, q1, q2, q3, q4, ho, hcd, _⟩ := T.fnB
  obtain ⟨n, qc, N, bs, bm, sn, sub, ab, col, dd, k0, k1, k2, k3, k5, hC, hbm⟩ := T.cls
  have hcl : clsIn K C = some { name := n, bases := bs, mro := .ref C :: bm, ns := N, qualname := qc, hasDict := true, slotNames := sn, subclasses := sub, abstract := ab, collection := col, hasDel := false } := by unfold clsIn; rw [hC] <;> rfl
  refine codeAny_call_function room (X _ _ ho) rfl rfl rfl rfl (codeRec_of X hcd) ?_
  rw [show bindArgs (fnOf "__init__" q (hA p1 p2) (hB q1 q2 q3 q4) hS .none .none doc pm an cdv ct) ⟨[.ref x, v], []⟩ = (newTuple [v] >>= fun t => pure [(PySem.Str.ofString "self", Value.ref x), (PySem.Str.ofString "things", t)]) from rfl]
  refine wpAny_bind (wpAny_newTuple (wpAny_pure ?_) (by show 1 ≤ sizeLine; rw [sizeLine_eq]; decide))
  obtain ⟨hp, g, dr, tk, os⟩ := s
  have up : ∀ b o, hp.get? b = some o → (hp.push { cls := .type "tuple", data := .seq [v].toArray }).get? b = some o := fun b o e => Heap.get?_push_of_some _ e
  refine wpAny_newFunctionEnv (scope := hS) (by decide) (by intro y hy; simp at hy; rcases hy with rfl | rfl <;> rfl) (fun h₁ hns hsb => ⟨(lim.keeps up).fresh _ hsb, codeAny_func ?_⟩) rfl
  have up1 : ∀ b o, hp.get? b = some o → h₁.get? b = some o := fun b o e => hsb.extBut b o (Nat.ne_of_lt (Heap.lt_size (up b o e))) (Heap.get?_push_of_some _ (up b o e))
  have X1 : K.In h₁ := X.keeps up1
  have hx1 := up1 _ _ hx
  show wpAny _ _ (execs _ _) _ _ _
  refine wpAny_execs_cons (plainObj_wpAny_Assign_Attribute ?_)
  refine LowL.ld (v := .ref hp.objs.size) hns (by rfl) (LowL.ld (v := .ref x) hns (by rfl) ?_)
  refine set_plain X1 (ox := excO C t0) (od := none) ⟨hx1, rfl, rfl, trivial⟩ T.sa ?_
  refine exc_osa X1 hx1 hcl (show refsVE (.ref C :: bm) = true from hbm) rfl T.noT (fun h₃ tk₃ dx k₃ dn dne hx₃ hn₃ => ?_)
  show wpAny _ _ (execs _ _) _ _ _
  have sz : hp.objs.size ≤ h₁.objs.size := Nat.le_trans (Nat.le_succ _) (by
    have z := Nat.le_of_lt hns.lt
    rw [Heap.size_push] at z
    exact z)
  exact wpAny_execs_nil (hq h₃ tk₃ dx hp.objs.size ⟨fun b o hb e => k₃ b o hb (up1 b o e), hx₃, Nat.le_trans sz dn, dne, hn₃⟩)
/-- what the error's own __init__ leaves of a fresh one at x -/
structure OwnEnd (fl : Str) (h h' : Heap) (x C dx t1 p : Addr) (v : Value) : Prop where
  keep : ∀ b o, b ≠ x → h.get? b = some o → h'.get? b = some o
  obj : h'.get? x = some { cls := .ref C, dict := some dx, data := .fields #[.ref t1, .none, .none, .none, .bool false, .none] }
  dbig : h.objs.size ≤ dx
  dne : dx ≠ x
  ns : h'.Ns1 dx (fun y => if y = fl then some v else if y = "things" then some (.ref p) else none)
theorem own_init {base : Heap} (T : OwnTxt prog K mg nm fl C B fI fB) (M : L2.Mod K mg base) (up0 : ∀ b o, base.get? b = some o → s.heap.get? b = some o) {x t0 : Addr} {v : Value} (hx : s.heap.get? x = some (excO C t0)) (hnx : K.lookup x = none) (room : A.depth + 8 < recursionLimit)
    (hq : ∀ h' tk dx p, OwnEnd fl s.heap h' x C dx t0 p v → R (.ok (.ret .none)) { s with heap := h', toks := tk }) :
    codeAny (model prog w) A (.call (.ref fI) ⟨[.ref x, v], []⟩) R s := by
  have X : K.In s.heap := M.kin.keeps up0
  have lim : s.heap.NoLimit := M.nolimit.keeps up0
  obtain ⟨q, oc, od, doc, pm, an, cda, cc, ct, osl, p1, p2, a1, a2, a3, a4, a5, a6, q1, q2, q3, q4, ho, hcd, hpos, hbind, ⟨ccl, cdd, vs, ccs, tf, hcode, hvs⟩, cl, cld, csl, hcell⟩ := T.fnI
  obtain ⟨n, qc, N, bs, bm, sn, sub, ab, col, dd, k0, k1, k2, k3, k5, hC, hbm⟩ := T.cls
  have hcl : clsIn K C = some { name := n, bases := bs, mro := .ref C :: bm, ns := N, qualname := qc, hasDict := true, slotNames := sn, subclasses := sub, abstract := ab, collection := col, hasDel := false } := by unfold clsIn; rw [hC] <;> rfl
  have f := T.fld
  have lfl : (bS fl).names.lookup fl = some .local := by simp [bS, List.lookup, f.self']
  have lself : (bS fl).names.lookup (PySem.Str.ofString "self") = some .local := by simp [bS, List.lookup]
  have lcls : (bS fl).names.lookup (PySem.Str.ofString "__class__") = some .free := by
    have e0 : (PySem.Str.ofString "__class__" == PySem.Str.ofString "self") = false := by decide
    simp [bS, List.lookup, f.cls, e0]
  have lsup : (bS fl).names.lookup (PySem.Str.ofString "super") = some .globalImplicit := by
    have e0 : (PySem.Str.ofString "super" == PySem.Str.ofString "self") = false := by decide
    have e1 : (PySem.Str.ofString "super" == PySem.Str.ofString "__class__") = false := by decide
    simp [bS, List.lookup, f.sup, e0, e1]
  obtain ⟨hp, g, dr, tk, os⟩ := s
  refine ks_codeAny_call_defAt (fd := ksFn "__init__" q (bA fl p1 p2) (bB fl a1 a2 a3 a4 a5 a6 q1 q2 q3 q4) (bS fl) .none .none doc pm an (.ref cda) ct cc) (body := bB fl a1 a2 a3 a4 a5 a6 q1 q2 q3 q4) (binds := [(PySem.Str.ofString "self", .ref x), (fl, v)])
    (by omega) (X _ _ ho) rfl lim (codeRec_of X hcd) rfl (BindsTo.of_eq (hbind _ _)) ?_ ?_ (fun h₁ hns up1 => ?_) rfl rfl rfl
  · intro y hy
    simp [bS] at hy
    rcases hy with rfl | rfl | rfl | rfl <;> exact fun z => nomatch z
  · intro y hy
    simp at hy
    rcases hy with rfl | rfl
    · exact lself
    · exact lfl
  have mself : (List.reverse [(PySem.Str.ofString "self", Value.ref x), (fl, v)]).lookup (PySem.Str.ofString "self") = some (.ref x) := by simp [List.lookup, f.self]
  have mfl : (List.reverse [(PySem.Str.ofString "self", Value.ref x), (fl, v)]).lookup fl = some v := by simp [List.lookup]
  have X1 : K.In h₁ := X.keeps up1
  have hx1 := up1 _ _ hx
  have hC1 := X1 _ _ hC
  have xC : x ≠ C := fun z => by rw [z, hC] at hnx; cases hnx
  refine ks_wpAt_execs_cons (ks_wpAt_Expr_any (ks_wpAt_MethodCall (ks_wpAt_super_base (env := ksEnv q (bS fl) hp.objs.size fI (.ref cda) cc) lsup lcls (by decide) rfl (X1 _ _ ho) rfl (ar := { arg := "self", annotation := none, pos := p1 }) rfl rfl (X1 _ _ hcode) rfl hvs (by simp) T.tops ?_) (super_call hpos)) (by rfl) (by rfl))
  obtain ⟨mb, hmb, bmb⟩ := M.blt
  refine ks_loadName_global (by rfl) lsup (loadGlobal_builtin (env := ksEnv q (bS fl) hp.objs.size fI (.ref cda) cc) (M.glob.keeps fun b o e => up1 b o (up0 b o e)) T.nsup (hmb.keeps fun b o e => up1 b o (up0 b o e)) ((bmb _ (by decide)).trans (by decide +kernel)) ⟨rfl, ?_⟩)
  refine wpAny_loadName_free (env := ksEnv q (bS fl) hp.objs.size fI (.ref cda) cc) rfl lcls rfl ⟨_, X1 _ _ hcell, rfl⟩ ?_
  refine wpAny_loadName_local (env := ksEnv q (bS fl) hp.objs.size fI (.ref cda) cc) rfl lself hns mself ?_
  refine ks_wpAny_isType_cls hC1 rfl ⟨rfl, ?_⟩
  refine ks_wpAny_call_super hC1 rfl hx1 rfl (fun c e => by cases e) (looks_mroIn X1 T.selfC) (fun h₂ e₂ up2 => ?_)
  have X2 : K.In h₂ := X1.keeps up2
  obtain ⟨qb, ocb, odb, docb, pmb, anb, cdvb, ctb, oslb, b1, b2, b3, b4, b5, b6, hB, hBcd, hBfn⟩ := T.fnB
  have hsup : alongIn K "__init__" (((.ref C :: bm : List Value).dropWhile (· != .ref C)).drop 1) = some (some (.ref fB)) := by
    have z := T.sup
    unfold ks_superIn at z
    rw [hcl] at z
    exact z
  have hBc : ocb = .type "function" := by
    have z := T.tB
    unfold typeIn at z
    simp only [hB] at z
    exact Option.some.inj z
  refine ks_wpAny_getMethod_super e₂ (looks_opaque X2 T.opq) (l₀ := .ref C :: bm) (fun A Q E s k q => wpAny_bind ((looks_clsIn X2 hcl) A _ E s k (wpAny_pure q))) rfl X2 hsup (X2 _ _ hB) hBc xC (by decide) ?_
  refine callWith_of (P := MethP K h₂.objs.size fB (.ref x)) rfl (keeps_M hBfn) ?_
  have up3 : ∀ b o, hp.get? b = some o → (h₂.push { cls := .type "method", data := .fields #[.ref fB, .ref x] }).get? b = some o := fun b o e => Heap.get?_push_of_some _ (up2 _ _ (up1 _ _ e))
  have hns3 := hns.at (h' := h₂.push { cls := .type "method", data := .fields #[.ref fB, .ref x] }) (fun o e => Heap.get?_push_of_some _ (up2 _ _ e))
  have hq3 : (h₂.push { cls := .type "method", data := .fields #[.ref fB, .ref x] }).get? h₂.objs.size = some (methodObj (.ref fB) (.ref x)) := Heap.get?_push_at rfl rfl
  refine Calls.evalArgs_plain (Calls.spliced_cons (LowL.ld (env := ksEnv q (bS fl) hp.objs.size fI (.ref cda) cc) hns3 mfl ?_ rfl lfl f.dbg))
  refine Calls.spliced_nil ⟨⟨hq3, X.keeps up3⟩, ?_⟩
  show wpAny _ _ (call (.ref h₂.objs.size) [v]) _ _ _
  refine wpAny_call (ks_codeAny_call_bound hq3 (base_init T (X.keeps up3) (lim.keeps up3) (up3 _ _ hx) (by show A.depth + 1 < recursionLimit; omega) (fun h₄ tk₄ dx p L => ?_)))
  obtain ⟨k₄, o₄, big₄, ne₄, ns₄⟩ := L
  have sz3 : hp.objs.size ≤ (h₂.push { cls := .type "method", data := .fields #[.ref fB, .ref x] }).objs.size := by
    exact Nat.le_of_lt hns3.lt
  have old : ∀ b o, hp.get? b = some o → b ≠ x → h₄.get? b = some o := fun b o e hb => k₄ b o hb (up3 b o e)
  have hxL : x ≠ hp.objs.size := Nat.ne_of_lt (Heap.lt_size hx)
  have X4 : K.In h₄ := fun b o e => old b o (X b o e) (fun z => by rw [z, hnx] at e; cases e)
  have ns4 : h₄.Ns hp.objs.size _ := hns3.at (fun o e => k₄ _ o (Ne.symm hxL) e)
  refine ks_wpAt_execs_cons (wpAt_of_wpAny (plainObj_wpAny_Assign_Attribute ?_ (by rfl)))
  refine LowL.ld (env := ksEnv q (bS fl) hp.objs.size fI (.ref cda) cc) ns4 mfl (LowL.ld (env := ksEnv q (bS fl) hp.objs.size fI (.ref cda) cc) ns4 mself ?_ rfl lself) rfl lfl f.dbg
  have hw : Within (fun y => if y = "things" then some (Value.ref p) else none) [("things" : Str)] := fun y hy => by
    by_cases e : y = "things"
    · simp [e]
    · simp [e] at hy
  obtain ⟨oD, _, _, hoD, _, _⟩ := ns₄.count hw
  refine set_plain X4 (ox := { cls := .ref C, dict := some dx, data := .fields #[.ref t0, .none, .none, .none, .bool false, .none] }) (od := some oD) ⟨o₄, rfl, rfl, hoD⟩ T.sa ?_
  refine PySem.OEX.osa_old X4 o₄ ns₄ hw (by decide) hcl (show refsVE (.ref C :: bm) = true from hbm) rfl T.noF (fun h₅ tk₅ k₅ ns₅ => ?_)
  refine wpAt_of_wpAny (wpAny_execs_nil (hq h₅ tk₅ dx p ⟨fun b o hb e => ?_, ?_, Nat.le_trans sz3 big₄, ne₄, ns₅⟩))
  · exact k₅ b o (Nat.ne_of_lt (Nat.lt_of_lt_of_le (Heap.lt_size e) (Nat.le_trans sz3 big₄))) (old b o e hb)
  · exact k₅ x _ (Ne.symm ne₄) o₄
theorem one_size (v : Value) : [v].length ≤ sizeLine := by
  rw [sizeLine_eq]
  exact (by decide : 1 ≤ 16777216)
/-- a made error -/
structure OwnMade (fl : Str) (h h' : Heap) (e C d p : Addr) (v : Value) : Prop where
  keep : ∀ b o, h.get? b = some o → h'.get? b = some o
  new : h.objs.size ≤ e
  obj : ∃ oe vs, h'.get? e = some oe ∧ oe.cls = .ref C ∧ oe.dict = some d ∧ oe.data = .fields vs ∧ vs[1]? = some .none
  dbig : h.objs.size ≤ d
  dne : d ≠ e
  ns : h'.Ns1 d (fun y => if y = fl then some v else if y = "things" then some (.ref p) else none)
theorem own_made {base : Heap} (T : OwnTxt prog K mg nm fl C B fI fB) (M : L2.Mod K mg base) (up0 : ∀ b o, base.get? b = some o → s.heap.get? b = some o) {v : Value} (room : A.depth + 9 < recursionLimit)
    (hq : ∀ h' tk e d p, OwnMade fl s.heap h' e C d p v → R (.ok (.ret (.ref e))) { s with heap := h', toks := tk }) :
    codeAny (model prog w) A (.call (.ref C) ⟨[v], []⟩) R s := by
  obtain ⟨n, q, N, bs, bm, sn, sub, ab, col, dd, k0, k1, k2, k3, k5, hC, hbm⟩ := T.cls
  have X : K.In s.heap := M.kin.keeps up0
  obtain ⟨hp, g, dr, tk, os⟩ := s
  have k : ∀ b o, hp.get? b = some o → ((hp.push (kdv_tup [v])).push (excO C hp.objs.size)).get? b = some o := fun b o e => Heap.get?_push_of_some _ (Heap.get?_push_of_some _ e)
  have hget : ((hp.push (kdv_tup [v])).push (excO C hp.objs.size)).get? (hp.objs.size + 1) = some (excO C hp.objs.size) := by heap_get
  have hnx : K.lookup (hp.objs.size + 1) = none := by
    cases e : K.lookup (hp.objs.size + 1) with
    | none => rfl
    | some o =>
      have z : hp.get? (hp.objs.size + 1) = some o := X _ _ e
      exact absurd (Nat.lt_of_succ_lt (Heap.lt_size z)) (Nat.lt_irrefl _)
  refine call_own F.excBase_ValueError (fun X => refsVE_contains X bm hbm) (X _ _ hC) (looks_findIn X T.iC) (fun self => bind_fn X self T.tC) (one_size v) ?_
  refine own_init (s := ⟨(hp.push (kdv_tup [v])).push (excO C hp.objs.size), g, dr, tk, os⟩) T M (fun b o e => k b o (up0 b o e)) hget hnx ?_ fun h' tk' dx p ⟨k', hx, dn, dne, hns⟩ => ?_
  · rw [L2.make_depth]
    omega
  · have old : ∀ b o, hp.get? b = some o → h'.get? b = some o := fun b o e => k' b o (Nat.ne_of_lt (Nat.lt_succ_of_lt (Heap.lt_size e))) (k b o e)
    have z : hp.objs.size + 1 + 1 ≤ dx := by
      first
        | (simpa only [Heap.size_push] using dn)
        | exact dn
        | (have q := dn; rw [Heap.size_push, Heap.size_push] at q; exact q)
    exact ⟨rfl, hq h' tk' (hp.objs.size + 1) dx p ⟨old, Nat.le_succ _, ⟨_, _, hx, rfl, rfl, rfl, rfl⟩, Nat.le_trans (Nat.le_trans (Nat.le_succ _) (Nat.le_succ _)) z, dne, hns⟩⟩
end
end OwnX
end PySem

namespace L2
open PySem PySem.Spec PyProof.Rows
theorem relO_two {fl : Str} {v : V} {v' : Value} {p : Addr} (r : RelV v v') (f : Str) : RelO (List.lookup f [(fl, v), (("things" : Str), V.ref p)]) (if f = fl then some v' else if f = "things" then some (.ref p) else none) := by
  by_cases hw : f = fl
  · subst hw
    rw [if_pos rfl]
    have q : List.lookup f [(f, v), (("things" : Str), V.ref p)] = some v := by simp [List.lookup]
    rw [q]
    exact r
  · rw [if_neg hw]
    have qw : (f == fl) = false := by simpa using hw
    by_cases ht : f = "things"
    · rw [if_pos ht]
      have q2 : List.lookup f [(fl, v), (("things" : Str), V.ref p)] = some (V.ref p) := by
        subst ht
        simp [List.lookup, qw]
      rw [q2]
      exact rfl
    · rw [if_neg ht]
      have qt : (f == ("things" : Str)) = false := by simpa using ht
      have q2 : List.lookup f [(fl, v), (("things" : Str), V.ref p)] = none := by simp [List.lookup, qw, qt]
      rw [q2]
      trivial
section
variable {X : Cx} {nm fl : Str} {C B fI fB : Addr}
/-- what an error's own dict holds -/
abbrev errD (fl : Str) (v : V) (p : Addr) : HO := .xd [(fl, v), (("things" : Str), V.ref p)]
/-- E(e) -/
def tMkOwn (fl : Str) (C : Addr) (ta : TA) : St → Hp → XK → Prop := fun σ H Q => ta σ H fun vs H1 => ∃ v, vs = [v] ∧ ∀ d p, H1 d = none → Q (.ref C) (some d) (upd H1 d (errD fl v p))
theorem pmk_own2 {a : Expr} {ta : TA} {p pos : Pos} {k : Nat} (T : PySem.OwnX.OwnTxt X.prog X.K X.mg nm fl C B fI fB) (hr : Room (k + 2) X.A) (ha : PA X [a] ta) (hg : Gl X nm) (hdb : (nm == ("__debug__" : Str)) = false := by decide)
    (he : starEach (a :: []) X.env = (false, eval a X.env) :: starEach [] X.env := by rfl) (hpl : (backTo pos (starEach [] X.env)).any (·.1) = false := by rfl) :
    PMk X (.Call (.Name nm p) [a] [] pos) (tMkOwn fl C ta) := by
  intro pins s σ H Q I h
  refine wpAny_Call_Name_kw (ld_glob I hg T.gC ?_ hdb)
  refine PySem.W.callWith_K (h₀ := X.base) I.ok.mod.kin T.kC (thn (ha.run pos pins s σ H _ I h) fun us s1 hh => ?_) he hpl
  obtain ⟨vs, H1, I1, r1, v, ev, q1⟩ := hh
  subst ev
  refine ⟨I1.kIn, ?_⟩
  cases r1 with
  | cons rv rn =>
    rename_i v' us'
    cases rn
    show wpAny _ _ (call (.ref C) [v']) _ _ _
    have up0 := I1.bk
    obtain ⟨hp, g, dr, tk, os⟩ := s1
    refine wpAny_call (PySem.OwnX.own_made T I1.ok.mod up0 (by have := hr.dp; omega) fun h' tk' e d pt M => ?_)
    show MkP X pins σ Q (.ref e) ⟨h', g, dr, tk', os⟩
    obtain ⟨oe, fv, hoe, hc, hd, hdat, h1⟩ := M.obj
    have hns := M.ns
    obtain ⟨G', g1, g2⟩ := restrict h' fun b => decide (b ≠ e)
    have gk : ∀ b, b ≠ e → G'.get? b = h'.get? b := fun b hb => g1 b (decide_eq_true hb)
    have ge : G'.get? e = none := g2 e (by simp)
    have old : ∀ b o, hp.get? b = some o → G'.get? b = some o := fun b o q => (gk b (Nat.ne_of_lt (Nat.lt_of_lt_of_le (Heap.lt_size q) M.new))).trans (M.keep b o q)
    have ob : ObjOk X.prog X.w (upd H1 d (errD fl v pt)) G' d (errD fl v pt) :=
      ⟨_, hns.at (fun o q => (gk d M.dne).trans q), fun f => relO_two rv f⟩
    have J : Inv X pins σ (upd H1 d (errD fl v pt)) ⟨G', g, dr, tk', os⟩ := I1.laid (t' := tk') old M.dbig ob
    refine ⟨e, oe, fv, ⟨G', g, dr, tk', os⟩, _, .ref C, some d, rfl, J, fun b o q => ?_, ge, hoe, ⟨hc, hd⟩, hdat, h1, ?_, rfl, I1.bare, raises_own T.exC T.tyC, q1 d pt (I1.hok.fresh M.dbig)⟩
    · by_cases hb : b = e
      · have q' : G'.get? b = some o := q
        rw [hb, ge] at q'; cases q'
      · exact (gk b hb).symm.trans q
    · rw [upd_ne (Ne.symm M.dne)]
      exact I1.hok.fresh M.new
/-- raise E(e) -/
def tRaiseOwn (fl : Str) (C : Addr) (W : WX) (ta : TA) : TS := fun _ σ H => tMkOwn fl C ta σ H fun cls d H' => W cls d σ H'
theorem ps_raiseOwn {a : Expr} {ta : TA} {W : WX} {p pos pos2 : Pos} {k : Nat} (hc : X.calm = true) (T : PySem.OwnX.OwnTxt X.prog X.K X.mg nm fl C B fI fB) (hr : Room (k + 2) X.A) (tk : Takes X W) (ha : PA X [a] ta) (hg : Gl X nm) (hdb : (nm == ("__debug__" : Str)) = false := by decide)
    (he : starEach (a :: []) X.env = (false, eval a X.env) :: starEach [] X.env := by rfl) (hpl : (backTo pos (starEach [] X.env)).any (·.1) = false := by rfl) :
    PS X (.Raise (some (.Call (.Name nm p) [a] [] pos)) none pos2) (tRaiseOwn fl C W ta) := ps_raise hc tk (pmk_own2 T hr ha hg hdb he hpl)
/-- e.fl, e the error that the suite holds (at a; its class cls, its dict d) -/
def tByOwn (fl : Str) (C : Addr) (a : Addr) (cls : Value) (d : Option Addr) (te : TE) : TE := fun σ H Q => te σ H fun x H1 => x = .ref a ∧ cls = .ref C ∧ ∃ (dd p : Addr) (v : V), d = some dd ∧ H1 dd = some (errD fl v p) ∧ Q v H1
theorem pe_byOwn {a : Addr} {oe : Obj} {cls : Value} {d : Option Addr} {pn : List (Addr × Obj)} {e : Expr} {te : TE} {pos : Pos} (T : PySem.OwnX.OwnTxt X.prog X.K X.mg nm fl C B fI fB) (hz : Zc cls d oe) (hf : ∃ vs, oe.data = .fields vs) (he : PE (X.suite a ((a, oe) :: pn)) e te)
    (hb : attributeBase e fl X.env (eval e X.env) = eval e X.env := by rfl) :
    PE (X.suite a ((a, oe) :: pn)) (.Attribute e fl pos) (tByOwn fl C a cls d te) := by
  refine ⟨fun pins s σ H Q I h => ?_⟩
  refine attr_of hb (thn (he.run pins s σ H _ I h) fun u s1 hh => ?_)
  obtain ⟨x, H1, I1, rx, ex, ec, dd, p, v, ed, ea, q⟩ := hh
  subst ex
  obtain rfl : u = Value.ref a := rx
  subst ec
  subst ed
  obtain ⟨ha, _⟩ := I1.pin (a, oe) (List.mem_append_left _ List.mem_cons_self)
  obtain ⟨vs, hd⟩ := hf
  have hx : ObjOk X.prog X.w H1 s1.heap dd (errD fl v p) := I1.hok dd _ ea
  obtain ⟨mA, hns, hr⟩ := hx
  obtain ⟨od, ho, hl⟩ := lookIn_ns hns
  have l : List.lookup fl [(fl, v), (("things" : Str), V.ref p)] = some v := by simp [List.lookup]
  obtain ⟨u, hu, ru⟩ := RelO.some_of (v := v) (o := mA fl) (by rw [← l]; exact hr fl)
  have J : PySem.W.InstAt s1.heap a oe C (some od) := ⟨ha, hz.1, by unfold PySem.W.notCls; rw [hd] <;> rfl, by rw [hz.2]; exact ho⟩
  exact HandSPX.exc_get I1.kIn J T.ga T.gg T.exC (PySem.W.findObj_own T.hdC T.noF rfl (by rw [hl, hu])) (handed_of ru) ⟨v, H1, I1.tok _, ru, q⟩
end
end L2
set_option Elab.async false
set_option linter.all false
set_option maxRecDepth 100000
set_option maxHeartbeats 4000000
namespace Hk
open PySem PySem.Spec PyProof.Rows L2
/-- a def of the text that stands under a name of the module and keeps a promise -/
def Kn (P : Program) (w : World) (K : PySem.W.Frag) (mg : Str → Option Value) (base : Heap) (k : Nat) (nm : Str) (ps : List Str) (sp : Sp) : Prop :=
  ∃ (f : Addr) (fd : FuncData), FnG P w K mg base (L2.CX P w) k f fd ps sp ∧ mg nm = some (.ref f) ∧ PySem.W.keepIn K (.ref f) = true ∧ Binds K fd ps []
/-- a def as the head tells it -/
def At (K : PySem.W.Frag) (mg : Str → Option Value) (nm : Str) (st : Stmt) (ps : List Str) : Prop :=
  ∃ (f : Addr) (fd : FuncData), Fun K nm nm st f fd ∧ mg nm = some (.ref f) ∧ Binds K fd ps []
section
variable {P : Program} {w : World} {K : PySem.W.Frag} {mg : Str → Option Value} {base : Heap}
theorem Kn.mk {k : Nat} {nm : Str} {st : Stmt} {N ps : List Str} {sp : Sp} (at_ : At K mg nm st ps) (S : FnScope N ps (defScope st)) (many : ∀ vs H Q E, sp vs H Q E → vs.length = ps.length)
    (body : ∀ (f : Addr) (cdv : Value) (A : Around) (outer : List Env) (s : Shared) (H : Hp) (vs : List V) (Q : VK) (E : XK), Room k (A.deeper (envOfC nm (defScope st) s.heap.objs.size f cdv)) → (A.deeper (envOfC nm (defScope st) s.heap.objs.size f cdv)).guards = some [] → sp vs H Q E →
      ∃ t, PSs (cxOf (L2.CX P w) P w K mg base N nm (defScope st) f cdv A outer s H E) (defBody st) t ∧ t { nx := fun _ H' => Q .non H', rt := Q } (start N vs) H) : Kn P w K mg base (k + 1) nm ps sp := by
  obtain ⟨f, fd, F, hm, hb⟩ := at_
  exact ⟨f, fd, fnG_mk F S many (body f), hm, F.kp, hb⟩
/-- for a def that lets nothing out -/
theorem Kn.mkN {k : Nat} {nm : Str} {st : Stmt} {N ps : List Str} {sp : Sp} (at_ : At K mg nm st ps) (S : FnScope N ps (defScope st)) (many : ∀ vs H Q E, sp vs H Q E → vs.length = ps.length)
    (body : ∀ (f : Addr) (cdv : Value) (A : Around) (outer : List Env) (s : Shared) (H : Hp) (vs : List V) (Q : VK) (E : XK), Room k (A.deeper (envOfC nm (defScope st) s.heap.objs.size f cdv)) → (A.deeper (envOfC nm (defScope st) s.heap.objs.size f cdv)).guards = some [] → sp vs H Q E →
      ∃ t, PSs (cxOf (L2.CX P w) P w K mg base N nm (defScope st) f cdv A outer s H E).nox (defBody st) t ∧ t { nx := fun _ H' => Q .non H', rt := Q } (start N vs) H) : Kn P w K mg base (k + 1) nm ps sp :=
  Kn.mk at_ S many fun f cdv A outer s H vs Q E hr free h => by
    obtain ⟨t, h1, h2⟩ := body f cdv A outer s H vs Q E hr free h
    exact ⟨t, h1.nox, h2⟩
theorem Kn.mono {j k : Nat} {nm : Str} {ps : List Str} {sp : Sp} (h : Kn P w K mg base j nm ps sp) (jk : j ≤ k) : Kn P w K mg base k nm ps sp := by
  obtain ⟨f, fd, F, r⟩ := h
  exact ⟨f, fd, ⟨F.many, fun A outer st H given us vs Q E hr => F.goes A outer st H given us vs Q E (hr.mono jk)⟩, r⟩
end
section
variable {X : Cx} {k : Nat} {ps : List Str} {sp : Sp} {E : XK} {x : Str} {p pos : Pos} {e : Expr} {es : List Expr} {t : TA}
theorem pe_callN (F : Kn X.prog X.w X.K X.mg X.base k x ps sp) (free : X.A.guards = some []) (hr : Room k X.A) (isg : Gl X x) (out : Passes (L2.CX X.prog X.w) X E) (args : PA X (e :: es) t) (nd : (x == ("__debug__" : Str)) = false := by decide)
    (head : starEach (e :: es) X.env = (false, eval e X.env) :: starEach es X.env := by rfl) (flat : (backTo pos (starEach es X.env)).any (·.1) = false := by rfl) : PE X (.Call (.Name x p) (e :: es) [] pos) (tCall sp [] E t) := by
  obtain ⟨f, fd, G, hm, kp, hb⟩ := F
  exact pe_callG G free hr isg hm kp hb out args nd head flat
end
end Hk
set_option Elab.async false
set_option linter.all false
set_option maxRecDepth 100000
set_option maxHeartbeats 4000000
/-! enumerate over a tuple -/
namespace PySem
open Sem (wp)
set_option maxHeartbeats 1000000 in
theorem enum1_meets {v : Value} {o : Obj} {Hyp : Heap → Prop} (B : Begins v o Hyp) : Meets (Builtin.«enumerate.__new__» ⟨[.type "enumerate", v], []⟩) (fun _ R st => Hyp st.heap ∧
    R (.ok (.ret (.ref (st.heap.push o).objs.size))) { st with heap := (st.heap.push o).push { cls := .type "enumerate", data := .fields #[.none, .bool false, .ref st.heap.objs.size, rawInt 0, .none, .none] } }) := by
  refine .of_wp fun prog w A R st given => ?_
  obtain ⟨hp, g, d, tk, os⟩ := st
  obtain ⟨holds, goal⟩ := given
  have subE := sub_enumerate
  have begin1 : ∀ {A1 : Around} {E1 : Value → Shared → Prop} {Q1 : Value → Shared → Prop}, Q1 (.ref hp.objs.size) ⟨hp.push o, g, d, tk, os⟩ → wpAny (model prog w) A1 (pyIter v) Q1 E1 ⟨hp, g, d, tk, os⟩ :=
    fun z => B.iter prog w _ _ ⟨hp, g, d, tk, os⟩ _ holds z
  wp_walk using begin1
  first
    | exact ⟨_, rfl, goal⟩
    | (refine wpAny_stack_any fun frames => wpAny_pure ?_
       split
       · rename_i c _ _ _ _ _
         cases (c == Value.type "enumerate") <;> (wp_walk using begin1; exact ⟨_, rfl, goal⟩)
       · wp_walk using begin1
         exact ⟨_, rfl, goal⟩)
section
variable {prog : Program} {w : World} {A : Around} {E : Value → Shared → Prop} {s : Shared}
theorem enum1_begins {v : Value} {o : Obj} {Hyp : Heap → Prop} {Q : Value → Shared → Prop} (B : Begins v o Hyp) (holds : Hyp s.heap)
    (goal : ∀ g, IsEnum g (s.heap.objs.size + 1) s.heap.objs.size 0 .none → g.get? s.heap.objs.size = some o → g.objs.size = s.heap.objs.size + 2 →
      (∀ b u, s.heap.get? b = some u → g.get? b = some u) → Q (.ref (s.heap.objs.size + 1)) { s with heap := g }) :
    wpAny (model prog w) A (call (.type "enumerate") [v]) Q E s := by
  refine callType_new F.called_enumerate (by decide) (F.typeCall_enumerate_1 _) (F.newCall_enumerate_1 _) (fun made => F.args_object_init_2 made _) F.entry_enumerate_new (enum1_meets B) ⟨holds, ?_⟩
  have big : (s.heap.push o).objs.size = s.heap.objs.size + 1 := Heap.size_push ..
  show _ ∧ _
  rw [big]
  have isE : IsEnum ((s.heap.push o).push { cls := .type "enumerate", data := .fields #[.none, .bool false, .ref s.heap.objs.size, rawInt 0, .none, .none] }) (s.heap.objs.size + 1) s.heap.objs.size 0 .none := by
    have z := Heap.get?_push_size (s.heap.push o) (o := { cls := .type "enumerate", data := .fields #[.none, .bool false, .ref s.heap.objs.size, rawInt 0, .none, .none] }) rfl
    rw [big] at z
    exact z
  exact ⟨⟨_, isE, rfl⟩, goal _ isE (Heap.get?_push_of_some _ (Heap.get?_push_size _ B.free)) (by rw [Heap.size_push, big]) fun b u x => Heap.get?_push_of_some _ (Heap.get?_push_of_some _ x)⟩
end
end PySem
namespace L2
open PySem PySem.Spec PyProof.Rows
/-- the tuple at a, each item in a new pair with its number -/
def ItEnT (K : PySem.W.Frag) (a : Addr) : It :=
  ⟨fun i H => ∃ (xs : List V) (x : V), SqT K H a xs ∧ xs[i]? = some x, fun i H v H' => ∃ T x, v = .ref T ∧ H T = none ∧ H' = upd H T (.tup [.int (i : Nat), x]) ∧ ∀ xs, SqT K H a xs → xs[i]? = some x, fun i H => ∃ xs : List V, SqT K H a xs ∧ xs.length ≤ i⟩
theorem turn_enT {P : Program} {w : World} {K : PySem.W.Frag} {elts : List Expr} {kk : Nat} {tpos : Pos} (a e it : Addr) :
    Turn P w K (.Tuple elts kk tpos) (ItEnT K a) [e, it] e (fun i h => (∃ old, IsEnum h e it ((i : Nat) : Int) old) ∧ h.IsTupleIter it a i ∧ e ≠ it ∧ a ≠ it ∧ e ≠ a) where
  mem := by simp
  obj := by
    intro i h st b hb
    obtain ⟨⟨old, he⟩, ⟨o, ho, _, hd⟩, _⟩ := st
    rcases (show b = e ∨ b = it by simpa using hb) with z | z <;> subst z
    · exact ⟨_, he, fun v q => nomatch q⟩
    · exact ⟨o, ho, fun v q => by rw [hd] at q; cases q⟩
  keep := by
    intro i h h' st k
    obtain ⟨⟨old, he⟩, hi, hne, r⟩ := st
    exact ⟨⟨old, k e (by simp) _ he⟩, hi.at fun o q => k it (by simp) o q, hne, r⟩
  item := by
    intro X hP hw hK hc i pins s σ H E I hf st hg
    subst hP hw hK
    obtain ⟨⟨old, he⟩, hit, hne, hai, hea⟩ := st
    obtain ⟨xs, x, hq, hx⟩ := hg
    obtain ⟨its, rv, p, hz⟩ := I.tuple hq
    obtain ⟨u, hu, ru⟩ := rv.get hx
    have hel : e < s.heap.objs.size := Heap.lt_size he
    have hil : it < s.heap.objs.size := by obtain ⟨_, q, _⟩ := hit; exact Heap.lt_size q
    have hlt : i < its.toArray.size := by
      have := (List.getElem?_eq_some_iff.mp hu).1
      simpa using this
    refine wpAny_pyNext_enum_itemD (Draws.tuple (A := X.A.in1) (show X.A.in1.handled = none from I.ok.hd hc) it a hai its.toArray) he ⟨hit, (show s.heap.IsTuple a its.toArray from p)⟩ hlt hne (by simp [hne, hea]) fun x' h' tk hx' ho hst hT hsz hk => ?_
    have ex : x' = u := by
      have z : its[i]? = some x' := by simpa using hx'
      rw [hu] at z
      exact (Option.some.inj z).symm
    subst ex
    refine ⟨_, rfl, wpAny_letOwnedTupleGo_enum (s := { s with heap := h', toks := tk + 1 }) ho fun h'' he' sb => ?_⟩
    have hT2 : h''.get? s.heap.objs.size = some { cls := .type "tuple", data := .seq #[.int i tk, x'] } := (sb.2 _ (Nat.ne_of_gt hel)).trans hT
    have new : ObjOk X.prog X.w (upd H s.heap.objs.size (.tup [.int (i : Nat), x])) h'' s.heap.objs.size (.tup [.int (i : Nat), x]) :=
      ⟨by show 2 ≤ sizeLine; decide, [.int i tk, x'], .cons ⟨_, rfl⟩ (.cons ru .nil), ⟨_, hT2, rfl, _, rfl⟩⟩
    have I1 : Inv X pins σ (upd H s.heap.objs.size (.tup [.int (i : Nat), x])) { s with heap := h'', toks := tk + 1 } :=
      I.turnedNew (ch := [e, it]) (fun b ob hb q => (sb.2 b (fun z => hb (by simp [z]))).trans (hk b ob (fun z => hb (by simp [z])) (fun z => hb (by simp [z])) q)) hf (Nat.le_refl _) new
    refine ⟨.ref s.heap.objs.size, _, I1, rfl, ⟨_, x, rfl, I.hok.fresh (Nat.le_refl _), rfl, fun ys hy => by rw [I.tuple_inj hy hq]; exact hx⟩, ⟨⟨x', ?_⟩, hst.1.at fun o q => (sb.2 it (Ne.symm hne)).trans q, hne, hai, hea⟩, fun b hb => ?_⟩
    · have e1 : ((i + 1 : Nat) : Int) = (i : Int) + 1 := by omega
      rw [e1]
      exact he'
    · have hb' : b < s.heap.objs.size := by
        rcases (show b = e ∨ b = it by simpa using hb) with z | z <;> rw [z] <;> assumption
      rw [upd_ne (Nat.ne_of_lt hb')]
      exact (hf b hb).1
  done := by
    intro X hP hw hK hc i pins s σ H E I hf st hg
    subst hP hw hK
    obtain ⟨⟨old, he⟩, hit, hne, hai, hea⟩ := st
    obtain ⟨xs, hq, hx⟩ := hg
    obtain ⟨its, rv, p, hz⟩ := I.tuple hq
    obtain ⟨f0, f1, f2, f3, f4, f5⟩ := hf it (by simp)
    have hl := rv.length
    have D : Draws X.prog X.w X.A.in1 it [it, a] 0 (fun _ _ => False) (fun j h => h.IsTupleIter it a (i + j) ∧ h.IsTuple a its.toArray) := {
      live := fun _ _ st => by
        obtain ⟨⟨o, ho, _⟩, _⟩ := st
        exact ⟨o, ho⟩
      frame := fun _ _ _ st k => ⟨st.1.at fun o q => k it (by simp) o q, st.2.at fun o q => k a (by simp) o q⟩
      item := fun j s Q E hj => absurd hj (Nat.not_lt_zero _)
      done := fun s Q E st h => wpAny_nextOf_tuple_end (show X.A.in1.handled = none from I.ok.hd hc) st.1 st.2 (by simp; omega) h }
    refine wpAny_pyNext_enum_endD D he ⟨hit, (show s.heap.IsTuple a its.toArray from p)⟩ fun h' eb => ⟨rfl, I.turned (t' := s.toks) (fun b o hb q => eb b o hb q) f0 f1 f3 f4 f5⟩
  self := by
    intro A i s Q E st h
    obtain ⟨⟨_, he⟩, _⟩ := st
    exact wpAny_pyIter_enum he h
def iEnT (K : PySem.W.Frag) (ta : TA) : TI := fun σ H R => ta σ H fun vs H1 => ∃ a xs, vs = [.ref a] ∧ SqT K H1 a xs ∧ R (ItEnT K a) H1
theorem pi_enT {X : Cx} {e : Expr} {ta : TA} {p pos tpos : Pos} {elts : List Expr} {kk : Nat} (isg : Gl X "enumerate") (free : X.mg "enumerate" = none) (args : PA X [e] ta) (one : starEach [e] X.env = [(false, eval e X.env)] := by rfl) :
    PI X (.Tuple elts kk tpos) (.Call (.Name "enumerate" p) [e] [] pos) (iEnT X.K ta) := by
  constructor
  intro pins s σ H R I h
  refine Call_ (ld_blt I isg free boot_enumerate (PyProof.Rows.callWith_type1 (thn (args.run pos pins s σ H _ I h) ?_) one rfl))
  rintro us s1 ⟨vs, H1, I1, r1, a, xs, rfl, hq, q⟩
  obtain ⟨u, rfl, ru⟩ := vals1 r1
  cases ru
  obtain ⟨its, rv, p', hz⟩ := I1.tuple hq
  have hT : s1.heap.IsTuple a its.toArray := p'
  have al : a < s1.heap.objs.size := by obtain ⟨o, q, _⟩ := hT; exact Heap.lt_size q
  refine enum1_begins (begins_tuple a its.toArray) hT fun h' he hit hsz hk => wpAny_pyIter_enum he ?_
  have I2 : Inv X pins σ H1 { s1 with heap := h' } := I1.kept (t' := s1.toks) hk
  refine ⟨s1.heap.objs.size + 1, [s1.heap.objs.size + 1, s1.heap.objs.size], _, _, H1, rfl, I2, turn_enT a (s1.heap.objs.size + 1) s1.heap.objs.size, ⟨⟨.none, he⟩, ⟨_, hit, rfl, rfl⟩, Nat.succ_ne_self _, Nat.ne_of_lt al, Ne.symm (Nat.ne_of_lt (Nat.lt_succ_of_lt al))⟩, ?_, q⟩
  intro b hb
  have hle : s1.heap.objs.size ≤ b := by
    rcases (show b = s1.heap.objs.size + 1 ∨ b = s1.heap.objs.size by simpa using hb) with z | z
    · rw [z]; exact Nat.le_succ _
    · rw [z]; exact Nat.le_refl _
  exact I1.fpOk hle (I1.hok.fresh hle)
theorem walk_enT {K : PySem.W.Frag} {a : Addr} {xs : List V} : Walk (ItEnT K a) xs.length (fun H => SqT K H a xs) (YPair (fun i => some (.int (i : Nat))) (fun i => xs[i]?)) := by
  refine ⟨fun i _ hi q => ⟨xs, xs[i], q, by simp [hi]⟩, fun _ q => ⟨xs, q, Nat.le_refl _⟩, fun i H x H' _ q y => ?_⟩
  obtain ⟨T, z, h1, h2, h3, h4⟩ := y
  exact ⟨T, .int (i : Nat), z, h1, h2, h3, rfl, h4 xs q⟩
end L2
set_option Elab.async false
set_option linter.all false
set_option maxRecDepth 100000
set_option maxHeartbeats 4000000
/-! an empty dict asked for a tuple (0, True, ()), and given it as its first key -/
namespace L2
open PySem PySem.Spec PyProof.Rows
def LineK (H : Hp) (y : V) : Prop := ∃ a b : Addr, y = .ref a ∧ H a = some (.tup [.int 0, .bl true, .ref b]) ∧ H b = some (.tup [])
section
variable {X : Cx} {pins : List (Addr × Obj)} {σ : St} {H : Hp} {s : Shared} {a : Addr} {y v : V} {u r : Value} {A : Around} {E : Value → Shared → Prop}
theorem line_key (I : Inv X pins σ H s) (l : LineK H y) (ry : RelV y u) : ∃ b, u = .ref b ∧ (nestedKind X.prog X.w).is s.heap (.tup [.num 0, .num 1, .tup []]) b := by
  obtain ⟨a, b, rfl, ha, hb⟩ := l
  obtain rfl : u = Value.ref a := ry
  obtain ⟨_, its, r, o, h1, h2, n, h3⟩ := (show ObjOk X.prog X.w H s.heap a (.tup [.int 0, .bl true, .ref b]) from I.hok a _ ha)
  obtain ⟨_, its2, r2, o2, g1, g2, n2, g3⟩ := (show ObjOk X.prog X.w H s.heap b (.tup []) from I.hok b _ hb)
  cases r with
  | cons r1 r =>
  cases r with
  | cons rb r =>
  cases r with
  | cons rt r =>
  cases r
  cases r2
  obtain ⟨t, e1⟩ := r1
  subst e1
  cases rb
  cases rt
  refine ⟨a, rfl, ?_, by simp [NestedKey.depth, NestedKey.depthAll]⟩
  refine NestedIs.tup h1 h2 h3 (.cons (.int _ _) (.cons (.bool rfl) (.cons (.tup g1 g2 g3 .nil) .nil)))
theorem keyed_empty (I : Inv X pins σ H s) (e : H a = some (.dK [])) : s.heap.DictKeyed (nestedKind X.prog X.w) a [] ∧ (a == sysModules) = false := by
  obtain ⟨z, hd, vs, rel, o, es, ep, h1, h2, h3, h4, h5, h6⟩ := dk_of I.hok e
  cases rel
  have he : es.toList = [] := by
    generalize es.toList = l at h5
    cases h5
    rfl
  exact ⟨⟨[], ⟨o, es, ep, h1, h2, h3, by rw [he]; rfl, ⟨(fun x hx => by cases hx), List.nodup_nil⟩⟩, rfl⟩, hd⟩
end
def tDGetE (td ty : TE) : TE := fun σ H Q => td σ H fun x H1 => ∃ a, x = .ref a ∧ H1 a = some (.dK []) ∧ ty σ H1 fun y H2 => H2 a = some (.dK []) ∧ LineK H2 y ∧ Q .non H2
def sDPutE (td ty tv : TE) : TS := fun D σ H => tv σ H fun _ H1 => td σ H1 fun x H2 => ty σ H2 fun y H3 => ∃ a, x = .ref a ∧ H3 a = some (.dK []) ∧ LineK H3 y ∧ D.nx σ (upd H3 a (.own a))
section
variable {X : Cx} {o e i value : Expr} {apos cpos pos pos' : Pos} {td ty tv : TE}
theorem pe_dgetE (hu : X.A.units + 9 < cLine) (ho : PE X o td) (he : PE X e ty) (m : M1 X o "get" apos e cpos) : PE X (.Call (.Attribute o "get" apos) [e] [] cpos) (tDGetE td ty) := by
  refine ⟨fun pins s σ H Q I h => ?_⟩
  refine wpAny_Call_method m.base m.few m.line PySem.F.plainAttrs_dict PySem.F.slot_dict_get PySem.F.type_dict_get (thn (ho.run pins s σ H _ I h) fun u s1 ⟨x, H1, I1, rx, a, ex, d, q1⟩ => ?_)
  subst ex
  obtain rfl : u = Value.ref a := rx
  obtain ⟨t1, t2, _⟩ := isD_at I1 (.inl ⟨[], .inl d⟩)
  refine ⟨t1, t2, ?_⟩
  rw [m.trees]
  refine Calls.callWith_builtin rfl (Calls.evalArgs_plain (Calls.spliced_cons (thn (he.run pins s1 σ H1 _ I1 q1) fun iv s2 ⟨y, H2, I2, ry, d2, l, q2⟩ => Calls.spliced_nil ?_)))
  obtain ⟨b, rfl, hk⟩ := line_key I2 l ry
  obtain ⟨hm, hd⟩ := keyed_empty I2 d2
  exact get_keyed (by show X.A.units + 1 + 8 < cLine; omega) hk hd hm ⟨.non, H2, I2.tok _, rfl, q2⟩
theorem ps_dputE (hu : X.A.units + 9 < cLine) (ho : PE X o td) (hi : PE X i ty) (hv : PE X value tv) (hs : swapsWith value (some (.Subscript o i pos')) pos.line X.env = pure false) :
    PS X (.Assign [.Subscript o i pos'] value pos) (sDPutE td ty tv) := by
  refine ⟨fun pins s σ H D I h => ?_⟩
  refine wpAny_Assign_Subscript (thn (hv.run pins s σ H _ I h) fun r s1 ⟨v, H1, I1, rv, q1⟩ => thn (ho.run pins s1 σ H1 _ I1 q1) fun u s2 ⟨x, H2, I2, rx, q2⟩ => thn (hi.run pins s2 σ H2 _ I2 q2) fun iv s3 ⟨y, H3, I3, ry, a, ex, d3, l, q3⟩ => ?_) hs
  subst ex
  obtain rfl : u = Value.ref a := rx
  obtain ⟨b, rfl, hk⟩ := line_key I3 l ry
  obtain ⟨hm, hd⟩ := keyed_empty I3 d3
  refine setItem_keyed (hsz := by decide) (by show X.A.units + 1 + 8 < cLine; omega) hk hm fun h' hm' hs' => ?_
  obtain ⟨xs, ⟨q, es, ep, hq, _⟩, _⟩ := hm'
  exact ⟨σ, _, d_write I3 (by rw [d3]; exact True.intro) hs' ⟨q, hq⟩ (ob := .own a) (show ObjOk X.prog X.w _ h' a (.own a) from ⟨q, hq⟩), q3⟩
end
end L2
set_option Elab.async false
set_option linter.all false
set_option maxRecDepth 100000
set_option maxHeartbeats 4000000
/-! a function of no arguments that a name holds: called anywhere below -/
namespace L2
open PySem PySem.Spec PyProof.Rows
/-- at f stands a function -/
def FnObj (H : Hp) (f : Addr) : Prop := ∃ φ : Heap → Prop, H f = some (.ext φ) ∧ ∀ h : Heap, φ h → ∃ oc od fd osl, h.get? f = some ⟨oc, od, .func fd, osl⟩
theorem FnObj.same {H H' : Hp} {f : Addr} (o : FnObj H f) (s : ∀ b u, H b = some u → H' b = some u) : FnObj H' f := by
  obtain ⟨φ, h1, h2⟩ := o
  exact ⟨φ, s _ _ h1, h2⟩
/-- f(), wherever it is called: what act asks of the heap, of what comes and of what is raised -/
def LamP (P : Program) (w : World) (K : PySem.W.Frag) (mg : Str → Option Value) (base : Heap) (k : Nat) (f : Addr) (R : Hp → Prop) (act : Hp → VK → XK → Prop) : Prop :=
  ∀ (A : Around) (outer : List Env) (st : Shared) (H : Hp) (Q : VK) (E : XK), Room k A → A.guards = some [] → Env0 P w K mg base A outer st H → R H → act H Q E → codeAny (model P w) A (.call (.ref f) ⟨[], []⟩) (CR (L2.CX P w) outer P w H st Q E) st
/-- x(), x a name that holds such a function -/
def tCallV (P : Program) (w : World) (K : PySem.W.Frag) (mg : Str → Option Value) (base : Heap) (k i : Nat) (E : XK) : TE := fun σ H Q => ∃ (f : Addr) (R : Hp → Prop) (act : Hp → VK → XK → Prop), σ[i]? = some (some (.ref f)) ∧ FnObj H f ∧ R H ∧ LamP P w K mg base k f R act ∧ act H Q E
section
variable {X : Cx} {k i : Nat} {E : XK} {x : Str} {p pos : Pos}
theorem pe_callV (free : X.A.guards = some []) (hr : Room k X.A) (out : Passes (L2.CX X.prog X.w) X E) (hN : X.N[i]? = some x) (hv : Vis X.env.scope x) (hd : (x == ("__debug__" : Str)) = false := by decide) (hcd : (x == ("__classdict__" : Str)) = false := by decide) :
    PE X (.Call (.Name x p) [] [] pos) (tCallV X.prog X.w X.K X.mg X.base k i E) := by
  refine ⟨fun pins s σ H Q I h => ?_⟩
  obtain ⟨f, R, act, hs, fo, hR, lp, goal⟩ := h
  refine wpAny_Call_Name_kw (thn ((pe_var (pos := p) (i := i) hN hv hd hcd).run pins s σ H (fun v H1 => v = .ref f ∧ H1 = H) I ⟨.ref f, hs, rfl, rfl⟩) fun u s1 ⟨v, H1, I1, r1, q1⟩ => ?_)
  obtain ⟨ev, eH⟩ := q1
  subst ev
  rw [eH] at I1
  obtain rfl : u = Value.ref f := r1
  obtain ⟨φ, hf, hφ⟩ := fo
  obtain ⟨h1, _, _⟩ := (show ObjOk X.prog X.w H s1.heap f (.ext φ) from I1.hok f _ hf)
  obtain ⟨oc, od, fd, osl, ho⟩ := hφ _ h1
  refine PySem.W.callWith_F0 ⟨_, _, _, _, ho⟩ ?_
  refine wpAny_call (codeAny_mono (lp X.A X.stack s1 H Q E hr free I1.env0 hR goal) fun r s2 hq => ?_)
  match r, hq with
  | .error e, hq => exact out pins σ H s1 e s2 I1 hq
  | .ok (.ret u), hq => exact I1.after hq
/-- the same in a try: the wish about what is raised, with the frame's values -/
def tCallVW (P : Program) (w : World) (K : PySem.W.Frag) (mg : Str → Option Value) (base : Heap) (k i : Nat) (W : WX) : TE := fun σ H Q => ∃ (f : Addr) (R : Hp → Prop) (act : Hp → VK → XK → Prop) (E : XK), σ[i]? = some (some (.ref f)) ∧ FnObj H f ∧ R H ∧ LamP P w K mg base k f R act ∧ (∀ cls d H', E cls d H' → W cls d σ H') ∧ act H Q E
theorem pe_callVW {W : WX} (free : X.A.guards = some []) (hr : Room k X.A) (tk : Takes X W) (hN : X.N[i]? = some x) (hv : Vis X.env.scope x) (hd : (x == ("__debug__" : Str)) = false := by decide) (hcd : (x == ("__classdict__" : Str)) = false := by decide) :
    PE X (.Call (.Name x p) [] [] pos) (tCallVW X.prog X.w X.K X.mg X.base k i W) := by
  refine ⟨fun pins s σ H Q I h => ?_⟩
  obtain ⟨f, R, act, E, hs, fo, hR, lp, hW, goal⟩ := h
  refine wpAny_Call_Name_kw (thn ((pe_var (pos := p) (i := i) hN hv hd hcd).run pins s σ H (fun v H1 => v = .ref f ∧ H1 = H) I ⟨.ref f, hs, rfl, rfl⟩) fun u s1 ⟨v, H1, I1, r1, q1⟩ => ?_)
  obtain ⟨ev, eH⟩ := q1
  subst ev
  rw [eH] at I1
  obtain rfl : u = Value.ref f := r1
  obtain ⟨φ, hf, hφ⟩ := fo
  obtain ⟨h1, _, _⟩ := (show ObjOk X.prog X.w H s1.heap f (.ext φ) from I1.hok f _ hf)
  obtain ⟨oc, od, fd, osl, ho⟩ := hφ _ h1
  refine PySem.W.callWith_F0 ⟨_, _, _, _, ho⟩ ?_
  refine wpAny_call (codeAny_mono (lp X.A X.stack s1 H Q E hr free I1.env0 hR goal) fun r s2 hq => ?_)
  match r, hq with
  | .error e, hq => exact tk e s2 (XE.of_call I1 (fun cls d H' h => hW cls d H' h) hq)
  | .ok (.ret u), hq => exact I1.after hq
end
end L2
set_option Elab.async false
set_option linter.all false
set_option maxRecDepth 100000
set_option maxHeartbeats 4000000
/-! isinstance of a caught error that has a dict of its own -/
namespace L2
open PySem PySem.Spec PyProof.Rows
/-- isinstance(e, c), e the error that the suite holds (at a; its dict d) -/
def rIsO (K : PySem.W.Frag) (cls : Value) (C a : Addr) (d : Option Addr) : List V → Hp → VK → Prop := fun xs H Q => ∃ (c : V) (cv : Value) (b : Bool) (dd : Addr) (fs : List (Str × V)), xs = [.ref a, c] ∧ cls = .ref C ∧ (∀ u, RelV c u → u = cv) ∧ PySem.W.kitOne K (.ref C) cv = some b ∧ d = some dd ∧ H dd = some (.xd fs) ∧ Q (.bl b) H
theorem call_isO {X : Cx} {a C : Addr} {cls : Value} {d : Option Addr} {oe : Obj} {pn : List (Addr × Obj)} (EC : ExcC X.K C) (hz : Zc cls d oe) (hf : ∃ vs, oe.data = .fields vs) : CallR (X.suite a ((a, oe) :: pn)) (.builtin "isinstance") (rIsO X.K cls C a d) := by
  intro pins s σ H xs us Q I r h
  obtain ⟨c, cv, b, dd, fs, rfl, ec, hcv, e, ed, hx, q⟩ := h
  subst ec
  subst ed
  cases r with
  | cons rx rr =>
    cases rr with
    | cons rt rr =>
      cases rr
      cases rx
      have ec2 := hcv _ rt
      subst ec2
      obtain ⟨hget, _⟩ := I.pin (a, oe) (List.mem_append.mpr (.inl List.mem_cons_self))
      obtain ⟨vs, hv⟩ := hf
      obtain ⟨mA, hns, _⟩ := (show ObjOk X.prog X.w H s.heap dd (.xd fs) from I.hok dd _ hx)
      obtain ⟨od, ho, _⟩ := lookIn_ns hns
      have J : PySem.W.InstAt s.heap a oe C (some od) := ⟨hget, hz.1, by unfold PySem.W.notCls; rw [hv] <;> rfl, by rw [hz.2]; exact ho⟩
      have hcl : (PySem.W.clsIn X.K C).isSome = true := by
        obtain ⟨cd, hc, _⟩ := PySem.W.any_some EC.hd
        rw [hc]
        rfl
      exact PySem.W.kia_one (PySem.W.kitx_exc hcl EC.hg EC.hk EC.hs EC.ha EC.hn EC.ht EC.hm) I.kIn J e (fun z => nomatch z) fun tk => ⟨.bl b, H, I.kept (t' := tk) fun _ _ z => z, rfl, q⟩
end L2
set_option Elab.async false
set_option linter.all false
set_option maxRecDepth 100000
set_option maxHeartbeats 4000000
namespace Hk
open PySem PySem.Spec PyProof.Rows L2
def top (i : Nat) : Stmt := PySem.Challenge.pw_heirlines_k15_whole_customs_judged.main.body.getD i (.Pass ⟨0, 0, 0, 0⟩)
/-- the built-in names stand as at the boot -/
structure Txt (K : PySem.W.Frag) (mg : Str → Option Value) : Prop where
  b_int : mg "int" = none
  b_len : mg "len" = none
  b_range : mg "range" = none
  b_enumerate : mg "enumerate" = none
  b_isinstance : mg "isinstance" = none
  b_all : mg "all" = none
  b_sum : mg "sum" = none
  b_repr : mg "repr" = none
  b_tuple : mg "tuple" = none
  b_list : mg "list" = none
  b_str : mg "str" = none
  b_bool : mg "bool" = none
/-- all but what stands at a and b is kept -/
def Kp (a b : Addr) (H H' : Hp) : Prop := ∀ x o, H x = some o → x ≠ a → x ≠ b → H' x = some o
theorem Kp.refl {a b : Addr} {H : Hp} : Kp a b H H := fun _ _ h _ _ => h
theorem Kp.trans {a b : Addr} {H H1 H2 : Hp} (k : Kp a b H H1) (l : Kp a b H1 H2) : Kp a b H H2 := fun x o h h1 h2 => l x o (k x o h h1 h2) h1 h2
theorem Kp.of {a b : Addr} {H H' : Hp} (k : Same H H') : Kp a b H H' := fun x o h _ _ => k x o h
theorem Kp.free {a b p : Addr} {H H' : Hp} (k : Kp a b H H') (na : p ≠ a) (nb : p ≠ b) (h : H' p = none) : H p = none := by
  cases q : H p with
  | none => rfl
  | some o => rw [k p o q na nb] at h; cases h
theorem same_new {H H' : Hp} {p : Addr} {o : HO} (s : Same H H') (h : H' p = none) : Same H (upd H' p o) := fun b u q => by
  rw [upd_ne (ne_of_none (s b u q) h)]
  exact s b u q
theorem same_upd {H : Hp} {p : Addr} {o : HO} (h : H p = none) : Same H (upd H p o) := same_new (Same.refl H) h
mutual
/-- the value is these data; lists among them don't stand at m and g -/
inductive Dt (H : Hp) (m g : Addr) : V → PyData → Prop
  | non : Dt H m g .non .none
  | bl (b : Bool) : Dt H m g (.bl b) (.bool b)
  | int (i : Int) : Dt H m g (.int i) (.int i)
  | str (x : Str) : Dt H m g (.str x) (.str x)
  | lst {a : Addr} {xs : List V} {ds : List PyData} : H a = some (.lst xs) → a ≠ m → a ≠ g → DtA H m g xs ds → Dt H m g (.ref a) (.list ds)
  | tup {a : Addr} {xs : List V} {ds : List PyData} : H a = some (.tup xs) → a ≠ m → a ≠ g → DtA H m g xs ds → Dt H m g (.ref a) (.tuple ds)
inductive DtA (H : Hp) (m g : Addr) : List V → List PyData → Prop
  | nil : DtA H m g [] []
  | cons {v : V} {vs : List V} {d : PyData} {ds : List PyData} : Dt H m g v d → DtA H m g vs ds → DtA H m g (v :: vs) (d :: ds)
end
section
variable {H H' : Hp} {m g : Addr} {v : V} {d : PyData} {vs : List V} {ds : List PyData}
mutual
theorem Dt.keep (k : Kp m g H H') : ∀ {v : V} {d : PyData}, Dt H m g v d → Dt H' m g v d
  | _, _, .non => .non
  | _, _, .bl b => .bl b
  | _, _, .int i => .int i
  | _, _, .str x => .str x
  | _, _, .lst h h1 h2 a => .lst (k _ _ h h1 h2) h1 h2 (DtA.keep k a)
  | _, _, .tup h h1 h2 a => .tup (k _ _ h h1 h2) h1 h2 (DtA.keep k a)
theorem DtA.keep (k : Kp m g H H') : ∀ {vs : List V} {ds : List PyData}, DtA H m g vs ds → DtA H' m g vs ds
  | _, _, .nil => .nil
  | _, _, .cons h t => .cons (Dt.keep k h) (DtA.keep k t)
end
mutual
theorem Dt.dp {K : PySem.W.Frag} : ∀ {v : V} {d : PyData}, Dt H m g v d → Dp K H v d
  | _, _, .non => .non
  | _, _, .bl b => .bl b
  | _, _, .int i => .int i
  | _, _, .str x => .str x
  | _, _, .lst h _ _ a => .lst (SqL.of h) (DtA.dp a)
  | _, _, .tup h _ _ a => .tup (SqT.of h) (DtA.dp a)
theorem DtA.dp {K : PySem.W.Frag} : ∀ {vs : List V} {ds : List PyData}, DtA H m g vs ds → DpAll K H vs ds
  | _, _, .nil => .nil
  | _, _, .cons h t => .cons (Dt.dp h) (DtA.dp t)
end
theorem DtA.len : ∀ {vs : List V} {ds : List PyData}, DtA H m g vs ds → vs.length = ds.length
  | _, _, .nil => rfl
  | _, _, .cons _ t => by simp [DtA.len t]
theorem DtA.at : ∀ {vs : List V} {ds : List PyData} {i : Nat} {d : PyData}, DtA H m g vs ds → ds[i]? = some d → ∃ v, vs[i]? = some v ∧ Dt H m g v d
  | _, _, _, _, .nil, e => by simp at e
  | _, _, 0, _, .cons h _, e => by simp at e; subst e; exact ⟨_, rfl, h⟩
  | _, _, i + 1, _, .cons _ t, e => by
    obtain ⟨v, a, b⟩ := DtA.at (i := i) t (by simpa using e)
    exact ⟨v, by simpa using a, b⟩
theorem DtA.at' : ∀ {vs : List V} {ds : List PyData} {i : Nat} {v : V}, DtA H m g vs ds → vs[i]? = some v → ∃ d, ds[i]? = some d ∧ Dt H m g v d
  | _, _, _, _, .nil, e => by simp at e
  | _, _, 0, _, .cons h _, e => by simp at e; subst e; exact ⟨_, rfl, h⟩
  | _, _, i + 1, _, .cons _ t, e => by
    obtain ⟨v, a, b⟩ := DtA.at' (i := i) t (by simpa using e)
    exact ⟨v, by simpa using a, b⟩
theorem Dt.same (k : Same H H') (h : Dt H m g v d) : Dt H' m g v d := h.keep (Kp.of k)
theorem DtA.same (k : Same H H') (h : DtA H m g vs ds) : DtA H' m g vs ds := h.keep (Kp.of k)
end
/-! ### types -/
def tyN : PyData → String
  | .none => "NoneType"
  | .bool _ => "bool"
  | .int _ => "int"
  | .str _ => "str"
  | .list _ => "list"
  | .tuple _ => "tuple"
  | .dict _ => "dict"
theorem Dt.ty {K : PySem.W.Frag} {H : Hp} {m g : Addr} {v : V} {d : PyData} (h : Dt H m g v d) : TyX K H v (.type (tyN d)) := by
  cases h with
  | non => exact .base .non
  | bl b => exact .base (.bl b)
  | int i => exact .base (.int i)
  | str x => exact .base (.str x)
  | lst h _ _ _ => exact .base (.lst h)
  | tup h _ _ _ => exact .base (.tup h)
def isI : PyData → Bool
  | .int _ | .bool _ => true
  | _ => false
def isB : PyData → Bool
  | .bool _ => true
  | _ => false
def isT : PyData → Bool
  | .tuple _ => true
  | _ => false
def isS : PyData → Bool
  | .str _ => true
  | _ => false
theorem kit_I {K : PySem.W.Frag} {H : Hp} {m g : Addr} {v : V} {d : PyData} (h : Dt H m g v d) : PySem.W.kitOne K (.type (tyN d)) (.type "int") = some (isI d) := by
  cases h <;> exact kit_ty (by simp only [tyN, isI]; decide +kernel)
theorem kit_B {K : PySem.W.Frag} {H : Hp} {m g : Addr} {v : V} {d : PyData} (h : Dt H m g v d) : PySem.W.kitOne K (.type (tyN d)) (.type "bool") = some (isB d) := by
  cases h <;> exact kit_ty (by simp only [tyN, isB]; decide +kernel)
theorem kit_T {K : PySem.W.Frag} {H : Hp} {m g : Addr} {v : V} {d : PyData} (h : Dt H m g v d) : PySem.W.kitOne K (.type (tyN d)) (.type "tuple") = some (isT d) := by
  cases h <;> exact kit_ty (by simp only [tyN, isT]; decide +kernel)
theorem kit_S {K : PySem.W.Frag} {H : Hp} {m g : Addr} {v : V} {d : PyData} (h : Dt H m g v d) : PySem.W.kitOne K (.type (tyN d)) (.type "str") = some (isS d) := by
  cases h <;> exact kit_ty (by simp only [tyN, isS]; decide +kernel)
/-- x is True, x is False, x any of these data -/
def isTF (b : Bool) : PyData → Bool
  | .bool c => decide (c = b)
  | _ => false
def rIsTF : R2 := fun x y H Q => ∃ (d : PyData) (m g : Addr) (b : Bool), Dt H m g x d ∧ y = .bl b ∧ Q (.bl (isTF b d)) H
theorem op_isTF {X : Cx} : OpR X (compareOp .Is) rIsTF := by
  intro pins s σ H x y v u Q I rx ry h
  obtain ⟨d, m, g, b, dt, rfl, q⟩ := h
  cases (show u = Value.bool b from ry)
  cases dt with
  | bl c =>
    cases (show v = Value.bool c from rx)
    by_cases e : c = b
    · subst e
      exact wpAny_is_self rfl ⟨.bl true, H, I, rfl, by simpa [isTF] using q⟩
    · exact wpAny_is_other rfl (fun z => e (Value.bool.inj z)) ⟨.bl false, H, I, rfl, by simpa [e, isTF] using q⟩
  | non =>
    cases (show v = Value.none from rx)
    exact wpAny_is_other rfl (fun z => nomatch z) ⟨.bl false, H, I, rfl, q⟩
  | int i =>
    obtain ⟨t, rfl⟩ := (show ∃ t, v = Value.int i t from rx)
    exact wpAny_is_other rfl (fun z => nomatch z) ⟨.bl false, H, I, rfl, q⟩
  | str i =>
    obtain ⟨t, rfl⟩ := (show ∃ t, v = Value.str i t from rx)
    exact wpAny_is_other rfl (fun z => nomatch z) ⟨.bl false, H, I, rfl, q⟩
  | lst _ _ _ _ =>
    cases rx
    exact wpAny_is_other rfl (fun z => nomatch z) ⟨.bl false, H, I, rfl, q⟩
  | tup _ _ _ _ =>
    cases rx
    exact wpAny_is_other rfl (fun z => nomatch z) ⟨.bl false, H, I, rfl, q⟩
end Hk
set_option Elab.async false
set_option linter.all false
set_option maxRecDepth 100000
set_option maxHeartbeats 4000000
namespace Hk
open PySem PySem.Spec PyProof.Rows L2
/-! ### what is asked of data -/
def isWh : PyData → Bool
  | .int _ => true
  | _ => false
def isBt (lo hi : Int) : PyData → Bool
  | .int i => decide (lo ≤ i) && decide (i ≤ hi)
  | _ => false
/-- a def that asks something of one thing -/
def spD1 (f : PyData → Bool) : Sp := fun vs H Q _ => ∃ (v : V) (d : PyData) (m g : Addr), vs = [v] ∧ Dt H m g v d ∧ ∀ H', Same H H' → Q (.bl (f d)) H'
def spD1I (f : Int → Int → PyData → Bool) : Sp := fun vs H Q _ => ∃ (v : V) (d : PyData) (m g : Addr) (lo hi : Int), vs = [v, .int lo, .int hi] ∧ Dt H m g v d ∧ ∀ H', Same H H' → Q (.bl (f lo hi d)) H'
section
variable {P : Program} {w : World} {K : PySem.W.Frag} {mg : Str → Option Value} {base : Heap}
abbrev s_is_whole : Stmt := top 8
theorem sc_is_whole : FnScope ["value"] ["value"] (defScope s_is_whole) := ⟨rfl, rfl, rfl, by decide +kernel, rfl, by decide +kernel, by decide +kernel⟩
theorem ok_is_whole (T : Txt K mg) (at_ : At K mg "is_whole" s_is_whole ["value"]) : Kn P w K mg base 1 "is_whole" ["value"] (spD1 isWh) := by
  refine Kn.mkN (st := s_is_whole) (N := ["value"]) at_ sc_is_whole (fun vs H Q E h => ?_) (fun f cdv A outer s H vs Q E hr free h => ?_)
  · obtain ⟨v, d, m, g, rfl, _⟩ := h
    rfl
  · obtain ⟨v, d, m, g, rfl, dt, k⟩ := h
    refine ⟨_, (pss_one (ps_ret (pe_and (pe_callB (id := "isinstance") (show CallR _ (.builtin "isinstance") (rIsi K) from call_isi) (by rfl) T.b_isinstance (by decide +kernel) (pa_cons (pv 0) (pa_cons (pe_bltn (v := .ty "int") (by rfl) T.b_int (by decide +kernel) rfl) pa_nil))) (pe_one (pe_not (pe_callB (id := "isinstance") (show CallR _ (.builtin "isinstance") (rIsi K) from call_isi) (by rfl) T.b_isinstance (by decide +kernel) (pa_cons (pv 0) (pa_cons (pe_bltn (v := .ty "bool") (by rfl) T.b_bool (by decide +kernel) rfl) pa_nil)))))))), ?_⟩
    refine ⟨_, rfl, v, .ty "int", .type (tyN d), .type "int", isI d, rfl, .ty _, dt.ty, kit_I dt, _, rfl, ?_⟩
    have k' := k H (Same.refl H)
    cases hI : isI d with
    | false =>
      refine iteF ?_
      have e : isWh d = false := by cases d <;> simp_all [isI, isWh]
      rw [e] at k'
      exact k'
    | true =>
      refine iteT ⟨_, rfl, v, .ty "bool", .type (tyN d), .type "bool", isB d, rfl, .ty _, dt.ty, kit_B dt, _, rfl, ?_⟩
      have e : isWh d = !(isB d) := by cases d <;> simp_all [isI, isB, isWh]
      rw [e] at k'
      exact k'
abbrev s_is_truth : Stmt := top 9
theorem sc_is_truth : FnScope ["value"] ["value"] (defScope s_is_truth) := ⟨rfl, rfl, rfl, by decide +kernel, rfl, by decide +kernel, by decide +kernel⟩
theorem ok_is_truth (T : Txt K mg) (at_ : At K mg "is_truth" s_is_truth ["value"]) : Kn P w K mg base 1 "is_truth" ["value"] (spD1 isB) := by
  refine Kn.mkN (st := s_is_truth) (N := ["value"]) at_ sc_is_truth (fun vs H Q E h => ?_) (fun f cdv A outer s H vs Q E hr free h => ?_)
  · obtain ⟨v, d, m, g, rfl, _⟩ := h
    rfl
  · obtain ⟨v, d, m, g, rfl, dt, k⟩ := h
    refine ⟨_, (pss_one (ps_ret (pe_or (pe_cmpR op_isTF (pv 0) pe_bl (nomark _)) (pe_one (pe_cmpR op_isTF (pv 0) pe_bl (nomark _)))))), ?_⟩
    refine ⟨_, rfl, d, m, g, true, dt, rfl, _, rfl, ?_⟩
    have k' := k H (Same.refl H)
    cases h1 : isTF true d with
    | true =>
      have e : isB d = true := by cases d <;> simp_all [isB, isTF]
      rw [e] at k'
      exact iteT k'
    | false =>
      refine iteF ⟨_, rfl, d, m, g, false, dt, rfl, ?_⟩
      have e : isB d = isTF false d := by cases d <;> simp_all [isB, isTF]
      rw [e] at k'
      exact k'
abbrev s_is_between : Stmt := top 10
theorem sc_is_between : FnScope ["value", "low", "high"] ["value", "low", "high"] (defScope s_is_between) := ⟨rfl, rfl, rfl, by decide +kernel, rfl, by decide +kernel, by decide +kernel⟩
theorem ok_is_between (T : Txt K mg) (k_is_whole : Kn P w K mg base 1 "is_whole" ["value"] (spD1 isWh)) (at_ : At K mg "is_between" s_is_between ["value", "low", "high"]) : Kn P w K mg base 2 "is_between" ["value", "low", "high"] (spD1I isBt) := by
  refine Kn.mkN (st := s_is_between) (N := ["value", "low", "high"]) at_ sc_is_between (fun vs H Q E h => ?_) (fun f cdv A outer s H vs Q E hr free h => ?_)
  · obtain ⟨v, d, m, g, lo, hi, rfl, _⟩ := h
    rfl
  · obtain ⟨v, d, m, g, lo, hi, rfl, dt, k⟩ := h
    refine ⟨_, (pss_one (ps_ret (pe_and (pe_callN k_is_whole free (hr.mono (by decide)) rfl passL (pa_cons (pv 0) pa_nil)) (pe_one (pe_chain op_le op_le (pv 1) (pv 0) (pv 2)))))), ?_⟩
    refine ⟨_, rfl, v, d, m, g, rfl, dt, fun H1 s1 => ⟨_, rfl, ?_⟩⟩
    have k' := k H1 s1
    cases hW : isWh d with
    | false =>
      refine iteF ?_
      have e : isBt lo hi d = false := by cases d <;> simp_all [isWh, isBt]
      rw [e] at k'
      exact k'
    | true =>
      obtain ⟨i, rfl⟩ : ∃ i, d = .int i := by cases d <;> simp_all [isWh]
      cases dt
      refine iteT ⟨_, rfl, _, rfl, _, _, rfl, rfl, _, rfl, ?_⟩
      have e : isBt lo hi (.int i) = (decide (lo ≤ i) && decide (i ≤ hi)) := rfl
      rw [e] at k'
      by_cases c : lo ≤ i
      · rw [decide_eq_true c] at k' ⊢
        exact iteT ⟨_, rfl, _, _, rfl, rfl, k'⟩
      · rw [decide_eq_false c] at k' ⊢
        exact iteF k'
end
end Hk
set_option Elab.async false
set_option linter.all false
set_option maxRecDepth 100000
set_option maxHeartbeats 4000000
namespace Hk
open PySem PySem.Spec PyProof.Rows L2
/-- a comprehension over a tuple whose step leaves all as it was -/
theorem lc_map {K : PySem.W.Frag} {a D : Addr} {xs : List V} {g : TG} {te : TE} {own : List Nat} {σ : L2.St} {H1 : Hp} {Qd : Hp → Prop} (f : Nat → V) (hx : H1 a = some (.tup xs)) (nD : H1 D = none) (small : xs.length < sizeLine)
    (step : ∀ i x H (Q' : VK), xs[i]? = some x → Same H1 H → (∀ H4, Same H H4 → Q' (f i) H4) → g x (wipe σ own) H fun σ2 H2 => wipe σ2 own = wipe σ own ∧ te σ2 H2 Q')
    (hd : ∀ H, Same H1 H → H D = some (.lst ((List.range xs.length).map f)) → Qd H) :
    ∃ W : Nat → Nat → Hp → Prop, (∃ m, W 0 m (upd H1 D (.lst []))) ∧ ∀ i m H, W i m H →
      ((Itt K a).stop i H ∧ Qd H) ∨ ((Itt K a).go i H ∧ ∃ Nx : Hp → Prop, (∀ H', Nx H' → ∃ m', m' < m ∧ W (i + 1) m' H') ∧ ∀ x H', (Itt K a).yld i H x H' → g x (wipe σ own) H' fun σ2 H2 => wipe σ2 own = wipe σ own ∧ tYes σ2 H2 fun b H3 =>
        if b = true then te σ2 H3 fun y H4 => ∃ acc, H4 D = some (.lst acc) ∧ acc.length < sizeLine ∧ Nx (upd H4 D (.lst (acc ++ [y]))) else Nx H3) := by
  refine lc_it (walk_tup (xs := xs)) (fun i H => Same H1 H ∧ H D = some (.lst ((List.range i).map f))) ⟨same_upd nD, upd_same⟩ (fun i H _ p => SqT.of (p.1 _ _ hx)) ?_ (fun H p => hd H p.1 p.2)
  rintro i x H H' hi ⟨s1, e1⟩ ⟨rfl, hxi⟩
  have z := step i x H' (fun y H4 => ∃ acc, H4 D = some (.lst acc) ∧ acc.length < sizeLine ∧ Same H1 (upd H4 D (.lst (acc ++ [y]))) ∧ upd H4 D (.lst (acc ++ [y])) D = some (.lst ((List.range (i + 1)).map f))) hxi s1 (fun H4 s4 => ?_)
  · exact z
  · refine ⟨_, s4 _ _ e1, by rw [List.length_map, List.length_range]; omega, fun b o q => ?_, ?_⟩
    · rw [upd_ne (ne_of_none q nD)]
      exact s4 _ _ (s1 _ _ q)
    · rw [upd_same, List.range_succ, List.map_append]
      rfl
/-- a row of truths that a comprehension made -/
theorem all_range {p : Nat → Bool} {n : Nat} : ((List.range n).map p).all id = true ↔ ∀ i, i < n → p i = true := by
  simp
def isTRow : PyData → Bool
  | .tuple ds => decide (1 ≤ ds.length) && decide (ds.length ≤ 8) && ds.all isB
  | _ => false
theorem small_of {n k : Nat} (h : n ≤ k) (hk : k < 1000) : n < sizeLine := small1000 (by omega)
theorem range_all {ds : List PyData} {p : PyData → Bool} : ((List.range ds.length).map fun i => ((ds[i]?).map p).getD false).all id = ds.all p := by
  rw [Bool.eq_iff_iff]
  simp only [List.all_eq_true, List.mem_map, List.mem_range, id]
  constructor
  · intro h x hx
    obtain ⟨i, hi, e⟩ := List.mem_iff_getElem.mp hx
    have z := h _ ⟨i, hi, rfl⟩
    rw [List.getElem?_eq_getElem hi, e] at z
    simpa using z
  · rintro h x ⟨i, hi, rfl⟩
    rw [List.getElem?_eq_getElem hi]
    simpa using h _ (List.getElem_mem hi)
section
variable {P : Program} {w : World} {K : PySem.W.Frag} {mg : Str → Option Value} {base : Heap}
abbrev s_is_truth_row : Stmt := top 16
theorem sc_is_truth_row : FnScope ["value", "item"] ["value"] (defScope s_is_truth_row) := ⟨rfl, rfl, rfl, by decide +kernel, rfl, by decide +kernel, by decide +kernel⟩
theorem ok_is_truth_row (T : Txt K mg) (hm : ∃ t, mg "MOST_STATES" = some (.int 8 t)) (k_is_truth : Kn P w K mg base 1 "is_truth" ["value"] (spD1 isB)) (at_ : At K mg "is_truth_row" s_is_truth_row ["value"]) : Kn P w K mg base 2 "is_truth_row" ["value"] (spD1 isTRow) := by
  refine Kn.mkN (st := s_is_truth_row) (N := ["value", "item"]) at_ sc_is_truth_row (fun vs H Q E h => ?_) (fun f cdv A outer s H vs Q E hr free h => ?_)
  · obtain ⟨v, d, m, g, rfl, _⟩ := h
    rfl
  · obtain ⟨v, d, m, g, rfl, dt, k⟩ := h
    obtain ⟨t, hms⟩ := hm
    refine ⟨_, (pss_cons (ps_if (PW.pt (pw_or (pt_not (pt_val (pe_callB (id := "isinstance") (show CallR _ (.builtin "isinstance") (rIsi K) from call_isi) (by rfl) T.b_isinstance (by decide +kernel) (pa_cons (pv 0) (pa_cons (pe_bltn (v := .ty "tuple") (by rfl) T.b_tuple (by decide +kernel) rfl) pa_nil))))) (pw_or1 (pt_not (pt_chain op_le op_le pe_int (pe_callB (id := "len") call_len_seq (by rfl) T.b_len (by decide +kernel) (pa_cons (pv 0) pa_nil)) (pe_glob (v := .int 8) rfl hms ⟨_, rfl⟩)))))) (pss_one (ps_ret pe_bl)) pss_nil) (pss_one (ps_ret (pe_callB (id := "all") (cr_all rfl) (by rfl) T.b_all (by decide +kernel) (pa_cons (pe_lc (own := [("item", 1)]) (by rfl) sc_is_truth_row.nd (tt := tYes) (pi_tup (pv 0)) (blkOk_by (own := [("item", 1)]) (N := ["value", "item"]) (sc := defScope s_is_truth_row) (by decide +kernel)) (fun _ _ _ _ _ => pg_name (i := 1) sc_is_truth_row.nd rfl (Or.inl rfl)) (fun _ _ _ _ _ => pts_nil) (fun _ _ _ _ _ => (pe_callN k_is_truth free (hr.mono (by decide)) rfl passL (pa_cons (pv 1) pa_nil)))) pa_nil))))), ?_⟩
    refine ⟨_, rfl, v, .ty "tuple", .type (tyN d), .type "tuple", isT d, rfl, .ty _, dt.ty, kit_T dt, _, rfl, ?_⟩
    cases hT : isT d with
    | false =>
      refine iteT (iteT ?_)
      have e : isTRow d = false := by cases d <;> simp_all [isT, isTRow]
      have k' := k H (Same.refl H)
      rw [e] at k'
      exact k'
    | true =>
      obtain ⟨ds, rfl⟩ : ∃ ds, d = .tuple ds := by cases d <;> simp_all [isT]
      cases dt with
      | @tup a xs _ hx n1 n2 da =>
      have el := da.len
      refine iteF ⟨_, rfl, a, xs, rfl, .inr (SqT.of hx), _, _, rfl, rfl, _, rfl, ?_⟩
      have e : isTRow (.tuple ds) = (decide (1 ≤ ds.length) && decide (ds.length ≤ 8) && ds.all isB) := rfl
      by_cases c1 : (1 : Int) ≤ (xs.length : Int)
      · rw [decide_eq_true c1]
        refine iteT ⟨_, _, rfl, rfl, _, rfl, ?_⟩
        by_cases c2 : (xs.length : Int) ≤ 8
        · rw [decide_eq_true c2]
          refine iteF ?_
          refine ⟨_, rfl, a, rfl, ⟨_, SqT.of hx⟩, fun D nD => ?_⟩
          refine lc_map (fun i => .bl (((ds[i]?).map isB).getD false)) hx nD (small_of (k := 8) (by omega) (by decide)) (fun i x H1 Q' hxi s1 q => ?_) (fun H1 s1 hD => ?_)
          · obtain ⟨di, hdi, dti⟩ := da.at' hxi
            refine ⟨rfl, _, rfl, x, di, m, g, rfl, dti.same s1, fun H' s2 => ?_⟩
            have z := q H' s2
            rw [hdi] at z
            exact z
          · refine ⟨D, (List.range xs.length).map (fun i => ((ds[i]?).map isB).getD false), rfl, SqL.of (by rw [hD, List.map_map]; rfl), ?_⟩
            have k' := k H1 s1
            rw [el, range_all]
            have e2 : isTRow (.tuple ds) = ds.all isB := by
              rw [e, decide_eq_true (by omega), decide_eq_true (by omega)]
              rfl
            rw [e2] at k'
            exact k'
        · rw [decide_eq_false c2]
          refine iteT ?_
          have k' := k H (Same.refl H)
          have e2 : isTRow (.tuple ds) = false := by
            rw [e, decide_eq_false (show ¬ ds.length ≤ 8 by omega)]
            simp
          rw [e2] at k'
          exact k'
      · rw [decide_eq_false c1]
        refine iteF ?_
        refine ⟨_, rfl, ?_⟩
        have k' := k H (Same.refl H)
        have e2 : isTRow (.tuple ds) = false := by
          rw [e, decide_eq_false (show ¬ 1 ≤ ds.length by omega)]
          simp
        rw [e2] at k'
        exact iteT k'
end
end Hk
set_option Elab.async false
set_option linter.all false
set_option maxRecDepth 100000
set_option maxHeartbeats 4000000
namespace Hk
open PySem PySem.Spec PyProof.Rows L2
/-! ### data that == and in may look at -/
abbrev Okd (d : PyData) : Prop := SeqAt.shaped d = true
theorem lay_mem : ∀ {ds : List PyData} {d : PyData}, PyData.canLayAll0 ds = true → d ∈ ds → d.canLay0 = true
  | [], _, _, h => by cases h
  | x :: xs, d, h, hm => by
    simp [PyData.canLayAll0] at h
    rcases List.mem_cons.mp hm with e | e
    · subst e
      exact h.1
    · exact lay_mem h.2 e
theorem depth_mem : ∀ {ds : List PyData} {d : PyData}, d ∈ ds → d.depth ≤ PyData.depthAll ds
  | [], _, h => by cases h
  | x :: xs, d, hm => by
    simp [PyData.depthAll]
    rcases List.mem_cons.mp hm with e | e
    · subst e
      omega
    · have := depth_mem e
      omega
theorem okd_iff {d : PyData} : Okd d ↔ d.canLay0 = true ∧ d.depth ≤ 64 := by
  unfold Okd SeqAt.shaped
  simp
theorem okd_tup {ds : List PyData} {d : PyData} (h : Okd (.tuple ds)) (hm : d ∈ ds) : Okd d := by
  rw [okd_iff] at h ⊢
  simp [PyData.canLay0, PyData.depth] at h
  have := depth_mem hm
  exact ⟨lay_mem h.1 hm, by omega⟩
theorem okd_lst {ds : List PyData} {d : PyData} (h : Okd (.list ds)) (hm : d ∈ ds) : Okd d := by
  rw [okd_iff] at h ⊢
  simp [PyData.canLay0, PyData.depth] at h
  have := depth_mem hm
  exact ⟨lay_mem h.1 hm, by omega⟩
/-- x in t, t a tuple, both any data -/
def rInT (K : PySem.W.Frag) : R2 := fun x y H Q => ∃ d ds, Dp K H x d ∧ Dp K H y (.tuple ds) ∧ Okd d ∧ Okd (.tuple ds) ∧ Q (.bl (ds.any fun z => PyData.eqv z d)) H
theorem op_inT {X : Cx} (hu : X.A.units + 65 < cLine) : OpR X (compareOp .In) (rInT X.K) := by
  intro pins s σ H x y v u Q I rx ry h
  obtain ⟨d, ds, hd, he, sd, se, q⟩ := h
  obtain ⟨as, r1⟩ := Dp.reads I d x v hd rx
  obtain ⟨bs, r2⟩ := Dp.reads I (.tuple ds) y u he ry
  exact SeqAt.in_tuple_reads r2 r1 (SeqAt.canLay_of_shaped se) (SeqAt.canLay_of_shaped sd) (room_in_shaped sd hu) ⟨.bl _, H, I, rfl, q⟩
/-! ### words -/
def inW (ws : List Str) : PyData → Bool
  | .str y => ws.any (· == y)
  | _ => false
theorem inW_any (ws : List Str) (d : PyData) : ((ws.map PyData.str).any fun z => PyData.eqv z d) = inW ws d := by
  cases d with
  | str y => simp only [inW, List.any_map]; rfl
  | none => simp [inW, List.any_map, PyData.eqv, Function.comp_def]
  | bool b => simp [inW, List.any_map, PyData.eqv, Function.comp_def]
  | int i => simp [inW, List.any_map, PyData.eqv, Function.comp_def]
  | list xs => simp [inW, List.any_map, PyData.eqv, Function.comp_def]
  | tuple xs => simp [inW, List.any_map, PyData.eqv, Function.comp_def]
  | dict xs => simp [inW, List.any_map, PyData.eqv, Function.comp_def]
theorem eqv_str (x : Str) (d : PyData) : PyData.eqv d (.str x) = inW [x] d := by
  cases d with
  | str y =>
    simp only [PyData.eqv, inW, List.any_cons, List.any_nil, Bool.or_false]
    by_cases e : y = x
    · subst e
      rfl
    · rw [beq_eq_false_iff_ne.mpr e, beq_eq_false_iff_ne.mpr (Ne.symm e)]
  | none => simp [inW, PyData.eqv]
  | bool b => simp [inW, PyData.eqv]
  | int i => simp [inW, PyData.eqv]
  | list xs => simp [inW, PyData.eqv]
  | tuple xs => simp [inW, PyData.eqv]
  | dict xs => simp [inW, PyData.eqv]
/-! ### what the parts of a custom are -/
def isPair : PyData → Bool
  | .tuple ds => decide (ds.length = 2)
  | _ => false
def cellOk (hs : List Bool) (ws : List Str) (w : PyData) : PyData → Bool
  | .int i => decide (0 ≤ i) && decide (i ≤ (hs.length : Int) - 1) && (if hs.getD i.toNat false then inW ws w else inW ["none"] w)
  | _ => false
def isCell (hs : List Bool) (ws : List Str) : PyData → Bool
  | .tuple [c, w] => cellOk hs ws w c
  | _ => false
theorem cell_pair {hs : List Bool} {ws : List Str} {d : PyData} (h : isPair d = false) : isCell hs ws d = false := by
  cases d with
  | tuple ds =>
    match ds, h with
    | [_, _], h => simp [isPair] at h
    | [], _ => rfl
    | [_], _ => rfl
    | _ :: _ :: _ :: _, _ => rfl
  | _ => rfl
theorem cell_bt {hs : List Bool} {ws : List Str} {w c : PyData} (h : isBt 0 ((hs.length : Int) - 1) c = false) : cellOk hs ws w c = false := by
  cases c with
  | int i =>
    have h' : (decide (0 ≤ i) && decide (i ≤ (hs.length : Int) - 1)) = false := h
    show (decide (0 ≤ i) && decide (i ≤ (hs.length : Int) - 1) && _) = false
    rw [h']
    rfl
  | _ => rfl
theorem pair_two {d : PyData} (h : isPair d = true) : ∃ a b, d = .tuple [a, b] := by
  cases d with
  | tuple ds =>
    match ds, h with
    | [a, b], _ => exact ⟨a, b, rfl⟩
    | [], h => simp [isPair] at h
    | [_], h => simp [isPair] at h
    | _ :: _ :: _ :: _, h => simp [isPair] at h
  | _ => simp [isPair] at h
theorem room65 {k : Nat} {A : Around} (r : Room k A) : A.units + 65 < cLine := by
  have := r.un
  omega
def isRowOf (n : Nat) (p : Nat → PyData → Bool) : PyData → Bool
  | .tuple ds => decide (ds.length = n) && (List.range ds.length).all fun i => ((ds[i]?).map (p i)).getD false
  | _ => false
def oldW (st : List Bool) (w : Str) (i : Nat) : List Str := if st.getD i false then [w] else []
def isRead (st rk : List Bool) : PyData → Bool := isRowOf st.length fun s => isRowOf rk.length fun r => isCell st (oldW st "old" s ++ oldW rk "new" r)
def isCloseRow (st rk : List Bool) (own : List Str) : PyData → Bool := isRowOf st.length fun s => isCell rk (oldW st "line" s ++ own)
def isBoth (st rk : List Bool) : PyData → Bool
  | .tuple [a, b] => isCloseRow st rk [] a && isCloseRow st rk ["self"] b
  | _ => false
def isClose (n : Int) (st rk : List Bool) : PyData → Bool
  | .tuple ds => decide ((ds.length : Int) = n) && ds.all (isBoth st rk)
  | _ => false
def boolsOf : PyData → List Bool
  | .tuple ds => ds.map fun d => match d with | .bool b => b | _ => false
  | _ => []
def fault : PyData → Option Str
  | .tuple [mk, st, rk, rd, cl] =>
    if isBt 1 3 mk then
      if isTRow st && !(boolsOf st).getD 0 false then
        if isTRow rk then
          if isRead (boolsOf st) (boolsOf rk) rd then
            if isClose (match mk with | .int n => n | _ => 0) (boolsOf st) (boolsOf rk) cl then none else some "close"
          else some "read"
        else some "ranks"
      else some "stands"
    else some "form"
  | _ => some "form"
end Hk
set_option Elab.async false
set_option linter.all false
set_option maxRecDepth 100000
set_option maxHeartbeats 4000000
namespace Hk
open PySem PySem.Spec PyProof.Rows L2
/-- value, holds, words -/
def spCell : Sp := fun vs H Q _ => ∃ (v : V) (d : PyData) (m g ha wa : Addr) (hs : List Bool) (ws : List Str), vs = [v, .ref ha, .ref wa] ∧ Dt H m g v d ∧ Okd d ∧ H ha = some (.tup (hs.map V.bl)) ∧ H wa = some (.tup (ws.map V.str)) ∧ Okd (.tuple (ws.map PyData.str)) ∧
  ∀ H', Same H H' → Q (.bl (isCell hs ws d)) H'
def spRead : Sp := fun vs H Q _ => ∃ (v : V) (d : PyData) (m g sa ra : Addr) (st rk : List Bool), vs = [v, .ref sa, .ref ra] ∧ Dt H m g v d ∧ Okd d ∧ H sa = some (.tup (st.map V.bl)) ∧ H ra = some (.tup (rk.map V.bl)) ∧ st.length ≤ 8 ∧ rk.length ≤ 8 ∧
  ∀ H', Same H H' → Q (.bl (isRead st rk d)) H'
theorem dp_strs {K : PySem.W.Frag} {H : Hp} : ∀ ws : List Str, DpAll K H (ws.map V.str) (ws.map PyData.str)
  | [] => .nil
  | x :: ws => .cons (.str x) (dp_strs ws)
section
variable {P : Program} {w : World} {K : PySem.W.Frag} {mg : Str → Option Value} {base : Heap}
abbrev s_is_pair : Stmt := top 17
theorem sc_is_pair : FnScope ["value"] ["value"] (defScope s_is_pair) := ⟨rfl, rfl, rfl, by decide +kernel, rfl, by decide +kernel, by decide +kernel⟩
theorem ok_is_pair (T : Txt K mg) (at_ : At K mg "is_pair" s_is_pair ["value"]) : Kn P w K mg base 1 "is_pair" ["value"] (spD1 isPair) := by
  refine Kn.mkN (st := s_is_pair) (N := ["value"]) at_ sc_is_pair (fun vs H Q E h => ?_) (fun f cdv A outer s H vs Q E hr free h => ?_)
  · obtain ⟨v, d, m, g, rfl, _⟩ := h
    rfl
  · obtain ⟨v, d, m, g, rfl, dt, k⟩ := h
    refine ⟨_, (pss_one (ps_ret (pe_and (pe_callB (id := "isinstance") (show CallR _ (.builtin "isinstance") (rIsi K) from call_isi) (by rfl) T.b_isinstance (by decide +kernel) (pa_cons (pv 0) (pa_cons (pe_bltn (v := .ty "tuple") (by rfl) T.b_tuple (by decide +kernel) rfl) pa_nil))) (pe_one (pe_cmpR op_eq (pe_callB (id := "len") call_len_seq (by rfl) T.b_len (by decide +kernel) (pa_cons (pv 0) pa_nil)) pe_int (nomark _)))))), ?_⟩
    refine ⟨_, rfl, v, .ty "tuple", .type (tyN d), .type "tuple", isT d, rfl, .ty _, dt.ty, kit_T dt, _, rfl, ?_⟩
    have k' := k H (Same.refl H)
    cases hT : isT d with
    | false =>
      have e : isPair d = false := by cases d <;> simp_all [isT, isPair]
      rw [e] at k'
      exact iteF k'
    | true =>
      obtain ⟨ds, rfl⟩ : ∃ ds, d = .tuple ds := by cases d <;> simp_all [isT]
      cases dt with
      | @tup a xs _ hx n1 n2 da =>
      refine iteT ⟨_, rfl, a, xs, rfl, .inr (SqT.of hx), rfl, ?_⟩
      have e : isPair (.tuple ds) = decide (V.int (xs.length : Int) = V.int 2) := by
        show decide (ds.length = 2) = _
        rw [da.len]
        by_cases c : ds.length = 2
        · rw [decide_eq_true c, decide_eq_true (by rw [c]; rfl)]
        · rw [decide_eq_false c, decide_eq_false (fun z => c (by have := V.int.inj z; omega))]
      rw [e] at k'
      exact k'
abbrev s_is_cell : Stmt := top 18
theorem sc_is_cell : FnScope ["value", "holds", "words"] ["value", "holds", "words"] (defScope s_is_cell) := ⟨rfl, rfl, rfl, by decide +kernel, rfl, by decide +kernel, by decide +kernel⟩
theorem ok_is_cell (T : Txt K mg) (k_is_pair : Kn P w K mg base 1 "is_pair" ["value"] (spD1 isPair)) (k_is_between : Kn P w K mg base 2 "is_between" ["value", "low", "high"] (spD1I isBt)) (at_ : At K mg "is_cell" s_is_cell ["value", "holds", "words"]) : Kn P w K mg base 3 "is_cell" ["value", "holds", "words"] spCell := by
  refine Kn.mkN (st := s_is_cell) (N := ["value", "holds", "words"]) at_ sc_is_cell (fun vs H Q E h => ?_) (fun f cdv A outer s H vs Q E hr free h => ?_)
  · obtain ⟨v, d, m, g, ha, wa, hs, ws, rfl, _⟩ := h
    rfl
  · obtain ⟨v, d, m, g, ha, wa, hs, ws, rfl, dt, od, hh, hw, ow, k⟩ := h
    refine ⟨_, (pss_cons (ps_if (PW.pt (pw_or (pt_not (pt_val (pe_callN k_is_pair free (hr.mono (by decide)) rfl passL (pa_cons (pv 0) pa_nil)))) (pw_or1 (pt_not (pt_val (pe_callN k_is_between free (hr.mono (by decide)) rfl passL (pa_cons (pe_ix ix_tup (pv 0) pe_int (fun _ _ => rfl)) (pa_cons pe_int (pa_cons (pe_op op_sub (pe_callB (id := "len") call_len_seq (by rfl) T.b_len (by decide +kernel) (pa_cons (pv 1) pa_nil)) pe_int) pa_nil))))))))) (pss_one (ps_ret pe_bl)) pss_nil) (pss_cons (ps_if (pt_not (pt_val (pe_ix ix_tup (pv 1) (pe_ix ix_tup (pv 0) pe_int (fun _ _ => rfl)) (fun _ _ => rfl)))) (pss_one (ps_ret (pe_cmpR (op_eqD hr.units) (pe_ix ix_tup (pv 0) pe_int (fun _ _ => rfl)) pe_str (nomark _)))) pss_nil) (pss_one (ps_ret (pe_cmpR (op_inT (room65 hr)) (pe_ix ix_tup (pv 0) pe_int (fun _ _ => rfl)) (pv 2) (by rfl)))))), ?_⟩
    refine ⟨_, rfl, v, d, m, g, rfl, dt, fun H1 s1 => ⟨_, rfl, ?_⟩⟩
    cases hP : isPair d with
    | false =>
      have e : isCell hs ws d = false := cell_pair hP
      have k' := k H1 s1
      rw [e] at k'
      exact iteT (iteT k')
    | true =>
      obtain ⟨d0, d1, rfl⟩ := pair_two hP
      cases dt.same s1 with
      | @tup a xs _ hx n1 n2 da =>
      cases da with
      | @cons v0 vr _ _ dt0 da1 =>
      cases da1 with
      | @cons v1 vr2 _ _ dt1 da2 =>
      cases da2
      refine iteF ⟨_, rfl, a, _, _, v0, rfl, rfl, SqT.of hx, rfl, _, rfl, ha, _, rfl, .inr (SqT.of (s1 _ _ hh)), _, _, rfl, rfl, v0, d0, m, g, _, _, rfl, dt0, fun H2 s2 => ⟨_, rfl, ?_⟩⟩
      have s12 := s1.trans s2
      have k' := k H2 s12
      have hh2 := s12 _ _ hh
      have hw2 := s12 _ _ hw
      have hx2 := s2 _ _ hx
      have ll : ((hs.map V.bl).length : Int) = (hs.length : Int) := by rw [List.length_map]
      have od1 : Okd d1 := okd_tup od (by simp)
      have dt1' : Dt H2 m g v1 d1 := dt1.same s2
      rw [ll]
      cases hB : isBt 0 ((hs.length : Int) - 1) d0 with
      | false =>
        have e : isCell hs ws (.tuple [d0, d1]) = false := by
          exact cell_bt hB
        rw [e] at k'
        exact iteT k'
      | true =>
        obtain ⟨i, rfl⟩ : ∃ i, d0 = .int i := by cases d0 <;> simp_all [isBt]
        cases dt0
        simp [isBt] at hB
        obtain ⟨j, rfl⟩ : ∃ j : Nat, i = (j : Int) := ⟨i.toNat, by omega⟩
        have hj : j < hs.length := by omega
        have e : isCell hs ws (.tuple [.int (j : Int), d1]) = (if hs.getD j false then inW ws d1 else inW ["none"] d1) := by
          show (decide (0 ≤ (j : Int)) && decide ((j : Int) ≤ (hs.length : Int) - 1) && (if hs.getD (j : Int).toNat false then inW ws d1 else inW ["none"] d1)) = _
          rw [decide_eq_true (by omega), decide_eq_true (by omega)]
          rfl
        rw [e] at k'
        refine iteF ⟨_, rfl, _, rfl, a, _, 0, _, rfl, rfl, SqT.of hx2, rfl, ha, _, _, .bl (hs[j]), rfl, rfl, SqT.of hh2, atI_nat (by rw [List.getElem?_map, List.getElem?_eq_getElem hj]; rfl), _, rfl, ?_⟩
        have eg : hs.getD j false = hs[j] := by simp [hj]
        rw [eg] at k'
        cases hb : hs[j] with
        | false =>
          rw [hb] at k'
          refine iteT ⟨_, rfl, a, _, 1, v1, rfl, rfl, SqT.of hx2, rfl, d1, .str "none", dt1'.dp, .str _, od1, by decide +kernel, ?_⟩
          rw [eqv_str]
          exact k'
        | true =>
          rw [hb] at k'
          refine iteF ⟨_, rfl, a, _, 1, v1, rfl, rfl, SqT.of hx2, rfl, _, rfl, d1, ws.map PyData.str, dt1'.dp, .tup (SqT.of hw2) (dp_strs ws), od1, ow, ?_⟩
          rw [inW_any]
          exact k'
end
end Hk
set_option Elab.async false
set_option linter.all false
set_option maxRecDepth 100000
set_option maxHeartbeats 4000000
namespace Hk
open PySem PySem.Spec PyProof.Rows L2
theorem cat_tup {K : PySem.W.Frag} {H : Hp} {a b : Addr} {xs ys : List V} {Q : VK} (ha : H a = some (.tup xs)) (hb : H b = some (.tup ys)) (small : xs.length + ys.length ≤ sizeLine) (k : ∀ p H', Same H H' → H' p = some (.tup (xs ++ ys)) → Q (.ref p) H') : rCatA K (.ref a) (.ref b) H Q := by
  refine ⟨a, b, xs, ys, rfl, rfl, SqT.of ha, SqT.of hb, small, fun e => ?_, fun _ e => ?_, fun _ _ p hp => ?_⟩
  · subst e
    exact k b H (Same.refl H) hb
  · subst e
    exact k a H (Same.refl H) (by rw [List.append_nil]; exact ha)
  · exact k p _ (same_upd hp) upd_same
theorem okd_strs {ws : List Str} (h : ws.all (fun x => (PyData.str x).canLay0) = true) : Okd (.tuple (ws.map PyData.str)) := by
  rw [okd_iff]
  have lay : ∀ ws : List Str, ws.all (fun x => (PyData.str x).canLay0) = true → PyData.canLayAll0 (ws.map PyData.str) = true := by
    intro ws
    induction ws with
    | nil => intro _; rfl
    | cons x ws ih =>
      intro h
      simp only [List.all_cons, Bool.and_eq_true] at h
      simp only [List.map_cons, PyData.canLayAll0, Bool.and_eq_true]
      exact ⟨h.1, ih h.2⟩
  have dep : ∀ ws : List Str, PyData.depthAll (ws.map PyData.str) = 0 := by
    intro ws
    induction ws with
    | nil => rfl
    | cons x ws ih => simp [PyData.depthAll, PyData.depth, ih]
  simp only [PyData.canLay0, PyData.depth, dep]
  exact ⟨lay ws h, by omega⟩
theorem row_all {ds : List PyData} {n : Nat} {p : Nat → PyData → Bool} : isRowOf n p (.tuple ds) = true ↔ ds.length = n ∧ ∀ i d, ds[i]? = some d → p i d = true := by
  unfold isRowOf
  simp only [Bool.and_eq_true, decide_eq_true_eq, List.all_eq_true, List.mem_range]
  constructor
  · rintro ⟨h1, h2⟩
    refine ⟨h1, fun i d hd => ?_⟩
    have z := h2 i (List.getElem?_eq_some_iff.mp hd).1
    rw [hd] at z
    simpa using z
  · rintro ⟨h1, h2⟩
    refine ⟨h1, fun i hi => ?_⟩
    rw [List.getElem?_eq_getElem hi]
    simpa using h2 i _ (List.getElem?_eq_getElem hi)
theorem row_false {ds : List PyData} {n i : Nat} {p : Nat → PyData → Bool} {d : PyData} (hd : ds[i]? = some d) (hp : p i d = false) : isRowOf n p (.tuple ds) = false := by
  cases h : isRowOf n p (.tuple ds) with
  | false => rfl
  | true =>
    have z := (row_all.mp h).2 i d hd
    rw [hp] at z
    cases z
theorem row_len {ds : List PyData} {n : Nat} {p : Nat → PyData → Bool} (h : ds.length ≠ n) : isRowOf n p (.tuple ds) = false := by
  show (decide (ds.length = n) && _) = false
  rw [decide_eq_false h]
  rfl
theorem row_not {d : PyData} {n : Nat} {p : Nat → PyData → Bool} (h : isT d = false) : isRowOf n p d = false := by
  cases d <;> simp_all [isT, isRowOf]
theorem isT_tup {d : PyData} (h : isT d = true) : ∃ ds, d = .tuple ds := by
  cases d <;> simp_all [isT]
theorem oldW_len (st : List Bool) (w : Str) (i : Nat) : (oldW st w i).length ≤ 1 := by
  unfold oldW
  split <;> simp
/-- ('w',) if c else (), behind which a name holds it -/
theorem word_if {c : Bool} {w : Str} {i : Nat} {σ : L2.St} {H : Hp} {D : L2.St → Hp → Prop} (k : ∀ p H', Same H H' → H' p = some (.tup ((if c = true then [w] else []).map V.str)) → D (σ.set i (some (.ref p))) H') :
    if c = true then tTup (tCons (tC (.str w)) tNil) σ H (fun x H1 => gName i x σ H1 D) else tTup tNil σ H (fun x H1 => gName i x σ H1 D) := by
  cases c with
  | true => exact iteT ⟨by show 1 ≤ sizeLine; decide, fun p hp => k p _ (same_upd hp) upd_same⟩
  | false => exact iteF ⟨Nat.zero_le _, fun p hp => k p _ (same_upd hp) upd_same⟩
section
variable {P : Program} {w : World} {K : PySem.W.Frag} {mg : Str → Option Value} {base : Heap}
abbrev s_is_read : Stmt := top 19
theorem sc_is_read : FnScope ["value", "stands", "ranks", "stand", "row", "rank", "cell", "old", "new"] ["value", "stands", "ranks"] (defScope s_is_read) := ⟨rfl, rfl, rfl, by decide +kernel, rfl, by decide +kernel, by decide +kernel⟩
theorem ok_is_read (T : Txt K mg) (k_is_cell : Kn P w K mg base 3 "is_cell" ["value", "holds", "words"] spCell) (at_ : At K mg "is_read" s_is_read ["value", "stands", "ranks"]) : Kn P w K mg base 4 "is_read" ["value", "stands", "ranks"] spRead := by
  refine Kn.mkN (st := s_is_read) (N := ["value", "stands", "ranks", "stand", "row", "rank", "cell", "old", "new"]) at_ sc_is_read (fun vs H Q E h => ?_) (fun f cdv A outer s H vs Q E hr free h => ?_)
  · obtain ⟨v, d, m, g, sa, ra, st, rk, rfl, _⟩ := h
    rfl
  · obtain ⟨v, d, m, g, sa, ra, st, rk, rfl, dt, od, hs, hk, l1, l2, k⟩ := h
    refine ⟨_, (pss_cons (ps_if (PW.pt (pw_or (pt_not (pt_val (pe_callB (id := "isinstance") (show CallR _ (.builtin "isinstance") (rIsi K) from call_isi) (by rfl) T.b_isinstance (by decide +kernel) (pa_cons (pv 0) (pa_cons (pe_bltn (v := .ty "tuple") (by rfl) T.b_tuple (by decide +kernel) rfl) pa_nil))))) (pw_or1 (pt_cmpR op_ne (pe_callB (id := "len") call_len_seq (by rfl) T.b_len (by decide +kernel) (pa_cons (pv 0) pa_nil)) (pe_callB (id := "len") call_len_seq (by rfl) T.b_len (by decide +kernel) (pa_cons (pv 1) pa_nil)) (nomark _))))) (pss_one (ps_ret pe_bl)) pss_nil) (pss_cons (ps_for PassesOwn.never rfl (pi_enT (by rfl) T.b_enumerate (pa_cons (pv 0) pa_nil)) (pg_tup rfl (pgs_cons (pg_name (i := 3) sc_is_read.nd rfl (Or.inl rfl)) (pgs_cons (pg_name (i := 4) sc_is_read.nd rfl (Or.inl rfl)) pgs_nil))) (pss_cons (ps_if (PW.pt (pw_or (pt_not (pt_val (pe_callB (id := "isinstance") (show CallR _ (.builtin "isinstance") (rIsi K) from call_isi) (by rfl) T.b_isinstance (by decide +kernel) (pa_cons (pv 4) (pa_cons (pe_bltn (v := .ty "tuple") (by rfl) T.b_tuple (by decide +kernel) rfl) pa_nil))))) (pw_or1 (pt_cmpR op_ne (pe_callB (id := "len") call_len_seq (by rfl) T.b_len (by decide +kernel) (pa_cons (pv 4) pa_nil)) (pe_callB (id := "len") call_len_seq (by rfl) T.b_len (by decide +kernel) (pa_cons (pv 2) pa_nil)) (nomark _))))) (pss_one (ps_ret pe_bl)) pss_nil) (pss_one (ps_for PassesOwn.never rfl (pi_enT (by rfl) T.b_enumerate (pa_cons (pv 4) pa_nil)) (pg_tup rfl (pgs_cons (pg_name (i := 5) sc_is_read.nd rfl (Or.inl rfl)) (pgs_cons (pg_name (i := 6) sc_is_read.nd rfl (Or.inl rfl)) pgs_nil))) (pss_cons (ps_set (i := 7) sc_is_read.nd rfl (Or.inl rfl) (pe_ifExp (pt_val (pe_ix ix_tup (pv 1) (pv 3) (fun _ _ => rfl))) (pe_tup (pa_cons pe_str pa_nil)) (pe_tup pa_nil))) (pss_cons (ps_set (i := 8) sc_is_read.nd rfl (Or.inl rfl) (pe_ifExp (pt_val (pe_ix ix_tup (pv 2) (pv 5) (fun _ _ => rfl))) (pe_tup (pa_cons pe_str pa_nil)) (pe_tup pa_nil))) (pss_one (ps_if (pt_not (pt_val (pe_callN k_is_cell free (hr.mono (by decide)) rfl passL (pa_cons (pv 6) (pa_cons (pv 1) (pa_cons (pe_op op_catA (pv 7) (pv 8)) pa_nil)))))) (pss_one (ps_ret pe_bl)) pss_nil)))))))) (pss_one (ps_ret pe_bl)))), ?_⟩
    refine ⟨_, rfl, v, .ty "tuple", .type (tyN d), .type "tuple", isT d, rfl, .ty _, dt.ty, kit_T dt, _, rfl, ?_⟩
    cases hT : isT d with
    | false =>
      have k' := k H (Same.refl H)
      rw [show isRead st rk d = false from row_not hT] at k'
      exact iteT (iteT k')
    | true =>
      obtain ⟨ds, rfl⟩ := isT_tup hT
      cases dt with
      | @tup a xs _ hx n1 n2 da =>
      have el := da.len
      refine iteF ⟨_, rfl, a, xs, rfl, .inr (SqT.of hx), _, rfl, sa, _, rfl, .inr (SqT.of hs), rfl, _, rfl, ?_⟩
      by_cases c : xs.length = st.length
      · have ev : (!decide (V.int (xs.length : Int) = V.int ((st.map V.bl).length : Int))) = false := by
          rw [List.length_map, c]
          simp
        refine (if_neg (by rw [ev]; exact Bool.false_ne_true)).mpr ?_
        refine ⟨_, rfl, a, xs, rfl, SqT.of hx, ?_⟩
        refine for_it (walk_enT (xs := xs)) (fun i σ H' => Same H H' ∧ (∃ v3 v4 v5 v6 v7 v8, σ = [some (.ref a), some (.ref sa), some (.ref ra), v3, v4, v5, v6, v7, v8]) ∧ ∀ j d, j < i → ds[j]? = some d → isRowOf rk.length (fun r => isCell st (oldW st "old" j ++ oldW rk "new" r)) d = true)
          ⟨Same.refl H, ⟨_, _, _, _, _, _, rfl⟩, fun j d hj => absurd hj (Nat.not_lt_zero _)⟩ (fun i σ H' _ p => SqT.of (p.1 _ _ hx)) ?_ ?_
        · rintro i x σ H1 H2 hi ⟨s1, ⟨v3, v4, v5, v6, v7, v8, rfl⟩, ok⟩ ⟨Tp, x1, x2, rfl, nT, rfl, hx1, hx2⟩
          cases hx1
          obtain ⟨di, hdi, dti⟩ := da.at' hx2
          have s2 : Same H (upd H1 Tp (.tup [.int (i : Nat), x2])) := same_new s1 nT
          have hTp : upd H1 Tp (.tup [.int (i : Nat), x2]) Tp = some (.tup [.int (i : Nat), x2]) := upd_same
          generalize upd H1 Tp (.tup [.int (i : Nat), x2]) = H2 at s2 hTp ⊢
          refine ⟨Tp, _, rfl, SqT.of hTp, rfl, _, _, rfl, _, _, rfl, rfl, ?_⟩
          have dt2 := dti.same s2
          refine ⟨_, rfl, x2, .ty "tuple", .type (tyN di), .type "tuple", isT di, rfl, .ty _, dt2.ty, kit_T dt2, _, rfl, ?_⟩
          have bad : isRowOf rk.length (fun r => isCell st (oldW st "old" i ++ oldW rk "new" r)) di = false → ∀ H', Same H H' → Q (.bl false) H' := fun hb H' s' => by
            have z := k H' s'
            rw [show isRead st rk (.tuple ds) = false from row_false hdi hb] at z
            exact z
          cases hT2 : isT di with
          | false => exact iteT (iteT (bad (row_not hT2) _ s2))
          | true =>
            obtain ⟨es, rfl⟩ := isT_tup hT2
            cases dt2 with
            | @tup b ys _ hy m1 m2 ea =>
            have el2 := ea.len
            refine iteF ⟨_, rfl, b, ys, rfl, .inr (SqT.of hy), _, rfl, ra, _, rfl, .inr (SqT.of (s2 _ _ hk)), rfl, _, rfl, ?_⟩
            by_cases c2 : ys.length = rk.length
            · have ev2 : (!decide (V.int (ys.length : Int) = V.int ((rk.map V.bl).length : Int))) = false := by
                rw [List.length_map, c2]
                simp
              refine (if_neg (by rw [ev2]; exact Bool.false_ne_true)).mpr ?_
              refine ⟨_, rfl, b, ys, rfl, SqT.of hy, ?_⟩
              refine for_it (walk_enT (xs := ys)) (fun r σ H' => Same H2 H' ∧ (∃ v5 v6 v7 v8, σ = [some (.ref a), some (.ref sa), some (.ref ra), some (.int (i : Nat)), some (.ref b), v5, v6, v7, v8]) ∧ ∀ j d, j < r → es[j]? = some d → isCell st (oldW st "old" i ++ oldW rk "new" j) d = true)
                ⟨Same.refl H2, ⟨_, _, _, _, rfl⟩, fun j d hj => absurd hj (Nat.not_lt_zero _)⟩ (fun r σ H' _ p => SqT.of (p.1 _ _ hy)) ?_ ?_
              · rintro r y σ H3 H4 hr2 ⟨s3, ⟨v5, v6, v7, v8, rfl⟩, ok2⟩ ⟨Tq, y1, y2, rfl, nT2, rfl, hy1, hy2⟩
                cases hy1
                obtain ⟨ei, hei, eti⟩ := ea.at' hy2
                have s4 : Same H2 (upd H3 Tq (.tup [.int (r : Nat), y2])) := same_new s3 nT2
                have hTq : upd H3 Tq (.tup [.int (r : Nat), y2]) Tq = some (.tup [.int (r : Nat), y2]) := upd_same
                generalize upd H3 Tq (.tup [.int (r : Nat), y2]) = H4 at s4 hTq ⊢
                have il : i < st.length := by omega
                have rl : r < rk.length := by omega
                have hs4 := s4 _ _ (s2 _ _ hs)
                have hk4 := s4 _ _ (s2 _ _ hk)
                refine ⟨Tq, _, rfl, SqT.of hTq, rfl, _, _, rfl, _, _, rfl, rfl, ?_⟩
                -- old
                refine ⟨_, rfl, _, rfl, sa, _, _, .bl (st[i]), rfl, rfl, SqT.of hs4, atI_nat (by rw [List.getElem?_map, List.getElem?_eq_getElem il]; rfl), _, rfl, ?_⟩
                refine word_if (w := "old") (fun p1 H5 s5 hp1 => ?_)
                -- new
                refine ⟨_, rfl, _, rfl, ra, _, _, .bl (rk[r]), rfl, rfl, SqT.of (s5 _ _ hk4), atI_nat (by rw [List.getElem?_map, List.getElem?_eq_getElem rl]; rfl), _, rfl, ?_⟩
                refine word_if (w := "new") (fun p2 H6 s6 hp2 => ?_)
                have eo : oldW st "old" i = if st[i] = true then [("old" : Str)] else [] := by simp [oldW, il]
                have en : oldW rk "new" r = if rk[r] = true then [("new" : Str)] else [] := by simp [oldW, rl]
                rw [← eo] at hp1
                rw [← en] at hp2
                have s46 : Same H4 H6 := s5.trans s6
                refine ⟨_, rfl, _, rfl, _, rfl, _, rfl, cat_tup (s6 _ _ hp1) hp2 ?_ fun p3 H7 s7 hp3 => ?_⟩
                · rw [List.length_map, List.length_map]
                  exact Nat.le_of_lt (small1000 (by have := oldW_len st "old" i; have := oldW_len rk "new" r; omega))
                have s47 : Same H4 H7 := s46.trans s7
                refine ⟨y2, ei, m, g, sa, p3, st, oldW st "old" i ++ oldW rk "new" r, rfl, (eti.same s4).same s47, okd_tup (okd_tup od (List.mem_of_getElem? hdi)) (List.mem_of_getElem? hei), s47 _ _ hs4, by rw [hp3, List.map_append], ?_, fun H8 s8 => ⟨_, rfl, ?_⟩⟩
                · refine okd_strs ?_
                  rw [eo, en]
                  cases st[i] <;> cases rk[r] <;> decide +kernel
                have s28 : Same H2 H8 := s4.trans (s47.trans s8)
                cases hc : isCell st (oldW st "old" i ++ oldW rk "new" r) ei with
                | false => exact iteT (bad (row_false hei hc) _ (s2.trans s28))
                | true =>
                  refine iteF ⟨s28, ⟨_, _, _, _, rfl⟩, fun j d hj hd => ?_⟩
                  by_cases e : j = r
                  · subst e
                    rw [hei] at hd
                    cases hd
                    exact hc
                  · exact ok2 j d (by omega) hd
              · rintro σ H' ⟨s', ⟨v5, v6, v7, v8, rfl⟩, ok2⟩
                refine ⟨s2.trans s', ⟨_, _, _, _, _, _, rfl⟩, fun j d hj hd => ?_⟩
                by_cases e : j = i
                · subst e
                  rw [hdi] at hd
                  cases hd
                  exact row_all.mpr ⟨by omega, fun j d hj => ok2 j d (by have := (List.getElem?_eq_some_iff.mp hj).1; omega) hj⟩
                · exact ok j d (by omega) hd
            · have ev2 : (!decide (V.int (ys.length : Int) = V.int ((rk.map V.bl).length : Int))) = true := by
                rw [List.length_map, decide_eq_false (fun z => c2 (by have := V.int.inj z; omega))]
                rfl
              refine (if_pos ev2).mpr ?_
              exact bad (row_len (by omega)) _ s2
        · rintro σ H' ⟨s', _, ok⟩
          have z := k H' s'
          have e2 : isRead st rk (.tuple ds) = true := row_all.mpr ⟨by omega, fun j d hj => ok j d (by have := (List.getElem?_eq_some_iff.mp hj).1; omega) hj⟩
          rw [e2] at z
          exact z
      · have ev : (!decide (V.int (xs.length : Int) = V.int ((st.map V.bl).length : Int))) = true := by
          rw [List.length_map, decide_eq_false (fun z => c (by have := V.int.inj z; omega))]
          rfl
        refine (if_pos ev).mpr ?_
        have z := k H (Same.refl H)
        rw [show isRead st rk (.tuple ds) = false from row_len (by omega)] at z
        exact z
end
end Hk
set_option Elab.async false
set_option linter.all false
set_option maxRecDepth 100000
set_option maxHeartbeats 4000000
namespace Hk
open PySem PySem.Spec PyProof.Rows L2
def spCloseRow : Sp := fun vs H Q _ => ∃ (v : V) (d : PyData) (m g sa ra oa : Addr) (st rk : List Bool) (own : List Str), vs = [v, .ref sa, .ref ra, .ref oa] ∧ Dt H m g v d ∧ Okd d ∧ H sa = some (.tup (st.map V.bl)) ∧ H ra = some (.tup (rk.map V.bl)) ∧ H oa = some (.tup (own.map V.str)) ∧
  (own = [] ∨ own = [("self" : Str)]) ∧ st.length ≤ 8 ∧ rk.length ≤ 8 ∧ ∀ H', Same H H' → Q (.bl (isCloseRow st rk own d)) H'
def spClose : Sp := fun vs H Q _ => ∃ (v : V) (d : PyData) (m g sa ra : Addr) (n : Int) (st rk : List Bool), vs = [v, .int n, .ref sa, .ref ra] ∧ Dt H m g v d ∧ Okd d ∧ H sa = some (.tup (st.map V.bl)) ∧ H ra = some (.tup (rk.map V.bl)) ∧ st.length ≤ 8 ∧ rk.length ≤ 8 ∧
  ∀ H', Same H H' → Q (.bl (isClose n st rk d)) H'
section
variable {P : Program} {w : World} {K : PySem.W.Frag} {mg : Str → Option Value} {base : Heap}
abbrev s_is_close_row : Stmt := top 20
theorem sc_is_close_row : FnScope ["value", "stands", "ranks", "own", "stand", "cell", "line"] ["value", "stands", "ranks", "own"] (defScope s_is_close_row) := ⟨rfl, rfl, rfl, by decide +kernel, rfl, by decide +kernel, by decide +kernel⟩
theorem ok_is_close_row (T : Txt K mg) (k_is_cell : Kn P w K mg base 3 "is_cell" ["value", "holds", "words"] spCell) (at_ : At K mg "is_close_row" s_is_close_row ["value", "stands", "ranks", "own"]) : Kn P w K mg base 4 "is_close_row" ["value", "stands", "ranks", "own"] spCloseRow := by
  refine Kn.mkN (st := s_is_close_row) (N := ["value", "stands", "ranks", "own", "stand", "cell", "line"]) at_ sc_is_close_row (fun vs H Q E h => ?_) (fun f cdv A outer s H vs Q E hr free h => ?_)
  · obtain ⟨v, d, m, g, sa, ra, oa, st, rk, own, rfl, _⟩ := h
    rfl
  · obtain ⟨v, d, m, g, sa, ra, oa, st, rk, own, rfl, dt, od, hs, hk, ho, hown, l1, l2, k⟩ := h
    refine ⟨_, (pss_cons (ps_if (PW.pt (pw_or (pt_not (pt_val (pe_callB (id := "isinstance") (show CallR _ (.builtin "isinstance") (rIsi K) from call_isi) (by rfl) T.b_isinstance (by decide +kernel) (pa_cons (pv 0) (pa_cons (pe_bltn (v := .ty "tuple") (by rfl) T.b_tuple (by decide +kernel) rfl) pa_nil))))) (pw_or1 (pt_cmpR op_ne (pe_callB (id := "len") call_len_seq (by rfl) T.b_len (by decide +kernel) (pa_cons (pv 0) pa_nil)) (pe_callB (id := "len") call_len_seq (by rfl) T.b_len (by decide +kernel) (pa_cons (pv 1) pa_nil)) (nomark _))))) (pss_one (ps_ret pe_bl)) pss_nil) (pss_cons (ps_for PassesOwn.never rfl (pi_enT (by rfl) T.b_enumerate (pa_cons (pv 0) pa_nil)) (pg_tup rfl (pgs_cons (pg_name (i := 4) sc_is_close_row.nd rfl (Or.inl rfl)) (pgs_cons (pg_name (i := 5) sc_is_close_row.nd rfl (Or.inl rfl)) pgs_nil))) (pss_cons (ps_set (i := 6) sc_is_close_row.nd rfl (Or.inl rfl) (pe_ifExp (pt_val (pe_ix ix_tup (pv 1) (pv 4) (fun _ _ => rfl))) (pe_tup (pa_cons pe_str pa_nil)) (pe_tup pa_nil))) (pss_one (ps_if (pt_not (pt_val (pe_callN k_is_cell free (hr.mono (by decide)) rfl passL (pa_cons (pv 5) (pa_cons (pv 2) (pa_cons (pe_op op_catA (pv 6) (pv 3)) pa_nil)))))) (pss_one (ps_ret pe_bl)) pss_nil)))) (pss_one (ps_ret pe_bl)))), ?_⟩
    refine ⟨_, rfl, v, .ty "tuple", .type (tyN d), .type "tuple", isT d, rfl, .ty _, dt.ty, kit_T dt, _, rfl, ?_⟩
    cases hT : isT d with
    | false =>
      have k' := k H (Same.refl H)
      rw [show isCloseRow st rk own d = false from row_not hT] at k'
      exact iteT (iteT k')
    | true =>
      obtain ⟨ds, rfl⟩ := isT_tup hT
      cases dt with
      | @tup a xs _ hx n1 n2 da =>
      have el := da.len
      refine iteF ⟨_, rfl, a, xs, rfl, .inr (SqT.of hx), _, rfl, sa, _, rfl, .inr (SqT.of hs), rfl, _, rfl, ?_⟩
      by_cases c : xs.length = st.length
      · have ev : (!decide (V.int (xs.length : Int) = V.int ((st.map V.bl).length : Int))) = false := by
          rw [List.length_map, c]
          simp
        refine (if_neg (by rw [ev]; exact Bool.false_ne_true)).mpr ?_
        refine ⟨_, rfl, a, xs, rfl, SqT.of hx, ?_⟩
        refine for_it (walk_enT (xs := xs)) (fun i σ H' => Same H H' ∧ (∃ v4 v5 v6, σ = [some (.ref a), some (.ref sa), some (.ref ra), some (.ref oa), v4, v5, v6]) ∧ ∀ j d, j < i → ds[j]? = some d → isCell rk (oldW st "line" j ++ own) d = true)
          ⟨Same.refl H, ⟨_, _, _, rfl⟩, fun j d hj => absurd hj (Nat.not_lt_zero _)⟩ (fun i σ H' _ p => SqT.of (p.1 _ _ hx)) ?_ ?_
        · rintro i x σ H1 H2 hi ⟨s1, ⟨v4, v5, v6, rfl⟩, ok⟩ ⟨Tp, x1, x2, rfl, nT, rfl, hx1, hx2⟩
          cases hx1
          obtain ⟨di, hdi, dti⟩ := da.at' hx2
          have s2 : Same H (upd H1 Tp (.tup [.int (i : Nat), x2])) := same_new s1 nT
          have hTp : upd H1 Tp (.tup [.int (i : Nat), x2]) Tp = some (.tup [.int (i : Nat), x2]) := upd_same
          generalize upd H1 Tp (.tup [.int (i : Nat), x2]) = H2 at s2 hTp ⊢
          refine ⟨Tp, _, rfl, SqT.of hTp, rfl, _, _, rfl, _, _, rfl, rfl, ?_⟩
          have dt2 := dti.same s2
          have il : i < st.length := by omega
          have bad : isCell rk (oldW st "line" i ++ own) di = false → ∀ H', Same H H' → Q (.bl false) H' := fun hb H' s' => by
            have z := k H' s'
            rw [show isCloseRow st rk own (.tuple ds) = false from row_false hdi hb] at z
            exact z
          refine ⟨_, rfl, _, rfl, sa, _, _, .bl (st[i]), rfl, rfl, SqT.of (s2 _ _ hs), atI_nat (by rw [List.getElem?_map, List.getElem?_eq_getElem il]; rfl), _, rfl, ?_⟩
          refine word_if (w := "line") (fun p1 H5 s5 hp1 => ?_)
          have eo : oldW st "line" i = if st[i] = true then [("line" : Str)] else [] := by simp [oldW, il]
          rw [← eo] at hp1
          have s25 := s2.trans s5
          refine ⟨_, rfl, _, rfl, _, rfl, _, rfl, cat_tup hp1 (s25 _ _ ho) ?_ fun p3 H7 s7 hp3 => ?_⟩
          · rw [List.length_map, List.length_map]
            have lo : own.length ≤ 1 := by rcases hown with e | e <;> subst e <;> decide
            exact Nat.le_of_lt (small1000 (by have := oldW_len st "line" i; omega))
          have s27 : Same H H7 := s25.trans s7
          refine ⟨x2, di, m, g, ra, p3, rk, oldW st "line" i ++ own, rfl, dti.same s27, okd_tup od (List.mem_of_getElem? hdi), s27 _ _ hk, by rw [hp3, List.map_append], ?_, fun H8 s8 => ⟨_, rfl, ?_⟩⟩
          · refine okd_strs ?_
            rw [eo]
            rcases hown with e | e <;> subst e <;> cases st[i] <;> decide +kernel
          cases hc : isCell rk (oldW st "line" i ++ own) di with
          | false => exact iteT (bad hc _ (s27.trans s8))
          | true =>
            refine iteF ⟨s27.trans s8, ⟨_, _, _, rfl⟩, fun j d hj hd => ?_⟩
            by_cases e : j = i
            · subst e
              rw [hdi] at hd
              cases hd
              exact hc
            · exact ok j d (by omega) hd
        · rintro σ H' ⟨s', _, ok⟩
          have z := k H' s'
          have e2 : isCloseRow st rk own (.tuple ds) = true := row_all.mpr ⟨by omega, fun j d hj => ok j d (by have := (List.getElem?_eq_some_iff.mp hj).1; omega) hj⟩
          rw [e2] at z
          exact z
      · have ev : (!decide (V.int (xs.length : Int) = V.int ((st.map V.bl).length : Int))) = true := by
          rw [List.length_map, decide_eq_false (fun z => c (by have := V.int.inj z; omega))]
          rfl
        refine (if_pos ev).mpr ?_
        have z := k H (Same.refl H)
        rw [show isCloseRow st rk own (.tuple ds) = false from row_len (by omega)] at z
        exact z
abbrev s_is_close : Stmt := top 21
theorem sc_is_close : FnScope ["value", "marks", "stands", "ranks", "pair"] ["value", "marks", "stands", "ranks"] (defScope s_is_close) := ⟨rfl, rfl, rfl, by decide +kernel, rfl, by decide +kernel, by decide +kernel⟩
theorem ok_is_close (T : Txt K mg) (k_is_pair : Kn P w K mg base 1 "is_pair" ["value"] (spD1 isPair)) (k_is_close_row : Kn P w K mg base 4 "is_close_row" ["value", "stands", "ranks", "own"] spCloseRow) (at_ : At K mg "is_close" s_is_close ["value", "marks", "stands", "ranks"]) : Kn P w K mg base 5 "is_close" ["value", "marks", "stands", "ranks"] spClose := by
  refine Kn.mkN (st := s_is_close) (N := ["value", "marks", "stands", "ranks", "pair"]) at_ sc_is_close (fun vs H Q E h => ?_) (fun f cdv A outer s H vs Q E hr free h => ?_)
  · obtain ⟨v, d, m, g, sa, ra, n, st, rk, rfl, _⟩ := h
    rfl
  · obtain ⟨v, d, m, g, sa, ra, n, st, rk, rfl, dt, od, hs, hk, l1, l2, k⟩ := h
    refine ⟨_, (pss_cons (ps_if (PW.pt (pw_or (pt_not (pt_val (pe_callB (id := "isinstance") (show CallR _ (.builtin "isinstance") (rIsi K) from call_isi) (by rfl) T.b_isinstance (by decide +kernel) (pa_cons (pv 0) (pa_cons (pe_bltn (v := .ty "tuple") (by rfl) T.b_tuple (by decide +kernel) rfl) pa_nil))))) (pw_or1 (pt_cmpR op_ne (pe_callB (id := "len") call_len_seq (by rfl) T.b_len (by decide +kernel) (pa_cons (pv 0) pa_nil)) (pv 1) (nomark _))))) (pss_one (ps_ret pe_bl)) pss_nil) (pss_cons (ps_for PassesOwn.never rfl (pi_tup (pv 0)) (pg_name (i := 4) sc_is_close.nd rfl (Or.inl rfl)) (pss_cons (ps_if (PW.pt (pw_or (pt_not (pt_val (pe_callN k_is_pair free (hr.mono (by decide)) rfl passL (pa_cons (pv 4) pa_nil)))) (pw_or1 (pt_not (pt_val (pe_callN k_is_close_row free (hr.mono (by decide)) rfl passL (pa_cons (pe_ix ix_tup (pv 4) pe_int (fun _ _ => rfl)) (pa_cons (pv 2) (pa_cons (pv 3) (pa_cons (pe_tup pa_nil) pa_nil)))))))))) (pss_one (ps_ret pe_bl)) pss_nil) (pss_one (ps_if (pt_not (pt_val (pe_callN k_is_close_row free (hr.mono (by decide)) rfl passL (pa_cons (pe_ix ix_tup (pv 4) pe_int (fun _ _ => rfl)) (pa_cons (pv 2) (pa_cons (pv 3) (pa_cons (pe_tup (pa_cons pe_str pa_nil)) pa_nil))))))) (pss_one (ps_ret pe_bl)) pss_nil)))) (pss_one (ps_ret pe_bl)))), ?_⟩
    refine ⟨_, rfl, v, .ty "tuple", .type (tyN d), .type "tuple", isT d, rfl, .ty _, dt.ty, kit_T dt, _, rfl, ?_⟩
    cases hT : isT d with
    | false =>
      have k' := k H (Same.refl H)
      rw [show isClose n st rk d = false by cases d <;> simp_all [isT, isClose]] at k'
      exact iteT (iteT k')
    | true =>
      obtain ⟨ds, rfl⟩ := isT_tup hT
      cases dt with
      | @tup a xs _ hx n1 n2 da =>
      have el := da.len
      have eC : isClose n st rk (.tuple ds) = (decide ((ds.length : Int) = n) && ds.all (isBoth st rk)) := rfl
      refine iteF ⟨_, rfl, a, xs, rfl, .inr (SqT.of hx), _, rfl, rfl, _, rfl, ?_⟩
      by_cases c : (xs.length : Int) = n
      · have ev : (!decide (V.int (xs.length : Int) = V.int n)) = false := by
          rw [c]
          simp
        refine (if_neg (by rw [ev]; exact Bool.false_ne_true)).mpr ?_
        refine ⟨_, rfl, a, rfl, ⟨xs, SqT.of hx⟩, ?_⟩
        refine for_it (walk_tup (xs := xs)) (fun i σ H' => Same H H' ∧ (∃ v4, σ = [some (.ref a), some (.int n), some (.ref sa), some (.ref ra), v4]) ∧ ∀ j d, j < i → ds[j]? = some d → isBoth st rk d = true)
          ⟨Same.refl H, ⟨_, rfl⟩, fun j d hj => absurd hj (Nat.not_lt_zero _)⟩ (fun i σ H' _ p => SqT.of (p.1 _ _ hx)) ?_ ?_
        · rintro i x σ H1 H2 hi ⟨s1, ⟨v4, rfl⟩, ok⟩ ⟨rfl, hx2⟩
          obtain ⟨di, hdi, dti⟩ := da.at' hx2
          have dt2 := dti.same s1
          have odi : Okd di := okd_tup od (List.mem_of_getElem? hdi)
          have bad : isBoth st rk di = false → ∀ H', Same H H' → Q (.bl false) H' := fun hb H' s' => by
            have z := k H' s'
            rw [eC, show ds.all (isBoth st rk) = false by
              rw [List.all_eq_false]
              exact ⟨di, List.mem_of_getElem? hdi, by rw [hb]; exact Bool.false_ne_true⟩, Bool.and_false] at z
            exact z
          refine ⟨_, rfl, x, di, m, g, rfl, dt2, fun H3 s3 => ⟨_, rfl, ?_⟩⟩
          have s13 := s1.trans s3
          cases hP : isPair di with
          | false =>
            refine iteT (iteT (bad ?_ _ s13))
            cases di with
            | tuple es =>
              match es, hP with
              | [_, _], hP => simp [isPair] at hP
              | [], _ => rfl
              | [_], _ => rfl
              | _ :: _ :: _ :: _, _ => rfl
            | _ => rfl
          | true =>
            obtain ⟨d0, d1, rfl⟩ := pair_two hP
            cases dti with
            | @tup b ys _ hy m1 m2 ea =>
            cases ea with
            | @cons v0 vr _ _ et0 ea1 =>
            cases ea1 with
            | @cons v1 vr2 _ _ et1 ea2 =>
            cases ea2
            refine iteF ⟨_, rfl, b, _, 0, v0, rfl, rfl, SqT.of (s13 _ _ hy), rfl, _, rfl, _, rfl, Nat.zero_le _, fun p hp => ?_⟩
            have s3p : Same H (upd H3 p (.tup [])) := same_new s13 hp
            have hpp : upd H3 p (.tup []) p = some (.tup []) := upd_same
            generalize upd H3 p (.tup []) = H4 at s3p hpp ⊢
            refine ⟨v0, d0, m, g, sa, ra, p, st, rk, [], rfl, et0.same s3p, okd_tup odi (by simp), s3p _ _ hs, s3p _ _ hk, hpp, .inl rfl, l1, l2, fun H5 s5 => ⟨_, rfl, ?_⟩⟩
            have s05 := s3p.trans s5
            have eB : isBoth st rk (.tuple [d0, d1]) = (isCloseRow st rk [] d0 && isCloseRow st rk ["self"] d1) := rfl
            cases h0 : isCloseRow st rk [] d0 with
            | false => exact iteT (bad (by rw [eB, h0]; rfl) _ s05)
            | true =>
              refine iteF ⟨_, rfl, b, _, 1, v1, rfl, rfl, SqT.of (s05 _ _ hy), rfl, _, rfl, _, rfl, (by show 1 ≤ sizeLine; decide), fun p hp => ?_⟩
              have s6 : Same H (upd H5 p (.tup [.str "self"])) := same_new s05 hp
              have hpp : upd H5 p (.tup [.str "self"]) p = some (.tup [.str "self"]) := upd_same
              generalize upd H5 p (.tup [.str "self"]) = H6 at s6 hpp ⊢
              refine ⟨v1, d1, m, g, sa, ra, p, st, rk, ["self"], rfl, et1.same s6, okd_tup odi (by simp), s6 _ _ hs, s6 _ _ hk, hpp, .inr rfl, l1, l2, fun H7 s7 => ⟨_, rfl, ?_⟩⟩
              have s07 := s6.trans s7
              cases h1 : isCloseRow st rk ["self"] d1 with
              | false => exact iteT (bad (by rw [eB, h0, h1]; rfl) _ s07)
              | true =>
                refine iteF ⟨s07, ⟨_, rfl⟩, fun j d hj hd => ?_⟩
                by_cases e : j = i
                · subst e
                  rw [hdi] at hd
                  cases hd
                  rw [eB, h0, h1]
                  rfl
                · exact ok j d (by omega) hd
        · rintro σ H' ⟨s', _, ok⟩
          have z := k H' s'
          have e2 : isClose n st rk (.tuple ds) = true := by
            rw [eC, decide_eq_true (by omega), Bool.true_and, List.all_eq_true]
            intro d hd
            obtain ⟨j, hj, e⟩ := List.mem_iff_getElem.mp hd
            exact ok j d (by omega) (by rw [List.getElem?_eq_getElem hj, e])
          rw [e2] at z
          exact z
      · have ev : (!decide (V.int (xs.length : Int) = V.int n)) = true := by
          rw [decide_eq_false (fun z => c (V.int.inj z))]
          rfl
        refine (if_pos ev).mpr ?_
        have z := k H (Same.refl H)
        rw [eC, decide_eq_false (by omega)] at z
        exact z
end
end Hk
set_option Elab.async false
set_option linter.all false
set_option maxRecDepth 100000
set_option maxHeartbeats 4000000
namespace Hk
open PySem PySem.Spec PyProof.Rows L2
def faultV : Option Str → V
  | none => .non
  | some w => .str w
def spFault : Sp := fun vs H Q _ => ∃ (v : V) (d : PyData) (m g : Addr), vs = [v] ∧ Dt H m g v d ∧ Okd d ∧ ∀ H', Same H H' → Q (faultV (fault d)) H'
/-- an error of the class at C, its field fl holding x -/
def Raised (fl : Str) (C : Addr) (x : V) (H : Hp) (E : XK) : Prop := ∀ H' dd p, Same H H' → H' dd = some (errD fl x p) → E (.ref C) (some dd) H'
def spNeed (C : Addr) : Sp := fun vs H Q E => ∃ (v : V) (d : PyData) (m g : Addr), vs = [v] ∧ Dt H m g v d ∧ Okd d ∧ (fault d = none → ∀ H', Same H H' → Q v H') ∧ ∀ wd, fault d = some wd → Raised "word" C (.str wd) H E
def spIsC : Sp := fun vs H Q _ => ∃ (v : V) (d : PyData) (m g : Addr), vs = [v] ∧ Dt H m g v d ∧ Okd d ∧ ∀ H', Same H H' → Q (.bl (fault d).isNone) H'
def spSame (C : Addr) : Sp := fun vs H Q E => ∃ (v u : V) (d e : PyData) (m g : Addr), vs = [v, u] ∧ Dt H m g v d ∧ Okd d ∧ Dt H m g u e ∧ Okd e ∧ (fault d = none → fault e = none → e = d ∧ ∀ H', Same H H' → Q .non H') ∧
  (∀ wd, fault d = some wd → Raised "word" C (.str wd) H E) ∧ (fault d = none → ∀ wd, fault e = some wd → Raised "word" C (.str wd) H E)
def spRenum (C : Addr) : Sp := fun vs H Q E => ∃ (v a b : V) (d : PyData) (m g : Addr) (wd : Str), vs = [v, a, b] ∧ Dt H m g v d ∧ Okd d ∧ fault d = some wd ∧ Raised "word" C (.str wd) H E
theorem Raised.same {fl : Str} {C : Addr} {x : V} {H H1 : Hp} {E : XK} (r : Raised fl C x H E) (s : Same H H1) : Raised fl C x H1 E := fun H' dd p s' h => r H' dd p (s.trans s') h
theorem bools_of {H : Hp} {m g : Addr} : ∀ {xs : List V} {ds : List PyData}, DtA H m g xs ds → ds.all isB = true → xs = (boolsOf (.tuple ds)).map V.bl
  | _, _, .nil, _ => rfl
  | _, _, .cons h t, e => by
    simp only [List.all_cons, Bool.and_eq_true] at e
    have z := bools_of t e.2
    cases h with
    | bl b => simp only [boolsOf, List.map_cons] at z ⊢; rw [z]
    | _ => simp [isB] at e
theorem five {ds : List PyData} (h : ds.length = 5) : ∃ a b c d e, ds = [a, b, c, d, e] := by
  match ds, h with
  | [a, b, c, d, e], _ => exact ⟨a, b, c, d, e, rfl⟩
theorem fault_not {d : PyData} (h : isT d = false) : fault d = some "form" := by
  cases d <;> simp_all [isT, fault]
theorem fault_len {ds : List PyData} (h : ds.length ≠ 5) : fault (.tuple ds) = some "form" := by
  match ds, h with
  | [_, _, _, _, _], h => simp at h
  | [], _ => rfl
  | [_], _ => rfl
  | [_, _], _ => rfl
  | [_, _, _], _ => rfl
  | [_, _, _, _], _ => rfl
  | _ :: _ :: _ :: _ :: _ :: _ :: _, _ => rfl
section
variable {P : Program} {w : World} {K : PySem.W.Frag} {mg : Str → Option Value} {base : Heap}
abbrev s_custom_fault : Stmt := top 22
theorem sc_custom_fault : FnScope ["value", "marks", "stands", "ranks", "read", "close"] ["value"] (defScope s_custom_fault) := ⟨rfl, rfl, rfl, by decide +kernel, rfl, by decide +kernel, by decide +kernel⟩
theorem ok_custom_fault (T : Txt K mg) (k_is_between : Kn P w K mg base 2 "is_between" ["value", "low", "high"] (spD1I isBt)) (k_is_truth_row : Kn P w K mg base 2 "is_truth_row" ["value"] (spD1 isTRow)) (k_is_read : Kn P w K mg base 4 "is_read" ["value", "stands", "ranks"] spRead)
    (k_is_close : Kn P w K mg base 5 "is_close" ["value", "marks", "stands", "ranks"] spClose) (at_ : At K mg "custom_fault" s_custom_fault ["value"]) : Kn P w K mg base 6 "custom_fault" ["value"] spFault := by
  refine Kn.mkN (st := s_custom_fault) (N := ["value", "marks", "stands", "ranks", "read", "close"]) at_ sc_custom_fault (fun vs H Q E h => ?_) (fun f cdv A outer s H vs Q E hr free h => ?_)
  · obtain ⟨v, d, m, g, rfl, _⟩ := h
    rfl
  · obtain ⟨v, d, m, g, rfl, dt, od, k⟩ := h
    refine ⟨_, (pss_cons (ps_if (PW.pt (pw_or (pt_not (pt_val (pe_callB (id := "isinstance") (show CallR _ (.builtin "isinstance") (rIsi K) from call_isi) (by rfl) T.b_isinstance (by decide +kernel) (pa_cons (pv 0) (pa_cons (pe_bltn (v := .ty "tuple") (by rfl) T.b_tuple (by decide +kernel) rfl) pa_nil))))) (pw_or (pt_cmpR op_ne (pe_callB (id := "len") call_len_seq (by rfl) T.b_len (by decide +kernel) (pa_cons (pv 0) pa_nil)) pe_int (nomark _)) (pw_or1 (pt_not (pt_val (pe_callN k_is_between free (hr.mono (by decide)) rfl passL (pa_cons (pe_ix ix_tup (pv 0) pe_int (fun _ _ => rfl)) (pa_cons pe_int (pa_cons pe_int pa_nil)))))))))) (pss_one (ps_ret pe_str)) pss_nil) (pss_cons (ps_asg (pv 0) (pg_tup rfl (pgs_cons (pg_name (i := 1) sc_custom_fault.nd rfl (Or.inl rfl)) (pgs_cons (pg_name (i := 2) sc_custom_fault.nd rfl (Or.inl rfl)) (pgs_cons (pg_name (i := 3) sc_custom_fault.nd rfl (Or.inl rfl)) (pgs_cons (pg_name (i := 4) sc_custom_fault.nd rfl (Or.inl rfl)) (pgs_cons (pg_name (i := 5) sc_custom_fault.nd rfl (Or.inl rfl)) pgs_nil))))))) (pss_cons (ps_if (PW.pt (pw_or (pt_not (pt_val (pe_callN k_is_truth_row free (hr.mono (by decide)) rfl passL (pa_cons (pv 2) pa_nil)))) (pw_or1 (pt_val (pe_ix ix_tup (pv 2) pe_int (fun _ _ => rfl)))))) (pss_one (ps_ret pe_str)) pss_nil) (pss_cons (ps_if (pt_not (pt_val (pe_callN k_is_truth_row free (hr.mono (by decide)) rfl passL (pa_cons (pv 3) pa_nil)))) (pss_one (ps_ret pe_str)) pss_nil) (pss_cons (ps_if (pt_not (pt_val (pe_callN k_is_read free (hr.mono (by decide)) rfl passL (pa_cons (pv 4) (pa_cons (pv 2) (pa_cons (pv 3) pa_nil)))))) (pss_one (ps_ret pe_str)) pss_nil) (pss_cons (ps_if (pt_not (pt_val (pe_callN k_is_close free (hr.mono (by decide)) rfl passL (pa_cons (pv 5) (pa_cons (pv 1) (pa_cons (pv 2) (pa_cons (pv 3) pa_nil))))))) (pss_one (ps_ret pe_str)) pss_nil) (pss_one (ps_ret pe_non)))))))), ?_⟩
    refine ⟨_, rfl, v, .ty "tuple", .type (tyN d), .type "tuple", isT d, rfl, .ty _, dt.ty, kit_T dt, _, rfl, ?_⟩
    cases hT : isT d with
    | false =>
      have k' := k H (Same.refl H)
      rw [fault_not hT] at k'
      exact iteT (iteT k')
    | true =>
      obtain ⟨ds, rfl⟩ := isT_tup hT
      cases dt with
      | @tup a xs _ hx n1 n2 da =>
      have el := da.len
      refine iteF ⟨_, rfl, a, xs, rfl, .inr (SqT.of hx), rfl, _, rfl, ?_⟩
      by_cases c : xs.length = 5
      · have ev : (!decide (V.int (xs.length : Int) = V.int 5)) = false := by
          rw [c]
          rfl
        refine (if_neg (by rw [ev]; exact Bool.false_ne_true)).mpr ?_
        obtain ⟨dm, dst, drk, drd, dcl, rfl⟩ := five (el.symm.trans c)
        cases da with
        | @cons vm xs1 _ _ tm da =>
        cases da with
        | @cons vst xs2 _ _ tst da =>
        cases da with
        | @cons vrk xs3 _ _ trk da =>
        cases da with
        | @cons vrd xs4 _ _ trd da =>
        cases da with
        | @cons vcl xs5 _ _ tcl da =>
        cases da
        refine ⟨_, rfl, a, _, 0, vm, rfl, rfl, SqT.of hx, rfl, vm, dm, m, g, 1, 3, rfl, tm, fun H1 s1 => ⟨_, rfl, ?_⟩⟩
        cases hB : isBt 1 3 dm with
        | false =>
          have k' := k H1 s1
          rw [show fault (.tuple [dm, dst, drk, drd, dcl]) = some "form" by simp only [fault, hB]; rfl] at k'
          exact iteT k'
        | true =>
          obtain ⟨n, rfl⟩ : ∃ i, dm = .int i := by cases dm <;> simp_all [isBt]
          cases tm
          refine iteF ?_
          refine ⟨_, rfl, a, _, rfl, SqT.of (s1 _ _ hx), rfl, _, _, rfl, _, _, rfl, _, _, rfl, _, _, rfl, _, _, rfl, rfl, ?_⟩
          refine ⟨_, rfl, vst, dst, m, g, rfl, tst.same s1, fun H2 s2 => ⟨_, rfl, ?_⟩⟩
          have s02 := s1.trans s2
          cases hS : isTRow dst with
          | false =>
            have k' := k H2 s02
            rw [show fault (.tuple [.int n, dst, drk, drd, dcl]) = some "stands" by simp only [fault, hB, hS]; rfl] at k'
            exact iteT (iteT k')
          | true =>
            obtain ⟨es, rfl, hl1, hl2, hall⟩ : ∃ es, dst = .tuple es ∧ 1 ≤ es.length ∧ es.length ≤ 8 ∧ es.all isB = true := by
              cases dst <;> simp_all [isTRow]
            cases tst with
            | @tup sa ys _ hsa m1 m2 ea =>
            have eys := bools_of ea hall
            have lst : (boolsOf (.tuple es)).length = es.length := by simp [boolsOf]
            generalize hst : boolsOf (.tuple es) = st at eys lst
            subst eys
            have l0 : 0 < st.length := by omega
            refine iteF ⟨_, rfl, sa, _, 0, .bl (st[0]), rfl, rfl, SqT.of (s02 _ _ hsa), by rw [show (0 : Int) = ((0 : Nat) : Int) from rfl]; exact atI_nat (by rw [List.getElem?_map, List.getElem?_eq_getElem l0]; rfl), _, rfl, ?_⟩
            have eg2 : st.getD 0 false = st[0] := by simp [l0]
            cases h0 : st[0] with
            | true =>
              have k' := k H2 s02
              rw [show fault (.tuple [.int n, .tuple es, drk, drd, dcl]) = some "stands" by simp only [fault, hB, hS, hst, eg2, h0]; rfl] at k'
              exact iteT k'
            | false =>
              refine iteF ⟨_, rfl, vrk, drk, m, g, rfl, trk.same s02, fun H3 s3 => ⟨_, rfl, ?_⟩⟩
              have s03 := s02.trans s3
              cases hR : isTRow drk with
              | false =>
                have k' := k H3 s03
                rw [show fault (.tuple [.int n, .tuple es, drk, drd, dcl]) = some "ranks" by simp only [fault, hB, hS, hst, eg2, h0, hR]; rfl] at k'
                exact iteT k'
              | true =>
                obtain ⟨fs, rfl, hl3, hl4, hall2⟩ : ∃ fs, drk = .tuple fs ∧ 1 ≤ fs.length ∧ fs.length ≤ 8 ∧ fs.all isB = true := by
                  cases drk <;> simp_all [isTRow]
                cases trk with
                | @tup ra zs _ hra m3 m4 fa =>
                have ezs := bools_of fa hall2
                have lrk : (boolsOf (.tuple fs)).length = fs.length := by simp [boolsOf]
                generalize hrk : boolsOf (.tuple fs) = rk at ezs lrk
                subst ezs
                refine iteF ⟨_, rfl, _, rfl, _, rfl, vrd, drd, m, g, sa, ra, st, rk, rfl, trd.same s03, okd_tup od (by simp), s03 _ _ hsa, s03 _ _ hra, by omega, by omega, fun H4 s4 => ⟨_, rfl, ?_⟩⟩
                have s04 := s03.trans s4
                cases hD : isRead st rk drd with
                | false =>
                  have k' := k H4 s04
                  rw [show fault (.tuple [.int n, .tuple es, .tuple fs, drd, dcl]) = some "read" by simp only [fault, hB, hS, hst, eg2, h0, hR, hrk, hD]; rfl] at k'
                  exact iteT k'
                | true =>
                  refine iteF ⟨_, rfl, _, rfl, _, rfl, _, rfl, vcl, dcl, m, g, sa, ra, n, st, rk, rfl, tcl.same s04, okd_tup od (by simp), s04 _ _ hsa, s04 _ _ hra, by omega, by omega, fun H5 s5 => ⟨_, rfl, ?_⟩⟩
                  have s05 := s04.trans s5
                  have k' := k H5 s05
                  cases hC : isClose n st rk dcl with
                  | false =>
                    rw [show fault (.tuple [.int n, .tuple es, .tuple fs, drd, dcl]) = some "close" by simp only [fault, hB, hS, hst, eg2, h0, hR, hrk, hD, hC]; rfl] at k'
                    exact iteT k'
                  | true =>
                    rw [show fault (.tuple [.int n, .tuple es, .tuple fs, drd, dcl]) = none by simp only [fault, hB, hS, hst, eg2, h0, hR, hrk, hD, hC]; rfl] at k'
                    exact iteF k'
      · have ev : (!decide (V.int (xs.length : Int) = V.int 5)) = true := by
          rw [decide_eq_false (fun z => c (by have := V.int.inj z; omega))]
          rfl
        refine (if_pos ev).mpr ?_
        have k' := k H (Same.refl H)
        rw [fault_len (by omega)] at k'
        exact k'
end
end Hk
set_option Elab.async false
set_option linter.all false
set_option maxRecDepth 100000
set_option maxHeartbeats 4000000
namespace Hk
open PySem PySem.Spec PyProof.Rows L2
/-- a custom has five parts, the first of them its number of marks -/
theorem fault_none {d : PyData} (h : fault d = none) : ∃ n st rk rd cl, d = .tuple [.int n, st, rk, rd, cl] ∧ 1 ≤ n ∧ n ≤ 3 := by
  cases hT : isT d with
  | false => rw [fault_not hT] at h; cases h
  | true =>
    obtain ⟨ds, rfl⟩ := isT_tup hT
    by_cases c : ds.length = 5
    · obtain ⟨mk, st, rk, rd, cl, rfl⟩ := five c
      cases hB : isBt 1 3 mk with
      | false => simp only [fault, hB] at h; cases h
      | true =>
        cases mk with
        | int n => exact ⟨n, st, rk, rd, cl, rfl, by simpa [isBt] using hB⟩
        | _ => simp [isBt] at hB
    · rw [fault_len c] at h; cases h
theorem at0 {v : V} {vs : List V} : atI (v :: vs) 0 = some v := atI_nat (j := 0) rfl
section
variable {P : Program} {w : World} {K : PySem.W.Frag} {mg : Str → Option Value} {base : Heap} {C B fI fB : Addr}
abbrev s_need_custom : Stmt := top 23
theorem sc_need_custom : FnScope ["custom", "word"] ["custom"] (defScope s_need_custom) := ⟨rfl, rfl, rfl, by decide +kernel, rfl, by decide +kernel, by decide +kernel⟩
theorem ok_need_custom (O : PySem.OwnX.OwnTxt P K mg "BadCustom" "word" C B fI fB) (k_custom_fault : Kn P w K mg base 6 "custom_fault" ["value"] spFault) (at_ : At K mg "need_custom" s_need_custom ["custom"]) : Kn P w K mg base 7 "need_custom" ["custom"] (spNeed C) := by
  refine Kn.mk (st := s_need_custom) (N := ["custom", "word"]) at_ sc_need_custom (fun vs H Q E h => ?_) (fun f cdv A outer s H vs Q E hr free h => ?_)
  · obtain ⟨v, d, m, g, rfl, _⟩ := h
    rfl
  · obtain ⟨v, d, m, g, rfl, dt, od, k1, k2⟩ := h
    refine ⟨_, (pss_cons (ps_set (i := 1) sc_need_custom.nd rfl (Or.inl rfl) (pe_callN k_custom_fault free (hr.mono (by decide)) rfl passL (pa_cons (pv 0) pa_nil))) (pss_cons (ps_if (pt_cmpR op_notN (pv 1) pe_non (nomark _)) (pss_one (ps_raiseOwn (k := 4) (fl := "word") rfl O (hr.mono (by decide)) (takes_of rfl rfl rfl rfl) (pa_cons (pv 1) pa_nil) rfl)) pss_nil) (pss_one (ps_ret (pv 0))))), ?_⟩
    refine ⟨_, rfl, v, d, m, g, rfl, dt, od, fun H1 s1 => ?_⟩
    cases hf : fault d with
    | none => exact ⟨_, rfl, rfl, _, rfl, iteF ⟨_, rfl, k1 hf H1 s1⟩⟩
    | some wd => exact ⟨_, rfl, rfl, _, rfl, iteT ⟨_, rfl, ⟨_, rfl, fun dd p h1 => k2 wd hf _ dd p (same_new s1 h1) upd_same⟩⟩⟩
abbrev s_is_custom : Stmt := top 24
theorem sc_is_custom : FnScope ["value"] ["value"] (defScope s_is_custom) := ⟨rfl, rfl, rfl, by decide +kernel, rfl, by decide +kernel, by decide +kernel⟩
theorem ok_is_custom (k_custom_fault : Kn P w K mg base 6 "custom_fault" ["value"] spFault) (at_ : At K mg "is_custom" s_is_custom ["value"]) : Kn P w K mg base 7 "is_custom" ["value"] spIsC := by
  refine Kn.mkN (st := s_is_custom) (N := ["value"]) at_ sc_is_custom (fun vs H Q E h => ?_) (fun f cdv A outer s H vs Q E hr free h => ?_)
  · obtain ⟨v, d, m, g, rfl, _⟩ := h
    rfl
  · obtain ⟨v, d, m, g, rfl, dt, od, k⟩ := h
    refine ⟨_, (pss_one (ps_ret (pe_cmpR op_isN (pe_callN k_custom_fault free (hr.mono (by decide)) rfl passL (pa_cons (pv 0) pa_nil)) pe_non (nomark _)))), ?_⟩
    refine ⟨_, rfl, v, d, m, g, rfl, dt, od, fun H1 s1 => ?_⟩
    have k' := k H1 s1
    refine ⟨rfl, ?_⟩
    cases hf : fault d with
    | none => rw [hf] at k'; exact k'
    | some wd => rw [hf] at k'; exact k'
abbrev s_same_marks : Stmt := top 25
theorem sc_same_marks : FnScope ["custom", "other"] ["custom", "other"] (defScope s_same_marks) := ⟨rfl, rfl, rfl, by decide +kernel, rfl, by decide +kernel, by decide +kernel⟩
theorem ok_same_marks (k_need_custom : Kn P w K mg base 7 "need_custom" ["custom"] (spNeed C)) (at_ : At K mg "same_marks" s_same_marks ["custom", "other"]) : Kn P w K mg base 8 "same_marks" ["custom", "other"] (spSame C) := by
  refine Kn.mk (st := s_same_marks) (N := ["custom", "other"]) at_ sc_same_marks (fun vs H Q E h => ?_) (fun f cdv A outer s H vs Q E hr free h => ?_)
  · obtain ⟨v, u, d, e, m, g, rfl, _⟩ := h
    rfl
  · obtain ⟨v, u, d, e, m, g, rfl, dt, od, et, oe, k1, k2, k3⟩ := h
    refine ⟨_, (pss_cons (ps_expr (pe_callN k_need_custom free (hr.mono (by decide)) rfl (passes_call (takes_of rfl rfl rfl rfl) fun _ _ _ _ h => h) (pa_cons (pv 0) pa_nil))) (pss_cons (ps_expr (pe_callN k_need_custom free (hr.mono (by decide)) rfl (passes_call (takes_of rfl rfl rfl rfl) fun _ _ _ _ h => h) (pa_cons (pv 1) pa_nil))) (pss_one (ps_if (pt_cmpR op_ne (pe_ix ix_tup (pv 0) pe_int (fun _ _ => rfl)) (pe_ix ix_tup (pv 1) pe_int (fun _ _ => rfl)) (nomark _)) (pss_one ps_never) pss_nil)))), ?_⟩
    refine ⟨_, rfl, v, d, m, g, rfl, dt, od, fun hf H1 s1 => ⟨_, rfl, u, e, m, g, rfl, et.same s1, oe, fun hg H2 s2 => ?_, fun wd hg => (k3 hf wd hg).same s1⟩, k2⟩
    obtain ⟨rfl, q⟩ := k1 hf hg
    obtain ⟨n, st, rk, rd, cl, rfl, n1, n3⟩ := fault_none hf
    have s3 := s1.trans s2
    cases dt with
    | @tup a xs _ hx _ _ da =>
    cases da with
    | @cons vm xs1 _ _ tm da =>
    cases et with
    | @tup b ys _ hy _ _ ea =>
    cases ea with
    | @cons vm2 ys1 _ _ tm2 ea =>
    cases tm
    cases tm2
    refine ⟨_, rfl, a, _, 0, .int n, rfl, rfl, SqT.of (s3 _ _ hx), at0, _, rfl, b, _, 0, .int n, rfl, rfl, SqT.of (s3 _ _ hy), at0, rfl, _, rfl, ?_⟩
    exact (if_neg (by simp)).mpr (q H2 s3)
abbrev s_renumbered : Stmt := top 28
theorem sc_renumbered : FnScope ["custom", "stands", "ranks", "marks", "old_stands", "old_ranks", "read", "close", "new_read", "row", "new_close", "pair", "stand", "keep", "rank", "pick"] ["custom", "stands", "ranks"] (defScope s_renumbered) := ⟨rfl, rfl, rfl, by decide +kernel, rfl, by decide +kernel, by decide +kernel⟩
theorem ok_renumbered (k_need_custom : Kn P w K mg base 7 "need_custom" ["custom"] (spNeed C)) (at_ : At K mg "renumbered" s_renumbered ["custom", "stands", "ranks"]) : Kn P w K mg base 8 "renumbered" ["custom", "stands", "ranks"] (spRenum C) := by
  refine Kn.mk (st := s_renumbered) (N := ["custom", "stands", "ranks", "marks", "old_stands", "old_ranks", "read", "close", "new_read", "row", "new_close", "pair", "stand", "keep", "rank", "pick"]) at_ sc_renumbered (fun vs H Q E h => ?_) (fun f cdv A outer s H vs Q E hr free h => ?_)
  · obtain ⟨v, a, b, d, m, g, wd, rfl, _⟩ := h
    rfl
  · obtain ⟨v, a, b, d, m, g, wd, rfl, dt, od, hf, k⟩ := h
    refine ⟨_, (pss_cons (ps_expr (pe_callN k_need_custom free (hr.mono (by decide)) rfl (passes_call (takes_of rfl rfl rfl rfl) fun _ _ _ _ h => h) (pa_cons (pv 0) pa_nil))) pss_never), ?_⟩
    refine ⟨_, rfl, v, d, m, g, rfl, dt, od, fun hz => ?_, fun w2 h2 => ?_⟩
    · rw [hf] at hz
      cases hz
    · rw [hf] at h2
      cases h2
      exact k
end
end Hk
set_option Elab.async false
set_option linter.all false
set_option maxRecDepth 100000
set_option maxHeartbeats 4000000
namespace Hk
open PySem PySem.Spec PyProof.Rows L2
/-- a comprehension with tests whose step leaves all as it was -/
theorem lc_filt {J : It} {n : Nat} {G : Hp → Prop} {Y : Nat → Hp → V → Hp → Prop} (w : Walk J n G Y) {D : Addr} {g : TG} {tt : TT} {te : TE} {own : List Nat} {σ : L2.St} {H1 : Hp} {Qd : Hp → Prop} (p : Nat → Bool) (f : Nat → V) (hG : ∀ H, Same H1 H → G H) (hY : ∀ i H x H', Y i H x H' → Same H H') (nD : H1 D = none) (small : n < sizeLine)
    (step : ∀ i x H H' (Qy : VK) (Qn : Hp → Prop), i < n → Y i H x H' → Same H1 H' → (p i = true → ∀ H4, Same H' H4 → Qy (f i) H4) → (p i = false → ∀ H4, Same H' H4 → Qn H4) → g x (wipe σ own) H' fun σ2 H2 => wipe σ2 own = wipe σ own ∧ tt σ2 H2 fun b H3 => if b = true then te σ2 H3 Qy else Qn H3)
    (hd : ∀ H, Same H1 H → H D = some (.lst (((List.range n).filter p).map f)) → Qd H) :
    ∃ W : Nat → Nat → Hp → Prop, (∃ m, W 0 m (upd H1 D (.lst []))) ∧ ∀ i m H, W i m H →
      (J.stop i H ∧ Qd H) ∨ (J.go i H ∧ ∃ Nx : Hp → Prop, (∀ H', Nx H' → ∃ m', m' < m ∧ W (i + 1) m' H') ∧ ∀ x H', J.yld i H x H' → g x (wipe σ own) H' fun σ2 H2 => wipe σ2 own = wipe σ own ∧ tt σ2 H2 fun b H3 =>
        if b = true then te σ2 H3 fun y H4 => ∃ acc, H4 D = some (.lst acc) ∧ acc.length < sizeLine ∧ Nx (upd H4 D (.lst (acc ++ [y]))) else Nx H3) := by
  refine lc_it w (fun i H => Same H1 H ∧ H D = some (.lst (((List.range i).filter p).map f))) ⟨same_upd nD, upd_same⟩ (fun i H _ q => hG H q.1) ?_ (fun H q => hd H q.1 q.2)
  rintro i x H H' hi ⟨s1, e1⟩ y
  have s2 := hY i H x H' y
  have lf : ((List.range i).filter p).length ≤ i := Nat.le_trans (List.length_filter_le _ _) (by simp)
  refine step i x H H' (fun y H4 => ∃ acc, H4 D = some (.lst acc) ∧ acc.length < sizeLine ∧ Same H1 (upd H4 D (.lst (acc ++ [y]))) ∧ upd H4 D (.lst (acc ++ [y])) D = some (.lst (((List.range (i + 1)).filter p).map f))) (fun H4 => Same H1 H4 ∧ H4 D = some (.lst (((List.range (i + 1)).filter p).map f))) hi y (s1.trans s2) (fun hp H4 s4 => ?_) (fun hp H4 s4 => ?_)
  · refine ⟨_, s4 _ _ (s2 _ _ e1), by rw [List.length_map]; omega, fun b o q => ?_, ?_⟩
    · rw [upd_ne (ne_of_none q nD)]
      exact s4 _ _ (s2 _ _ (s1 _ _ q))
    · rw [upd_same, List.range_succ, List.filter_append, List.map_append]
      simp [hp]
  · refine ⟨(s1.trans s2).trans s4, ?_⟩
    rw [s4 _ _ (s2 _ _ e1), List.range_succ, List.filter_append]
    simp [hp]
/-- the ones that a comprehension gathered -/
def onesP (p : Nat → Bool) (n : Nat) : List V := ((List.range n).filter p).map fun _ => .int 1
theorem ones_dp {K : PySem.W.Frag} {H : Hp} (p : Nat → Bool) (n : Nat) : ∃ k, DpAll K H (onesP p n) (List.replicate k (.int 1)) ∧ k ≤ n ∧ ((k = 0) = ∀ i, i < n → p i = false) := by
  refine ⟨((List.range n).filter p).length, ?_, Nat.le_trans (List.length_filter_le _ _) (by simp), ?_⟩
  · unfold onesP
    generalize (List.range n).filter p = l
    induction l with
    | nil => exact .nil
    | cons a l ih => exact .cons (.int 1) ih
  · simp [List.length_eq_zero_iff, List.filter_eq_nil_iff]
theorem lay_repl (k : Nat) : PyData.canLayAll0 (List.replicate k (.int 1)) = true := by
  induction k with
  | zero => rfl
  | succ k ih => simp [List.replicate_succ, PyData.canLayAll0, PyData.canLay0, ih]
theorem depth_repl (k : Nat) : PyData.depthAll (List.replicate k (.int 1)) ≤ 1 := by
  induction k with
  | zero => simp [PyData.depthAll]
  | succ k ih =>
    simp [List.replicate_succ, PyData.depthAll, PyData.depth]
    omega
theorem shaped_repl (k : Nat) : SeqAt.shaped (.list (List.replicate k (.int 1))) = true := by
  have := depth_repl k
  unfold SeqAt.shaped
  simp [PyData.canLay0, lay_repl, PyData.depth]
  omega
theorem eqv_repl (k : Nat) : PyData.eqv (.list (List.replicate k (.int 1))) (.list []) = decide (k = 0) := by
  cases k with
  | zero => simp [PyData.eqv, PyData.eqvAll]
  | succ k => simp [List.replicate_succ, PyData.eqv, PyData.eqvAll]
theorem room65' {k : Nat} {A : Around} (r : Room k A) : A.units + 64 < cLine := by
  have := room65 r
  omega
/-- x in l, l a list, both any data -/
def rInL (K : PySem.W.Frag) : R2 := fun x y H Q => ∃ d ds, Dp K H x d ∧ Dp K H y (.list ds) ∧ Okd d ∧ Okd (.list ds) ∧ Q (.bl (ds.any fun z => PyData.eqv z d)) H
theorem op_inL {X : Cx} (hu : X.A.units + 65 < cLine) : OpR X (compareOp .In) (rInL X.K) := by
  intro pins s σ H x y v u Q I rx ry h
  obtain ⟨d, ds, hd, he, sd, se, q⟩ := h
  obtain ⟨as, r1⟩ := Dp.reads I d x v hd rx
  obtain ⟨bs, r2⟩ := Dp.reads I (.list ds) y u he ry
  exact SeqAt.in_list_reads r2 r1 (SeqAt.canLay_of_shaped se) (SeqAt.canLay_of_shaped sd) (room_in_shaped sd hu) ⟨.bl _, H, I, rfl, q⟩
/-- [1 for ..] == [] -/
theorem ones_eq {K : PySem.W.Frag} {σ : L2.St} {H1 : Hp} {D : Addr} {p : Nat → Bool} {n : Nat} {Qv : VK} (hD : H1 D = some (.lst (((List.range n).filter p).map fun _ => .int 1))) (q : ∀ H', Same H1 H' → Qv (.bl ((List.range n).all fun i => !p i)) H') :
    tLst tNil σ H1 fun y H2 => rEqD K (.ref D) y H2 Qv := by
  refine ⟨Nat.zero_le _, fun e he => ?_⟩
  have s1 := same_upd (o := .lst []) he
  obtain ⟨k, hk, _, hz⟩ := ones_dp (K := K) (H := upd H1 e (.lst [])) p n
  refine ⟨.list (List.replicate k (.int 1)), .list [], .lst (SqL.of (s1 _ _ hD)) hk, .lst (SqL.of upd_same) .nil, shaped_repl k, rfl, ?_⟩
  have q' := q _ s1
  rw [eqv_repl]
  have e2 : ((List.range n).all fun i => !p i) = decide (k = 0) := by
    rw [Bool.eq_iff_iff, decide_eq_true_iff, hz]
    simp
  rw [e2] at q'
  exact q'
section
variable {P : Program} {w : World} {K : PySem.W.Frag} {mg : Str → Option Value} {base : Heap}
abbrev s_law_is_int : Stmt := top 56
theorem sc_law_is_int : FnScope ["thing", "low", "high"] ["thing", "low", "high"] (defScope s_law_is_int) := ⟨rfl, rfl, rfl, by decide +kernel, rfl, by decide +kernel, by decide +kernel⟩
theorem ok_law_is_int (T : Txt K mg) (at_ : At K mg "_law_is_int" s_law_is_int ["thing", "low", "high"]) : Kn P w K mg base 1 "_law_is_int" ["thing", "low", "high"] (spD1I isBt) := by
  refine Kn.mkN (st := s_law_is_int) (N := ["thing", "low", "high"]) at_ sc_law_is_int (fun vs H Q E h => ?_) (fun f cdv A outer s H vs Q E hr free h => ?_)
  · obtain ⟨v, d, m, g, lo, hi, rfl, _⟩ := h
    rfl
  · obtain ⟨v, d, m, g, lo, hi, rfl, dt, k⟩ := h
    refine ⟨_, (pss_one (ps_ret (pe_and (pe_callB (id := "isinstance") (show CallR _ (.builtin "isinstance") (rIsi K) from call_isi) (by rfl) T.b_isinstance (by decide +kernel) (pa_cons (pv 0) (pa_cons (pe_bltn (v := .ty "int") (by rfl) T.b_int (by decide +kernel) rfl) pa_nil))) (pe_and (pe_not (pe_callB (id := "isinstance") (show CallR _ (.builtin "isinstance") (rIsi K) from call_isi) (by rfl) T.b_isinstance (by decide +kernel) (pa_cons (pv 0) (pa_cons (pe_bltn (v := .ty "bool") (by rfl) T.b_bool (by decide +kernel) rfl) pa_nil)))) (pe_one (pe_chain op_le op_le (pv 1) (pv 0) (pv 2))))))), ?_⟩
    refine ⟨_, rfl, v, .ty "int", .type (tyN d), .type "int", isI d, rfl, .ty _, dt.ty, kit_I dt, _, rfl, ?_⟩
    have k' := k H (Same.refl H)
    cases hI : isI d with
    | false =>
      refine iteF ?_
      have e : isBt lo hi d = false := by cases d <;> simp_all [isI, isBt]
      rw [e] at k'
      exact k'
    | true =>
      refine iteT ⟨_, rfl, v, .ty "bool", .type (tyN d), .type "bool", isB d, rfl, .ty _, dt.ty, kit_B dt, _, rfl, ?_⟩
      cases hB : isB d with
      | true =>
        have e : isBt lo hi d = false := by cases d <;> simp_all [isB, isBt]
        rw [e] at k'
        exact ⟨_, rfl, iteF k'⟩
      | false =>
        obtain ⟨i, rfl⟩ : ∃ i, d = .int i := by cases d <;> simp_all [isI, isB]
        cases dt
        refine ⟨_, rfl, iteT ⟨_, rfl, _, rfl, _, _, rfl, rfl, _, rfl, ?_⟩⟩
        have e : isBt lo hi (.int i) = (decide (lo ≤ i) && decide (i ≤ hi)) := rfl
        rw [e] at k'
        by_cases c : lo ≤ i
        · rw [decide_eq_true c] at k' ⊢
          exact iteT ⟨_, rfl, _, _, rfl, rfl, k'⟩
        · rw [decide_eq_false c] at k' ⊢
          exact iteF k'
abbrev s_law_are_truths : Stmt := top 60
theorem sc_law_are_truths : FnScope ["some", "one"] ["some"] (defScope s_law_are_truths) := ⟨rfl, rfl, rfl, by decide +kernel, rfl, by decide +kernel, by decide +kernel⟩
theorem ok_law_are_truths (T : Txt K mg) (at_ : At K mg "_law_are_truths" s_law_are_truths ["some"]) : Kn P w K mg base 1 "_law_are_truths" ["some"] (spD1 isTRow) := by
  refine Kn.mkN (st := s_law_are_truths) (N := ["some", "one"]) at_ sc_law_are_truths (fun vs H Q E h => ?_) (fun f cdv A outer s H vs Q E hr free h => ?_)
  · obtain ⟨v, d, m, g, rfl, _⟩ := h
    rfl
  · obtain ⟨v, d, m, g, rfl, dt, k⟩ := h
    refine ⟨_, (pss_cons (ps_if (PW.pt (pw_or (pt_not (pt_val (pe_callB (id := "isinstance") (show CallR _ (.builtin "isinstance") (rIsi K) from call_isi) (by rfl) T.b_isinstance (by decide +kernel) (pa_cons (pv 0) (pa_cons (pe_bltn (v := .ty "tuple") (by rfl) T.b_tuple (by decide +kernel) rfl) pa_nil))))) (pw_or1 (pt_not (pt_chain op_le op_le pe_int (pe_callB (id := "len") call_len_seq (by rfl) T.b_len (by decide +kernel) (pa_cons (pv 0) pa_nil)) pe_int))))) (pss_one (ps_ret pe_bl)) pss_nil) (pss_one (ps_ret (pe_cmpR (op_eqD (room65' hr)) (pe_lc (own := [("one", 1)]) (by rfl) sc_law_are_truths.nd (pi_tup (pv 0)) (blkOk_by (own := [("one", 1)]) (N := ["some", "one"]) (sc := defScope s_law_are_truths) (by decide +kernel)) (fun _ _ _ _ _ => pg_name (i := 1) sc_law_are_truths.nd rfl (Or.inl rfl)) (fun _ _ _ _ _ => (pts_one (pt_not (pt_val (pe_callB (id := "isinstance") (show CallR _ (.builtin "isinstance") (rIsi K) from call_isi) (by rfl) T.b_isinstance (by decide +kernel) (pa_cons (pv 1) (pa_cons (pe_bltn (v := .ty "bool") (by rfl) T.b_bool (by decide +kernel) rfl) pa_nil))))))) (fun _ _ _ _ _ => pe_int)) (pe_lst pa_nil) (nomark _))))), ?_⟩
    refine ⟨_, rfl, v, .ty "tuple", .type (tyN d), .type "tuple", isT d, rfl, .ty _, dt.ty, kit_T dt, _, rfl, ?_⟩
    cases hT : isT d with
    | false =>
      refine iteT (iteT ?_)
      have e : isTRow d = false := by cases d <;> simp_all [isT, isTRow]
      have k' := k H (Same.refl H)
      rw [e] at k'
      exact k'
    | true =>
      obtain ⟨ds, rfl⟩ : ∃ ds, d = .tuple ds := by cases d <;> simp_all [isT]
      cases dt with
      | @tup a xs _ hx n1 n2 da =>
      have el := da.len
      refine iteF ⟨_, rfl, a, xs, rfl, .inr (SqT.of hx), _, _, rfl, rfl, _, rfl, ?_⟩
      have e : isTRow (.tuple ds) = (decide (1 ≤ ds.length) && decide (ds.length ≤ 8) && ds.all isB) := rfl
      by_cases c1 : (1 : Int) ≤ (xs.length : Int)
      · rw [decide_eq_true c1]
        refine iteT ⟨_, _, rfl, rfl, _, rfl, ?_⟩
        by_cases c2 : (xs.length : Int) ≤ 8
        · rw [decide_eq_true c2]
          refine iteF ?_
          refine ⟨_, rfl, a, rfl, ⟨_, SqT.of hx⟩, fun D nD => ?_⟩
          refine lc_filt (walk_tup (xs := xs)) (fun i => !(((ds[i]?).map isB).getD false)) (fun i => .int 1) (fun H' s' => SqT.of (s' _ _ hx)) (fun i H x H' y => by obtain ⟨rfl, _⟩ := y; exact Same.refl _) nD (small_of (k := 8) (by omega) (by decide)) (fun i x H1 H2 Qy Qn hi y s1 q1 q2 => ?_) (fun H1 s1 hD => ?_)
          · obtain ⟨rfl, hxi⟩ := y
            obtain ⟨di, hdi, dti⟩ := da.at' hxi
            refine ⟨rfl, _, rfl, x, .ty "bool", .type (tyN di), .type "bool", isB di, rfl, .ty _, (dti.same s1).ty, kit_B (dti.same s1), _, rfl, ?_⟩
            rw [hdi] at q1 q2
            cases hB : isB di with
            | true =>
              exact iteF (q2 (by simp [hB]) _ (Same.refl _))
            | false =>
              exact iteT (q1 (by simp [hB]) _ (Same.refl _))
          · refine ones_eq hD fun H2 s2 => ?_
            have k' := k H2 (s1.trans s2)
            have e2 : isTRow (.tuple ds) = ds.all isB := by
              rw [e, decide_eq_true (by omega), decide_eq_true (by omega)]
              rfl
            rw [e2, ← range_all (ds := ds), ← el] at k'
            simpa [List.all_map, Function.comp_def] using k'
        · rw [decide_eq_false c2]
          refine iteT ?_
          have k' := k H (Same.refl H)
          have e2 : isTRow (.tuple ds) = false := by
            rw [e, decide_eq_false (show ¬ ds.length ≤ 8 by omega)]
            simp
          rw [e2] at k'
          exact k'
      · rw [decide_eq_false c1]
        refine iteF ?_
        refine ⟨_, rfl, ?_⟩
        have k' := k H (Same.refl H)
        have e2 : isTRow (.tuple ds) = false := by
          rw [e, decide_eq_false (show ¬ 1 ≤ ds.length by omega)]
          simp
        rw [e2] at k'
        exact iteT k'
end
end Hk
set_option Elab.async false
set_option linter.all false
set_option maxRecDepth 100000
set_option maxHeartbeats 4000000
namespace Hk
open PySem PySem.Spec PyProof.Rows L2
abbrev rLenS (K : PySem.W.Frag) : List V → Hp → VK → Prop := fun xs H Q => ∃ p ys, xs = [V.ref p] ∧ (SqL K H p ys ∨ SqT K H p ys) ∧ Q (V.int (ys.length : Int)) H
def spLCell : Sp := fun vs H Q _ => ∃ (v : V) (d : PyData) (m g ha wa : Addr) (hs : List Bool) (ws : List Str), vs = [v, .ref ha, .ref wa] ∧ Dt H m g v d ∧ Okd d ∧ H ha = some (.tup (hs.map V.bl)) ∧ H wa = some (.lst (ws.map V.str)) ∧ Okd (.list (ws.map PyData.str)) ∧
  ∀ H', Same H H' → Q (.bl (isCell hs ws d)) H'
def isTL (w : Nat) : PyData → Bool
  | .tuple es => decide (es.length = w)
  | _ => false
def isRows (n : Int) (w : Nat) : PyData → Bool
  | .tuple ds => decide ((ds.length : Int) = n) && ds.all (isTL w)
  | _ => false
def spRows : Sp := fun vs H Q _ => ∃ (v : V) (d : PyData) (m g : Addr) (n : Int) (w : Nat), vs = [v, .int n, .int (w : Int)] ∧ Dt H m g v d ∧ n ≤ 8 ∧ ∀ H', Same H H' → Q (.bl (isRows n w d)) H'
theorem not_str_inW {d : PyData} (h : isS d = false) (ws : List Str) : inW ws d = false := by
  cases d <;> simp_all [isS, inW]
section
variable {P : Program} {w : World} {K : PySem.W.Frag} {mg : Str → Option Value} {base : Heap}
abbrev s_law_is_cell : Stmt := top 61
theorem sc_law_is_cell : FnScope ["cell", "truths", "choices"] ["cell", "truths", "choices"] (defScope s_law_is_cell) := ⟨rfl, rfl, rfl, by decide +kernel, rfl, by decide +kernel, by decide +kernel⟩
theorem ok_law_is_cell (T : Txt K mg) (k_law_is_int : Kn P w K mg base 1 "_law_is_int" ["thing", "low", "high"] (spD1I isBt)) (at_ : At K mg "_law_is_cell" s_law_is_cell ["cell", "truths", "choices"]) : Kn P w K mg base 2 "_law_is_cell" ["cell", "truths", "choices"] spLCell := by
  refine Kn.mkN (st := s_law_is_cell) (N := ["cell", "truths", "choices"]) at_ sc_law_is_cell (fun vs H Q E h => ?_) (fun f cdv A outer s H vs Q E hr free h => ?_)
  · obtain ⟨v, d, m, g, ha, wa, hs, ws, rfl, _⟩ := h
    rfl
  · obtain ⟨v, d, m, g, ha, wa, hs, ws, rfl, dt, od, hh, hw, ow, k⟩ := h
    refine ⟨_, (pss_cons (ps_if (PW.pt (pw_or (pt_not (pt_val (pe_callB (id := "isinstance") (show CallR _ (.builtin "isinstance") (rIsi K) from call_isi) (by rfl) T.b_isinstance (by decide +kernel) (pa_cons (pv 0) (pa_cons (pe_bltn (v := .ty "tuple") (by rfl) T.b_tuple (by decide +kernel) rfl) pa_nil))))) (pw_or (pt_cmpR op_ne (pe_callB (id := "len") call_len_seq (by rfl) T.b_len (by decide +kernel) (pa_cons (pv 0) pa_nil)) pe_int (nomark _)) (pw_or1 (pt_not (pt_val (pe_callN k_law_is_int free (hr.mono (by decide)) rfl passL (pa_cons (pe_ix ix_tup (pv 0) pe_int (fun _ _ => rfl)) (pa_cons pe_int (pa_cons (pe_op op_sub (pe_callB (id := "len") call_len_seq (by rfl) T.b_len (by decide +kernel) (pa_cons (pv 1) pa_nil)) pe_int) pa_nil)))))))))) (pss_one (ps_ret pe_bl)) pss_nil) (pss_cons (ps_if (pt_not (pt_val (pe_callB (id := "isinstance") (show CallR _ (.builtin "isinstance") (rIsi K) from call_isi) (by rfl) T.b_isinstance (by decide +kernel) (pa_cons (pe_ix ix_tup (pv 0) pe_int (fun _ _ => rfl)) (pa_cons (pe_bltn (v := .ty "str") (by rfl) T.b_str (by decide +kernel) rfl) pa_nil))))) (pss_one (ps_ret pe_bl)) pss_nil) (pss_one (ps_ret (pe_ifExp (pt_val (pe_ix ix_tup (pv 1) (pe_ix ix_tup (pv 0) pe_int (fun _ _ => rfl)) (fun _ _ => rfl))) (pe_cmpR (op_inL (room65 hr)) (pe_ix ix_tup (pv 0) pe_int (fun _ _ => rfl)) (pv 2) (by rfl)) (pe_cmpR (op_eqD hr.units) (pe_ix ix_tup (pv 0) pe_int (fun _ _ => rfl)) pe_str (nomark _))))))), ?_⟩
    refine ⟨_, rfl, v, .ty "tuple", .type (tyN d), .type "tuple", isT d, rfl, .ty _, dt.ty, kit_T dt, _, rfl, ?_⟩
    cases hT : isT d with
    | false =>
      have e : isCell hs ws d = false := cell_pair (by cases d <;> simp_all [isT, isPair])
      have k' := k H (Same.refl H)
      rw [e] at k'
      exact iteT (iteT k')
    | true =>
      obtain ⟨ds, rfl⟩ := isT_tup hT
      cases dt with
      | @tup a xs _ hx n1 n2 da =>
      have el := da.len
      refine iteF ⟨_, rfl, a, xs, rfl, .inr (SqT.of hx), rfl, _, rfl, ?_⟩
      by_cases c : xs.length = 2
      · have ev : (!decide (V.int (xs.length : Int) = V.int 2)) = false := by
          rw [c]
          rfl
        refine (if_neg (by rw [ev]; exact Bool.false_ne_true)).mpr ?_
        obtain ⟨d0, d1, e2⟩ := pair_two (d := .tuple ds) (by show decide (ds.length = 2) = true; rw [decide_eq_true (by omega)])
        cases e2
        cases da with
        | @cons v0 vr _ _ dt0 da1 =>
        cases da1 with
        | @cons v1 vr2 _ _ dt1 da2 =>
        cases da2
        refine ⟨_, rfl, a, _, 0, v0, rfl, rfl, SqT.of hx, rfl, _, rfl, ha, _, rfl, .inr (SqT.of hh), _, _, rfl, rfl, v0, d0, m, g, _, _, rfl, dt0, fun H1 s1 => ⟨_, rfl, ?_⟩⟩
        have k' := k H1 s1
        have hh2 := s1 _ _ hh
        have hw2 := s1 _ _ hw
        have hx2 := s1 _ _ hx
        have ll : ((hs.map V.bl).length : Int) = (hs.length : Int) := by rw [List.length_map]
        have od1 : Okd d1 := okd_tup od (by simp)
        have dt1' : Dt H1 m g v1 d1 := dt1.same s1
        rw [ll]
        cases hB : isBt 0 ((hs.length : Int) - 1) d0 with
        | false =>
          have e : isCell hs ws (.tuple [d0, d1]) = false := by
            exact cell_bt hB
          rw [e] at k'
          exact iteT k'
        | true =>
          obtain ⟨i, rfl⟩ : ∃ i, d0 = .int i := by cases d0 <;> simp_all [isBt]
          cases dt0
          simp [isBt] at hB
          obtain ⟨j, rfl⟩ : ∃ j : Nat, i = (j : Int) := ⟨i.toNat, by omega⟩
          have hj : j < hs.length := by omega
          have e : isCell hs ws (.tuple [.int (j : Int), d1]) = (if hs.getD j false then inW ws d1 else inW ["none"] d1) := by
            show (decide (0 ≤ (j : Int)) && decide ((j : Int) ≤ (hs.length : Int) - 1) && (if hs.getD (j : Int).toNat false then inW ws d1 else inW ["none"] d1)) = _
            rw [decide_eq_true (by omega), decide_eq_true (by omega)]
            rfl
          rw [e] at k'
          refine iteF ⟨_, rfl, a, _, 1, v1, rfl, rfl, SqT.of hx2, rfl, v1, .ty "str", .type (tyN d1), .type "str", isS d1, rfl, .ty _, dt1'.ty, kit_S dt1', _, rfl, ?_⟩
          cases hS : isS d1 with
          | false =>
            rw [not_str_inW hS, not_str_inW hS, ite_self] at k'
            exact iteT k'
          | true =>
          refine iteF ⟨_, rfl, _, rfl, a, _, 0, _, rfl, rfl, SqT.of hx2, rfl, ha, _, _, .bl (hs[j]), rfl, rfl, SqT.of hh2, atI_nat (by rw [List.getElem?_map, List.getElem?_eq_getElem hj]; rfl), _, rfl, ?_⟩
          have eg : hs.getD j false = hs[j] := by simp [hj]
          rw [eg] at k'
          cases hb : hs[j] with
          | false =>
            rw [hb] at k'
            refine iteF ⟨_, rfl, a, _, 1, v1, rfl, rfl, SqT.of hx2, rfl, d1, .str "none", dt1'.dp, .str _, od1, by decide +kernel, ?_⟩
            rw [eqv_str]
            exact k'
          | true =>
            rw [hb] at k'
            refine iteT ⟨_, rfl, a, _, 1, v1, rfl, rfl, SqT.of hx2, rfl, _, rfl, d1, ws.map PyData.str, dt1'.dp, .lst (SqL.of hw2) (dp_strs ws), od1, ow, ?_⟩
            rw [inW_any]
            exact k'
      · have ev : (!decide (V.int (xs.length : Int) = V.int 2)) = true := by
          rw [decide_eq_false (fun z => c (by have := V.int.inj z; omega))]
          rfl
        refine (if_pos ev).mpr (iteT ?_)
        have k' := k H (Same.refl H)
        rw [cell_pair (by show decide (ds.length = 2) = false; rw [decide_eq_false (by omega)])] at k'
        exact k'
abbrev s_law_is_rows : Stmt := top 62
theorem sc_law_is_rows : FnScope ["some", "many", "width", "row"] ["some", "many", "width"] (defScope s_law_is_rows) := ⟨rfl, rfl, rfl, by decide +kernel, rfl, by decide +kernel, by decide +kernel⟩
theorem ok_law_is_rows (T : Txt K mg) (at_ : At K mg "_law_is_rows" s_law_is_rows ["some", "many", "width"]) : Kn P w K mg base 1 "_law_is_rows" ["some", "many", "width"] spRows := by
  refine Kn.mkN (st := s_law_is_rows) (N := ["some", "many", "width", "row"]) at_ sc_law_is_rows (fun vs H Q E h => ?_) (fun f cdv A outer s H vs Q E hr free h => ?_)
  · obtain ⟨v, d, m, g, n, wd, rfl, _⟩ := h
    rfl
  · obtain ⟨v, d, m, g, n, wd, rfl, dt, n8, k⟩ := h
    refine ⟨_, (pss_cons (ps_if (PW.pt (pw_or (pt_not (pt_val (pe_callB (id := "isinstance") (show CallR _ (.builtin "isinstance") (rIsi K) from call_isi) (by rfl) T.b_isinstance (by decide +kernel) (pa_cons (pv 0) (pa_cons (pe_bltn (v := .ty "tuple") (by rfl) T.b_tuple (by decide +kernel) rfl) pa_nil))))) (pw_or1 (pt_cmpR op_ne (pe_callB (id := "len") call_len_seq (by rfl) T.b_len (by decide +kernel) (pa_cons (pv 0) pa_nil)) (pv 1) (nomark _))))) (pss_one (ps_ret pe_bl)) pss_nil) (pss_one (ps_ret (pe_cmpR (op_eqD (room65' hr)) (pe_lc (own := [("row", 3)]) (by rfl) sc_law_is_rows.nd (pi_tup (pv 0)) (blkOk_by (own := [("row", 3)]) (N := ["some", "many", "width", "row"]) (sc := defScope s_law_is_rows) (by decide +kernel)) (fun _ _ _ _ _ => pg_name (i := 3) sc_law_is_rows.nd rfl (Or.inl rfl)) (fun _ _ _ _ _ => (pts_one (PW.pt (pw_or (pt_not (pt_val (pe_callB (id := "isinstance") (show CallR _ (.builtin "isinstance") (rIsi K) from call_isi) (by rfl) T.b_isinstance (by decide +kernel) (pa_cons (pv 3) (pa_cons (pe_bltn (v := .ty "tuple") (by rfl) T.b_tuple (by decide +kernel) rfl) pa_nil))))) (pw_or1 (pt_cmpR op_ne (pe_callB (id := "len") (show CallR _ (.builtin "len") (rLenS K) from call_len_seq) (by rfl) T.b_len (by decide +kernel) (pa_cons (pv 3) pa_nil)) (pv 2) (nomark _))))))) (fun _ _ _ _ _ => pe_int)) (pe_lst pa_nil) (nomark _))))), ?_⟩
    refine ⟨_, rfl, v, .ty "tuple", .type (tyN d), .type "tuple", isT d, rfl, .ty _, dt.ty, kit_T dt, _, rfl, ?_⟩
    cases hT : isT d with
    | false =>
      have e : isRows n wd d = false := by cases d <;> simp_all [isT, isRows]
      have k' := k H (Same.refl H)
      rw [e] at k'
      exact iteT (iteT k')
    | true =>
      obtain ⟨ds, rfl⟩ := isT_tup hT
      cases dt with
      | @tup a xs _ hx n1 n2 da =>
      have el := da.len
      have e : isRows n wd (.tuple ds) = (decide ((ds.length : Int) = n) && ds.all (isTL wd)) := rfl
      refine iteF ⟨_, rfl, a, xs, rfl, .inr (SqT.of hx), _, rfl, rfl, _, rfl, ?_⟩
      by_cases c : (xs.length : Int) = n
      · have ev : (!decide (V.int (xs.length : Int) = V.int n)) = false := by
          rw [c]
          simp
        refine (if_neg (by rw [ev]; exact Bool.false_ne_true)).mpr ?_
        refine ⟨_, rfl, a, rfl, ⟨_, SqT.of hx⟩, fun D nD => ?_⟩
        refine lc_filt (walk_tup (xs := xs)) (fun i => !(((ds[i]?).map (isTL wd)).getD false)) (fun i => .int 1) (fun H' s' => SqT.of (s' _ _ hx)) (fun i H x H' y => by obtain ⟨rfl, _⟩ := y; exact Same.refl _) nD (small_of (k := 8) (by omega) (by decide)) (fun i x H1 H2 Qy Qn hi y s1 q1 q2 => ?_) (fun H1 s1 hD => ?_)
        · obtain ⟨rfl, hxi⟩ := y
          obtain ⟨di, hdi, dti⟩ := da.at' hxi
          have dti' := dti.same s1
          rw [hdi] at q1 q2
          refine ⟨rfl, _, rfl, x, .ty "tuple", .type (tyN di), .type "tuple", isT di, rfl, .ty _, dti'.ty, kit_T dti', _, rfl, ?_⟩
          cases hT2 : isT di with
          | false =>
            have e2 : isTL wd di = false := by cases di <;> simp_all [isT, isTL]
            exact iteT (iteT (q1 (by simp [e2]) _ (Same.refl _)))
          | true =>
            obtain ⟨es, rfl⟩ := isT_tup hT2
            cases dti' with
            | @tup b ys _ hy m1 m2 ea =>
            have el2 := ea.len
            refine iteF ⟨_, rfl, b, ys, rfl, .inr (SqT.of hy), _, rfl, rfl, _, rfl, ?_⟩
            by_cases c2 : ys.length = wd
            · have ev2 : (!decide (V.int (ys.length : Int) = V.int (wd : Int))) = false := by
                rw [c2]
                simp
              refine (if_neg (by rw [ev2]; exact Bool.false_ne_true)).mpr ?_
              refine q2 ?_ _ (Same.refl _)
              simp [isTL]
              omega
            · have ev2 : (!decide (V.int (ys.length : Int) = V.int (wd : Int))) = true := by
                rw [decide_eq_false (fun z => c2 (by have := V.int.inj z; omega))]
                rfl
              refine (if_pos ev2).mpr ?_
              refine q1 ?_ _ (Same.refl _)
              simp [isTL]
              omega
        · refine ones_eq hD fun H2 s2 => ?_
          have k' := k H2 (s1.trans s2)
          rw [e, decide_eq_true (by omega), Bool.true_and, ← range_all (ds := ds), ← el] at k'
          simpa [List.all_map, Function.comp_def] using k'
      · have ev : (!decide (V.int (xs.length : Int) = V.int n)) = true := by
          rw [decide_eq_false (fun z => c (V.int.inj z))]
          rfl
        refine (if_pos ev).mpr ?_
        have k' := k H (Same.refl H)
        rw [e, decide_eq_false (by omega)] at k'
        exact k'
end
end Hk
set_option Elab.async false
set_option linter.all false
set_option maxRecDepth 100000
set_option maxHeartbeats 4000000
namespace Hk
open PySem PySem.Spec PyProof.Rows L2
def spLRead : Sp := fun vs H Q _ => ∃ (v : V) (d : PyData) (m g sa ra : Addr) (st rk : List Bool), vs = [.ref sa, .ref ra, v] ∧ Dt H m g v d ∧ Okd d ∧ H sa = some (.tup (st.map V.bl)) ∧ H ra = some (.tup (rk.map V.bl)) ∧ st.length ≤ 8 ∧ rk.length ≤ 8 ∧
  ∀ H', Same H H' → Q (.bl (isRead st rk d)) H'
def spLClose : Sp := fun vs H Q _ => ∃ (v : V) (d : PyData) (m g sa ra : Addr) (n : Int) (st rk : List Bool), vs = [.int n, .ref sa, .ref ra, v] ∧ Dt H m g v d ∧ Okd d ∧ n ≤ 8 ∧ H sa = some (.tup (st.map V.bl)) ∧ H ra = some (.tup (rk.map V.bl)) ∧ st.length ≤ 8 ∧ rk.length ≤ 8 ∧
  ∀ H', Same H H' → Q (.bl (isClose n st rk d)) H'
theorem okd_strsL {ws : List Str} (h : ws.all (fun x => (PyData.str x).canLay0) = true) : Okd (.list (ws.map PyData.str)) := by
  have z := okd_strs h
  rw [okd_iff] at z ⊢
  simpa [PyData.canLay0, PyData.depth] using z
theorem rows_false {st rk : List Bool} {d : PyData} (h : isRows (st.length : Int) rk.length d = false) : isRead st rk d = false := by
  cases hT : isT d with
  | false => exact row_not hT
  | true =>
    obtain ⟨ds, rfl⟩ := isT_tup hT
    by_cases c : ds.length = st.length
    · have e : isRows (st.length : Int) rk.length (.tuple ds) = (decide ((ds.length : Int) = st.length) && ds.all (isTL rk.length)) := rfl
      rw [e, decide_eq_true (by omega), Bool.true_and, List.all_eq_false] at h
      obtain ⟨x, hx, hb⟩ := h
      obtain ⟨j, hj, ej⟩ := List.mem_iff_getElem.mp hx
      refine row_false (i := j) (d := x) (by rw [List.getElem?_eq_getElem hj, ej]) ?_
      cases hT2 : isT x with
      | false => exact row_not hT2
      | true =>
        obtain ⟨es, rfl⟩ := isT_tup hT2
        exact row_len (by simpa [isTL] using hb)
    · exact row_len c
theorem rows_true {n : Int} {k : Nat} {d : PyData} (h : isRows n k d = true) : ∃ ds, d = .tuple ds ∧ (ds.length : Int) = n ∧ ∀ (i : Nat) (x : PyData), ds[i]? = some x → ∃ es, x = .tuple es ∧ es.length = k := by
  cases d with
  | tuple ds =>
    simp only [isRows, Bool.and_eq_true, decide_eq_true_eq, List.all_eq_true] at h
    refine ⟨ds, rfl, h.1, fun i x hx => ?_⟩
    have z := h.2 x (List.mem_of_getElem? hx)
    cases x with
    | tuple es => exact ⟨es, rfl, by simpa [isTL] using z⟩
    | _ => simp [isTL] at z
  | _ => simp [isRows] at h
/-- ['w'] if c else [] -/
theorem list_if {c : Bool} {w : Str} {σ : L2.St} {H : Hp} {Q : VK} (k : ∀ p H', Same H H' → H' p = some (.lst ((if c = true then [w] else []).map V.str)) → Q (.ref p) H') :
    if c = true then tLst (tCons (tC (.str w)) tNil) σ H Q else tLst tNil σ H Q := by
  cases c with
  | true => exact iteT ⟨by show 1 ≤ sizeLine; decide, fun p hp => k p _ (same_upd hp) upd_same⟩
  | false => exact iteF ⟨Nat.zero_le _, fun p hp => k p _ (same_upd hp) upd_same⟩
theorem cat_lst {H : Hp} {a b : Addr} {xs ys : List V} {Q : VK} (ha : H a = some (.lst xs)) (hb : H b = some (.lst ys)) (small : xs.length + ys.length ≤ sizeLine) (k : ∀ p H', Same H H' → H' p = some (.lst (xs ++ ys)) → Q (.ref p) H') : rCat (.ref a) (.ref b) H Q :=
  ⟨a, b, xs, ys, rfl, rfl, ha, hb, small, fun p hp => k p _ (same_upd hp) upd_same⟩
section
variable {P : Program} {w : World} {K : PySem.W.Frag} {mg : Str → Option Value} {base : Heap}
abbrev s_law_is_read : Stmt := top 63
theorem sc_law_is_read : FnScope ["stands_so", "ranks_so", "read_so", "stand", "row", "rank", "cell", "choices"] ["stands_so", "ranks_so", "read_so"] (defScope s_law_is_read) := ⟨rfl, rfl, rfl, by decide +kernel, rfl, by decide +kernel, by decide +kernel⟩
theorem ok_law_is_read (T : Txt K mg) (k_law_is_rows : Kn P w K mg base 1 "_law_is_rows" ["some", "many", "width"] spRows) (k_law_is_cell : Kn P w K mg base 2 "_law_is_cell" ["cell", "truths", "choices"] spLCell) (at_ : At K mg "_law_is_read" s_law_is_read ["stands_so", "ranks_so", "read_so"]) : Kn P w K mg base 3 "_law_is_read" ["stands_so", "ranks_so", "read_so"] spLRead := by
  refine Kn.mkN (st := s_law_is_read) (N := ["stands_so", "ranks_so", "read_so", "stand", "row", "rank", "cell", "choices"]) at_ sc_law_is_read (fun vs H Q E h => ?_) (fun f cdv A outer s H vs Q E hr free h => ?_)
  · obtain ⟨v, d, m, g, sa, ra, st, rk, rfl, _⟩ := h
    rfl
  · obtain ⟨v, d, m, g, sa, ra, st, rk, rfl, dt, od, hs, hk, l1, l2, k⟩ := h
    refine ⟨_, (pss_cons (ps_if (pt_not (pt_val (pe_callN k_law_is_rows free (hr.mono (by decide)) rfl passL (pa_cons (pv 2) (pa_cons (pe_callB (id := "len") call_len_seq (by rfl) T.b_len (by decide +kernel) (pa_cons (pv 0) pa_nil)) (pa_cons (pe_callB (id := "len") call_len_seq (by rfl) T.b_len (by decide +kernel) (pa_cons (pv 1) pa_nil)) pa_nil)))))) (pss_one (ps_ret pe_bl)) pss_nil) (pss_cons (ps_for PassesOwn.never rfl (pi_enT (by rfl) T.b_enumerate (pa_cons (pv 2) pa_nil)) (pg_tup rfl (pgs_cons (pg_name (i := 3) sc_law_is_read.nd rfl (Or.inl rfl)) (pgs_cons (pg_name (i := 4) sc_law_is_read.nd rfl (Or.inl rfl)) pgs_nil))) (pss_one (ps_for PassesOwn.never rfl (pi_enT (by rfl) T.b_enumerate (pa_cons (pv 4) pa_nil)) (pg_tup rfl (pgs_cons (pg_name (i := 5) sc_law_is_read.nd rfl (Or.inl rfl)) (pgs_cons (pg_name (i := 6) sc_law_is_read.nd rfl (Or.inl rfl)) pgs_nil))) (pss_cons (ps_set (i := 7) sc_law_is_read.nd rfl (Or.inl rfl) (pe_op op_cat (pe_ifExp (pt_val (pe_ix ix_tup (pv 0) (pv 3) (fun _ _ => rfl))) (pe_lst (pa_cons pe_str pa_nil)) (pe_lst pa_nil)) (pe_ifExp (pt_val (pe_ix ix_tup (pv 1) (pv 5) (fun _ _ => rfl))) (pe_lst (pa_cons pe_str pa_nil)) (pe_lst pa_nil)))) (pss_one (ps_if (pt_not (pt_val (pe_callN k_law_is_cell free (hr.mono (by decide)) rfl passL (pa_cons (pv 6) (pa_cons (pv 0) (pa_cons (pv 7) pa_nil)))))) (pss_one (ps_ret pe_bl)) pss_nil)))))) (pss_one (ps_ret pe_bl)))), ?_⟩
    refine ⟨_, rfl, _, rfl, sa, _, rfl, .inr (SqT.of hs), _, rfl, ra, _, rfl, .inr (SqT.of hk), v, d, m, g, (st.length : Int), rk.length, by rw [List.length_map, List.length_map]; rfl, dt, by omega, fun H1 s1 => ⟨_, rfl, ?_⟩⟩
    cases hR : isRows (st.length : Int) rk.length d with
    | false =>
      have z := k H1 s1
      rw [rows_false hR] at z
      exact iteT z
    | true =>
      obtain ⟨ds, rfl, dl, dr⟩ := rows_true hR
      cases dt with
      | @tup a xs _ hx n1 n2 da =>
      have el := da.len
      refine iteF ⟨_, rfl, a, xs, rfl, SqT.of (s1 _ _ hx), ?_⟩
      refine for_it (walk_enT (xs := xs)) (fun i σ H' => Same H H' ∧ (∃ v3 v4 v5 v6 v7, σ = [some (.ref sa), some (.ref ra), some (.ref a), v3, v4, v5, v6, v7]) ∧ ∀ j d, j < i → ds[j]? = some d → isRowOf rk.length (fun r => isCell st (oldW st "old" j ++ oldW rk "new" r)) d = true)
          ⟨s1, ⟨_, _, _, _, _, rfl⟩, fun j d hj => absurd hj (Nat.not_lt_zero _)⟩ (fun i σ H' _ p => SqT.of (p.1 _ _ hx)) ?_ ?_
      · rintro i x σ H3 H4 hi ⟨s3, ⟨v3, v4, v5, v6, v7, rfl⟩, ok⟩ ⟨Tp, x1, x2, rfl, nT, rfl, hx1, hx2⟩
        cases hx1
        obtain ⟨di, hdi, dti⟩ := da.at' hx2
        have s2 : Same H (upd H3 Tp (.tup [.int (i : Nat), x2])) := same_new s3 nT
        have hTp : upd H3 Tp (.tup [.int (i : Nat), x2]) Tp = some (.tup [.int (i : Nat), x2]) := upd_same
        generalize upd H3 Tp (.tup [.int (i : Nat), x2]) = H2 at s2 hTp ⊢
        refine ⟨Tp, _, rfl, SqT.of hTp, rfl, _, _, rfl, _, _, rfl, rfl, ?_⟩
        have dt2 := dti.same s2
        obtain ⟨es, rfl, c2⟩ := dr i _ hdi
        cases dt2 with
        | @tup b ys _ hy m1 m2 ea =>
        have el2 := ea.len
        have bad : isRowOf rk.length (fun r => isCell st (oldW st "old" i ++ oldW rk "new" r)) (.tuple es) = false → ∀ H', Same H H' → Q (.bl false) H' := fun hb H' s' => by
          have z := k H' s'
          rw [show isRead st rk (.tuple ds) = false from row_false hdi hb] at z
          exact z
        refine ⟨_, rfl, b, ys, rfl, SqT.of hy, ?_⟩
        refine for_it (walk_enT (xs := ys)) (fun r σ H' => Same H2 H' ∧ (∃ v5 v6 v7, σ = [some (.ref sa), some (.ref ra), some (.ref a), some (.int (i : Nat)), some (.ref b), v5, v6, v7]) ∧ ∀ j d, j < r → es[j]? = some d → isCell st (oldW st "old" i ++ oldW rk "new" j) d = true)
                ⟨Same.refl H2, ⟨_, _, _, rfl⟩, fun j d hj => absurd hj (Nat.not_lt_zero _)⟩ (fun r σ H' _ p => SqT.of (p.1 _ _ hy)) ?_ ?_
        · rintro r y σ H5 H6 hr2 ⟨s5, ⟨v5, v6, v7, rfl⟩, ok2⟩ ⟨Tq, y1, y2, rfl, nT2, rfl, hy1, hy2⟩
          cases hy1
          obtain ⟨ei, hei, eti⟩ := ea.at' hy2
          have s4 : Same H2 (upd H5 Tq (.tup [.int (r : Nat), y2])) := same_new s5 nT2
          have hTq : upd H5 Tq (.tup [.int (r : Nat), y2]) Tq = some (.tup [.int (r : Nat), y2]) := upd_same
          generalize upd H5 Tq (.tup [.int (r : Nat), y2]) = H6 at s4 hTq ⊢
          have il : i < st.length := by omega
          have rl : r < rk.length := by omega
          have hs4 := s4 _ _ (s2 _ _ hs)
          have hk4 := s4 _ _ (s2 _ _ hk)
          refine ⟨Tq, _, rfl, SqT.of hTq, rfl, _, _, rfl, _, _, rfl, rfl, ?_⟩
          refine ⟨_, rfl, _, rfl, sa, _, _, .bl (st[i]), rfl, rfl, SqT.of hs4, atI_nat (by rw [List.getElem?_map, List.getElem?_eq_getElem il]; rfl), _, rfl, ?_⟩
          refine list_if (w := "old") (fun p1 H7 s7 hp1 => ?_)
          refine ⟨_, rfl, _, rfl, ra, _, _, .bl (rk[r]), rfl, rfl, SqT.of (s7 _ _ hk4), atI_nat (by rw [List.getElem?_map, List.getElem?_eq_getElem rl]; rfl), _, rfl, ?_⟩
          refine list_if (w := "new") (fun p2 H8 s8 hp2 => ?_)
          have eo : oldW st "old" i = if st[i] = true then [("old" : Str)] else [] := by simp [oldW, il]
          have en : oldW rk "new" r = if rk[r] = true then [("new" : Str)] else [] := by simp [oldW, rl]
          rw [← eo] at hp1
          rw [← en] at hp2
          have s48 : Same H6 H8 := s7.trans s8
          refine cat_lst (s8 _ _ hp1) hp2 ?_ fun p3 H9 s9 hp3 => ?_
          · rw [List.length_map, List.length_map]
            exact Nat.le_of_lt (small1000 (by have := oldW_len st "old" i; have := oldW_len rk "new" r; omega))
          have s49 : Same H6 H9 := s48.trans s9
          refine ⟨_, rfl, _, rfl, _, rfl, y2, ei, m, g, sa, p3, st, oldW st "old" i ++ oldW rk "new" r, rfl, (eti.same s4).same s49, okd_tup (okd_tup od (List.mem_of_getElem? hdi)) (List.mem_of_getElem? hei), s49 _ _ hs4, by rw [hp3, List.map_append], ?_, fun Ha sa' => ⟨_, rfl, ?_⟩⟩
          · refine okd_strsL ?_
            rw [eo, en]
            cases st[i] <;> cases rk[r] <;> decide +kernel
          have s28 : Same H2 Ha := s4.trans (s49.trans sa')
          cases hc : isCell st (oldW st "old" i ++ oldW rk "new" r) ei with
          | false => exact iteT (bad (row_false hei hc) _ (s2.trans s28))
          | true =>
            refine iteF ⟨s28, ⟨_, _, _, rfl⟩, fun j d hj hd => ?_⟩
            by_cases e : j = r
            · subst e
              rw [hei] at hd
              cases hd
              exact hc
            · exact ok2 j d (by omega) hd
        · rintro σ H' ⟨s', ⟨v5, v6, v7, rfl⟩, ok2⟩
          refine ⟨s2.trans s', ⟨_, _, _, _, _, rfl⟩, fun j d hj hd => ?_⟩
          by_cases e : j = i
          · subst e
            rw [hdi] at hd
            cases hd
            exact row_all.mpr ⟨c2, fun j d hd => ok2 j d (by have := (List.getElem?_eq_some_iff.mp hd).1; omega) hd⟩
          · exact ok j d (by omega) hd
      · rintro σ H' ⟨s', _, ok⟩
        have z := k H' s'
        have e2 : isRead st rk (.tuple ds) = true := row_all.mpr ⟨by omega, fun j d hj => ok j d (by have := (List.getElem?_eq_some_iff.mp hj).1; omega) hj⟩
        rw [e2] at z
        exact z
end
end Hk
set_option Elab.async false
set_option linter.all false
set_option maxRecDepth 100000
set_option maxHeartbeats 4000000
namespace Hk
open PySem PySem.Spec PyProof.Rows L2
def ownL (l : Nat) : List Str := if l = 1 then ["self"] else []
theorem both_iff {st rk : List Bool} {es : List PyData} (h : es.length = 2) : isBoth st rk (.tuple es) = true ↔ ∀ (l : Nat) x, es[l]? = some x → isCloseRow st rk (ownL l) x = true := by
  match es, h with
  | [a, b], _ =>
    show (isCloseRow st rk [] a && isCloseRow st rk ["self"] b) = true ↔ _
    rw [Bool.and_eq_true]
    constructor
    · rintro ⟨h1, h2⟩ l x hx
      match l with
      | 0 => simp at hx; subst hx; exact h1
      | 1 => simp at hx; subst hx; exact h2
      | n + 2 => simp at hx
    · intro z
      exact ⟨z 0 a rfl, z 1 b rfl⟩
theorem both_rows {st rk : List Bool} {d : PyData} (h : isRows 2 st.length d = false) : isBoth st rk d = false := by
  cases e : isBoth st rk d with
  | false => rfl
  | true =>
    cases d with
    | tuple es =>
      match es with
      | [a, b] =>
        have z := (both_iff rfl).mp e
        have f : ∀ (l : Nat) (x : PyData), [a, b][l]? = some x → isTL st.length x = true := fun l x hx => by
          have q := z l x hx
          cases x with
          | tuple fs =>
            have := (row_all.mp q).1
            simp [isTL, this]
          | _ => cases q
        have e2 : isRows 2 st.length (.tuple [a, b]) = true := by
          have h0 := f 0 a rfl
          have h1 := f 1 b rfl
          simp [isRows, h0, h1]
        rw [e2] at h
        cases h
      | [] => cases e
      | [_] => cases e
      | _ :: _ :: _ :: _ => cases e
    | _ => cases e
section
variable {P : Program} {w : World} {K : PySem.W.Frag} {mg : Str → Option Value} {base : Heap}
abbrev s_law_is_close : Stmt := top 64
theorem sc_law_is_close : FnScope ["marks", "stands_so", "ranks_so", "close_so", "both", "life", "stand", "cell", "choices"] ["marks", "stands_so", "ranks_so", "close_so"] (defScope s_law_is_close) := ⟨rfl, rfl, rfl, by decide +kernel, rfl, by decide +kernel, by decide +kernel⟩
theorem ok_law_is_close (T : Txt K mg) (k_law_is_rows : Kn P w K mg base 1 "_law_is_rows" ["some", "many", "width"] spRows) (k_law_is_cell : Kn P w K mg base 2 "_law_is_cell" ["cell", "truths", "choices"] spLCell) (at_ : At K mg "_law_is_close" s_law_is_close ["marks", "stands_so", "ranks_so", "close_so"]) : Kn P w K mg base 3 "_law_is_close" ["marks", "stands_so", "ranks_so", "close_so"] spLClose := by
  refine Kn.mkN (st := s_law_is_close) (N := ["marks", "stands_so", "ranks_so", "close_so", "both", "life", "stand", "cell", "choices"]) at_ sc_law_is_close (fun vs H Q E h => ?_) (fun f cdv A outer s H vs Q E hr free h => ?_)
  · obtain ⟨v, d, m, g, sa, ra, n, st, rk, rfl, _⟩ := h
    rfl
  · obtain ⟨v, d, m, g, sa, ra, n, st, rk, rfl, dt, od, n8, hs, hk, l1, l2, k⟩ := h
    refine ⟨_, (pss_cons (ps_if (pt_not (pt_val (pe_callN k_law_is_rows free (hr.mono (by decide)) rfl passL (pa_cons (pv 3) (pa_cons (pv 0) (pa_cons pe_int pa_nil)))))) (pss_one (ps_ret pe_bl)) pss_nil) (pss_cons (ps_for PassesOwn.never rfl (pi_tup (pv 3)) (pg_name (i := 4) sc_law_is_close.nd rfl (Or.inl rfl)) (pss_cons (ps_if (pt_not (pt_val (pe_callN k_law_is_rows free (hr.mono (by decide)) rfl passL (pa_cons (pv 4) (pa_cons pe_int (pa_cons (pe_callB (id := "len") call_len_seq (by rfl) T.b_len (by decide +kernel) (pa_cons (pv 1) pa_nil)) pa_nil)))))) (pss_one (ps_ret pe_bl)) pss_nil) (pss_one (ps_for PassesOwn.never rfl (pi_range1 rfl T.b_range (pa_cons pe_int pa_nil)) (pg_name (i := 5) sc_law_is_close.nd rfl (Or.inl rfl)) (pss_one (ps_for PassesOwn.never rfl (pi_enT (by rfl) T.b_enumerate (pa_cons (pe_ix ix_tup (pv 4) (pv 5) (fun _ _ => rfl)) pa_nil)) (pg_tup rfl (pgs_cons (pg_name (i := 6) sc_law_is_close.nd rfl (Or.inl rfl)) (pgs_cons (pg_name (i := 7) sc_law_is_close.nd rfl (Or.inl rfl)) pgs_nil))) (pss_cons (ps_set (i := 8) sc_law_is_close.nd rfl (Or.inl rfl) (pe_op op_cat (pe_ifExp (pt_val (pe_ix ix_tup (pv 1) (pv 6) (fun _ _ => rfl))) (pe_lst (pa_cons pe_str pa_nil)) (pe_lst pa_nil)) (pe_ifExp (pt_cmpR op_eq (pv 5) pe_int (nomark _)) (pe_lst (pa_cons pe_str pa_nil)) (pe_lst pa_nil)))) (pss_one (ps_if (pt_not (pt_val (pe_callN k_law_is_cell free (hr.mono (by decide)) rfl passL (pa_cons (pv 7) (pa_cons (pv 2) (pa_cons (pv 8) pa_nil)))))) (pss_one (ps_ret pe_bl)) pss_nil))))))))) (pss_one (ps_ret pe_bl)))), ?_⟩
    refine ⟨_, rfl, _, rfl, v, d, m, g, n, 2, rfl, dt, n8, fun H1 s1 => ⟨_, rfl, ?_⟩⟩
    cases hR : isRows n 2 d with
    | false =>
      have z := k H1 s1
      have e : isClose n st rk d = false := by
        cases d with
        | tuple ds =>
          have e1 : isRows n 2 (.tuple ds) = (decide ((ds.length : Int) = n) && ds.all (isTL 2)) := rfl
          have e2 : isClose n st rk (.tuple ds) = (decide ((ds.length : Int) = n) && ds.all (isBoth st rk)) := rfl
          rw [e2]
          rw [e1] at hR
          cases hl : decide ((ds.length : Int) = n) with
          | false => rfl
          | true =>
            rw [hl, Bool.true_and, List.all_eq_false] at hR
            obtain ⟨x, hx, hb⟩ := hR
            rw [Bool.true_and, List.all_eq_false]
            refine ⟨x, hx, fun q => hb ?_⟩
            cases x with
            | tuple es =>
              match es with
              | [a, b] => rfl
              | [] => cases q
              | [_] => cases q
              | _ :: _ :: _ :: _ => cases q
            | _ => cases q
        | _ => rfl
      rw [e] at z
      exact iteT z
    | true =>
      obtain ⟨ds, rfl, dl, dr⟩ := rows_true hR
      cases dt with
      | @tup a xs _ hx n1 n2 da =>
      have el := da.len
      have eC : isClose n st rk (.tuple ds) = (decide ((ds.length : Int) = n) && ds.all (isBoth st rk)) := rfl
      refine iteF ⟨_, rfl, a, rfl, ⟨xs, SqT.of (s1 _ _ hx)⟩, ?_⟩
      refine for_it (walk_tup (xs := xs)) (fun i σ H' => Same H H' ∧ (∃ v4 v5 v6 v7 v8, σ = [some (.int n), some (.ref sa), some (.ref ra), some (.ref a), v4, v5, v6, v7, v8]) ∧ ∀ j d, j < i → ds[j]? = some d → isBoth st rk d = true)
          ⟨s1, ⟨_, _, _, _, _, rfl⟩, fun j d hj => absurd hj (Nat.not_lt_zero _)⟩ (fun i σ H' _ p => SqT.of (p.1 _ _ hx)) ?_ ?_
      · rintro i x σ H3 H2 hi ⟨s3, ⟨v4, v5, v6, v7, v8, rfl⟩, ok⟩ ⟨rfl, hx2⟩
        obtain ⟨di, hdi, dti⟩ := da.at' hx2
        have dt2 := dti.same s3
        have odi : Okd di := okd_tup od (List.mem_of_getElem? hdi)
        have bad : isBoth st rk di = false → ∀ H', Same H H' → Q (.bl false) H' := fun hb H' s' => by
          have z := k H' s'
          rw [eC, show ds.all (isBoth st rk) = false by
            rw [List.all_eq_false]
            exact ⟨di, List.mem_of_getElem? hdi, by rw [hb]; exact Bool.false_ne_true⟩, Bool.and_false] at z
          exact z
        refine ⟨_, rfl, _, rfl, sa, _, rfl, .inr (SqT.of (s3 _ _ hs)), x, di, m, g, 2, st.length, by rw [List.length_map]; rfl, dt2, by decide, fun H4 s4 => ⟨_, rfl, ?_⟩⟩
        have s04 := s3.trans s4
        cases hR2 : isRows 2 st.length di with
        | false => exact iteT (bad (both_rows hR2) _ s04)
        | true =>
          obtain ⟨es, rfl, dl2, dr2⟩ := rows_true hR2
          have el2 : es.length = 2 := by omega
          cases dti with
          | @tup b ys _ hy m1 m2 ea =>
          have eyl := ea.len
          refine iteF ⟨2, rfl, by decide, by decide, ?_⟩
          refine for_it (walk_range (lo := 0) (n := 2)) (fun l σ H' => Same H H' ∧ (∃ v5 v6 v7 v8, σ = [some (.int n), some (.ref sa), some (.ref ra), some (.ref a), some (.ref b), v5, v6, v7, v8]) ∧ ∀ (j : Nat) d, j < l → es[j]? = some d → isCloseRow st rk (ownL j) d = true)
            ⟨s04, ⟨_, _, _, _, rfl⟩, fun j d hj => absurd hj (Nat.not_lt_zero _)⟩ (fun i σ H' _ p => trivial) ?_ ?_
          · rintro l y σ H5 H6 hl ⟨s5, ⟨v5, v6, v7, v8, rfl⟩, ok2⟩ ⟨rfl, hyv⟩
            obtain rfl : y = .int (l : Nat) := hyv.trans (by simp)
            have hl2 : l < ys.length := by omega
            obtain ⟨el_, hel, etl⟩ := ea.at' (i := l) (v := ys[l]) (by rw [List.getElem?_eq_getElem hl2])
            obtain ⟨fs, rfl, fl⟩ := dr2 l _ hel
            have oel : Okd (.tuple fs) := okd_tup odi (List.mem_of_getElem? hel)
            have bad2 : isCloseRow st rk (ownL l) (.tuple fs) = false → ∀ H', Same H H' → Q (.bl false) H' := fun hb => bad (by
              cases e : isBoth st rk (.tuple es) with
              | false => rfl
              | true =>
                have z := (both_iff el2).mp e l _ hel
                rw [hb] at z
                cases z)
            generalize hyl : ys[l] = yl at etl
            cases etl with
            | @tup c zs _ hz m3 m4 fa =>
            have ezl := fa.len
            refine ⟨_, rfl, _, rfl, b, ys, _, .ref c, rfl, rfl, SqT.of (s5 _ _ hy), atI_nat (by rw [List.getElem?_eq_getElem hl2, hyl]), c, zs, rfl, SqT.of (s5 _ _ hz), ?_⟩
            refine for_it (walk_enT (xs := zs)) (fun r σ H' => Same H H' ∧ (∃ v6 v7 v8, σ = [some (.int n), some (.ref sa), some (.ref ra), some (.ref a), some (.ref b), some (.int (l : Nat)), v6, v7, v8]) ∧ ∀ j d, j < r → fs[j]? = some d → isCell rk (oldW st "line" j ++ ownL l) d = true)
                  ⟨s5, ⟨_, _, _, rfl⟩, fun j d hj => absurd hj (Nat.not_lt_zero _)⟩ (fun r σ H' _ p => SqT.of (p.1 _ _ hz)) ?_ ?_
            · rintro r y σ H7 H8 hr2 ⟨s7, ⟨v6, v7, v8, rfl⟩, ok3⟩ ⟨Tq, y1, y2, rfl, nT2, rfl, hy1, hy2⟩
              cases hy1
              obtain ⟨ei, hei, eti⟩ := fa.at' hy2
              have s8 : Same H (upd H7 Tq (.tup [.int (r : Nat), y2])) := same_new s7 nT2
              have hTq : upd H7 Tq (.tup [.int (r : Nat), y2]) Tq = some (.tup [.int (r : Nat), y2]) := upd_same
              generalize upd H7 Tq (.tup [.int (r : Nat), y2]) = H8 at s8 hTq ⊢
              have rl : r < st.length := by omega
              refine ⟨Tq, _, rfl, SqT.of hTq, rfl, _, _, rfl, _, _, rfl, rfl, ?_⟩
              refine ⟨_, rfl, _, rfl, sa, _, _, .bl (st[r]), rfl, rfl, SqT.of (s8 _ _ hs), atI_nat (by rw [List.getElem?_map, List.getElem?_eq_getElem rl]; rfl), _, rfl, ?_⟩
              refine list_if (w := "line") (fun p1 H9 s9 hp1 => ?_)
              refine ⟨_, rfl, rfl, _, rfl, ?_⟩
              refine list_if (w := "self") (fun p2 Ha sa' hp2 => ?_)
              have eo : oldW st "line" r = if st[r] = true then [("line" : Str)] else [] := by simp [oldW, rl]
              have en : ownL l = if decide (V.int (l : Nat) = V.int 1) = true then [("self" : Str)] else [] := by
                unfold ownL
                by_cases c : l = 1
                · subst c
                  rfl
                · rw [if_neg c, decide_eq_false (fun z => c (by have := V.int.inj z; omega))]
                  rfl
              rw [← eo] at hp1
              rw [← en] at hp2
              have ol : (ownL l).length ≤ 1 := by
                unfold ownL
                split <;> simp
              refine cat_lst (sa' _ _ hp1) hp2 ?_ fun p3 Hb sb hp3 => ?_
              · rw [List.length_map, List.length_map]
                exact Nat.le_of_lt (small1000 (by have := oldW_len st "line" r; omega))
              have s8b : Same H Hb := (s8.trans (s9.trans sa')).trans sb
              refine ⟨_, rfl, _, rfl, _, rfl, y2, ei, m, g, ra, p3, rk, oldW st "line" r ++ ownL l, rfl, eti.same s8b, okd_tup oel (List.mem_of_getElem? hei), s8b _ _ hk, by rw [hp3, List.map_append], ?_, fun Hc sc => ⟨_, rfl, ?_⟩⟩
              · refine okd_strsL ?_
                rw [eo, en]
                cases st[r] <;> cases decide (V.int (l : Nat) = V.int 1) <;> decide +kernel
              have s0c : Same H Hc := s8b.trans sc
              cases hc : isCell rk (oldW st "line" r ++ ownL l) ei with
              | false => exact iteT (bad2 (row_false hei hc) _ s0c)
              | true =>
                refine iteF ⟨s0c, ⟨_, _, _, rfl⟩, fun j d hj hd => ?_⟩
                by_cases e : j = r
                · subst e
                  rw [hei] at hd
                  cases hd
                  exact hc
                · exact ok3 j d (by omega) hd
            · rintro σ H' ⟨s', ⟨v6, v7, v8, rfl⟩, ok3⟩
              refine ⟨s', ⟨_, _, _, _, rfl⟩, fun j d hj hd => ?_⟩
              by_cases e : j = l
              · subst e
                rw [hel] at hd
                cases hd
                exact row_all.mpr ⟨by omega, fun j d hd => ok3 j d (by have := (List.getElem?_eq_some_iff.mp hd).1; omega) hd⟩
              · exact ok2 j d (by omega) hd
          · rintro σ H' ⟨s', ⟨v5, v6, v7, v8, rfl⟩, ok2⟩
            refine ⟨s', ⟨_, _, _, _, _, rfl⟩, fun j d hj hd => ?_⟩
            by_cases e : j = i
            · subst e
              rw [hdi] at hd
              cases hd
              exact (both_iff el2).mpr fun l x hx => ok2 l x (by have := (List.getElem?_eq_some_iff.mp hx).1; omega) hx
            · exact ok j d (by omega) hd
      · rintro σ H' ⟨s', _, ok⟩
        have z := k H' s'
        have e2 : isClose n st rk (.tuple ds) = true := by
          rw [eC, decide_eq_true dl, Bool.true_and, List.all_eq_true]
          intro d hd
          obtain ⟨j, hj, e⟩ := List.mem_iff_getElem.mp hd
          exact ok j d (by omega) (by rw [List.getElem?_eq_getElem hj, e])
        rw [e2] at z
        exact z
end
end Hk
set_option Elab.async false
set_option linter.all false
set_option maxRecDepth 100000
set_option maxHeartbeats 4000000
namespace Hk
open PySem PySem.Spec PyProof.Rows L2
section
variable {P : Program} {w : World} {K : PySem.W.Frag} {mg : Str → Option Value} {base : Heap}
abbrev s_law_fault : Stmt := top 65
theorem sc_law_fault : FnScope ["some"] ["some"] (defScope s_law_fault) := ⟨rfl, rfl, rfl, by decide +kernel, rfl, by decide +kernel, by decide +kernel⟩
theorem ok_law_fault (T : Txt K mg) (k_law_is_int : Kn P w K mg base 1 "_law_is_int" ["thing", "low", "high"] (spD1I isBt)) (k_law_are_truths : Kn P w K mg base 1 "_law_are_truths" ["some"] (spD1 isTRow)) (k_law_is_read : Kn P w K mg base 3 "_law_is_read" ["stands_so", "ranks_so", "read_so"] spLRead)
    (k_law_is_close : Kn P w K mg base 3 "_law_is_close" ["marks", "stands_so", "ranks_so", "close_so"] spLClose) (at_ : At K mg "_law_fault" s_law_fault ["some"]) : Kn P w K mg base 4 "_law_fault" ["some"] spFault := by
  refine Kn.mkN (st := s_law_fault) (N := ["some"]) at_ sc_law_fault (fun vs H Q E h => ?_) (fun f cdv A outer s H vs Q E hr free h => ?_)
  · obtain ⟨v, d, m, g, rfl, _⟩ := h
    rfl
  · obtain ⟨v, d, m, g, rfl, dt, od, k⟩ := h
    refine ⟨_, (pss_cons (ps_if (PW.pt (pw_or (pt_not (pt_val (pe_callB (id := "isinstance") (show CallR _ (.builtin "isinstance") (rIsi K) from call_isi) (by rfl) T.b_isinstance (by decide +kernel) (pa_cons (pv 0) (pa_cons (pe_bltn (v := .ty "tuple") (by rfl) T.b_tuple (by decide +kernel) rfl) pa_nil))))) (pw_or (pt_cmpR op_ne (pe_callB (id := "len") call_len_seq (by rfl) T.b_len (by decide +kernel) (pa_cons (pv 0) pa_nil)) pe_int (nomark _)) (pw_or1 (pt_not (pt_val (pe_callN k_law_is_int free (hr.mono (by decide)) rfl passL (pa_cons (pe_ix ix_tup (pv 0) pe_int (fun _ _ => rfl)) (pa_cons pe_int (pa_cons pe_int pa_nil)))))))))) (pss_one (ps_ret pe_str)) pss_nil) (pss_cons (ps_if (PW.pt (pw_or (pt_not (pt_val (pe_callN k_law_are_truths free (hr.mono (by decide)) rfl passL (pa_cons (pe_ix ix_tup (pv 0) pe_int (fun _ _ => rfl)) pa_nil)))) (pw_or1 (pt_val (pe_ix ix_tup (pe_ix ix_tup (pv 0) pe_int (fun _ _ => rfl)) pe_int (fun _ _ => rfl)))))) (pss_one (ps_ret pe_str)) pss_nil) (pss_cons (ps_if (pt_not (pt_val (pe_callN k_law_are_truths free (hr.mono (by decide)) rfl passL (pa_cons (pe_ix ix_tup (pv 0) pe_int (fun _ _ => rfl)) pa_nil)))) (pss_one (ps_ret pe_str)) pss_nil) (pss_cons (ps_if (pt_not (pt_val (pe_callN k_law_is_read free (hr.mono (by decide)) rfl passL (pa_cons (pe_ix ix_tup (pv 0) pe_int (fun _ _ => rfl)) (pa_cons (pe_ix ix_tup (pv 0) pe_int (fun _ _ => rfl)) (pa_cons (pe_ix ix_tup (pv 0) pe_int (fun _ _ => rfl)) pa_nil)))))) (pss_one (ps_ret pe_str)) pss_nil) (pss_one (ps_ret (pe_ifExp (pt_val (pe_callN k_law_is_close free (hr.mono (by decide)) rfl passL (pa_cons (pe_ix ix_tup (pv 0) pe_int (fun _ _ => rfl)) (pa_cons (pe_ix ix_tup (pv 0) pe_int (fun _ _ => rfl)) (pa_cons (pe_ix ix_tup (pv 0) pe_int (fun _ _ => rfl)) (pa_cons (pe_ix ix_tup (pv 0) pe_int (fun _ _ => rfl)) pa_nil)))))) pe_non pe_str))))))), ?_⟩
    refine ⟨_, rfl, v, .ty "tuple", .type (tyN d), .type "tuple", isT d, rfl, .ty _, dt.ty, kit_T dt, _, rfl, ?_⟩
    cases hT : isT d with
    | false =>
      have k' := k H (Same.refl H)
      rw [fault_not hT] at k'
      exact iteT (iteT k')
    | true =>
      obtain ⟨ds, rfl⟩ := isT_tup hT
      cases dt with
      | @tup a xs _ hx n1 n2 da =>
      have el := da.len
      refine iteF ⟨_, rfl, a, xs, rfl, .inr (SqT.of hx), rfl, _, rfl, ?_⟩
      by_cases c : xs.length = 5
      · have ev : (!decide (V.int (xs.length : Int) = V.int 5)) = false := by
          rw [c]
          rfl
        refine (if_neg (by rw [ev]; exact Bool.false_ne_true)).mpr ?_
        obtain ⟨dm, dst, drk, drd, dcl, rfl⟩ := five (el.symm.trans c)
        cases da with
        | @cons vm xs1 _ _ tm da =>
        cases da with
        | @cons vst xs2 _ _ tst da =>
        cases da with
        | @cons vrk xs3 _ _ trk da =>
        cases da with
        | @cons vrd xs4 _ _ trd da =>
        cases da with
        | @cons vcl xs5 _ _ tcl da =>
        cases da
        refine ⟨_, rfl, a, _, 0, vm, rfl, rfl, SqT.of hx, rfl, vm, dm, m, g, 1, 3, rfl, tm, fun H1 s1 => ⟨_, rfl, ?_⟩⟩
        cases hB : isBt 1 3 dm with
        | false =>
          have k' := k H1 s1
          rw [show fault (.tuple [dm, dst, drk, drd, dcl]) = some "form" by simp only [fault, hB]; rfl] at k'
          exact iteT k'
        | true =>
          obtain ⟨n, rfl⟩ : ∃ i, dm = .int i := by cases dm <;> simp_all [isBt]
          have hn : n ≤ 3 := by
            simp [isBt] at hB
            exact hB.2
          cases tm
          refine iteF ⟨_, rfl, a, _, 1, vst, rfl, rfl, SqT.of (s1 _ _ hx), rfl, vst, dst, m, g, rfl, tst.same s1, fun H2 s2 => ⟨_, rfl, ?_⟩⟩
          have s02 := s1.trans s2
          cases hS : isTRow dst with
          | false =>
            have k' := k H2 s02
            rw [show fault (.tuple [.int n, dst, drk, drd, dcl]) = some "stands" by simp only [fault, hB, hS]; rfl] at k'
            exact iteT (iteT k')
          | true =>
            obtain ⟨es, rfl, hl1, hl2, hall⟩ : ∃ es, dst = .tuple es ∧ 1 ≤ es.length ∧ es.length ≤ 8 ∧ es.all isB = true := by
              cases dst <;> simp_all [isTRow]
            cases tst with
            | @tup sa ys _ hsa m1 m2 ea =>
            have eys := bools_of ea hall
            have lst : (boolsOf (.tuple es)).length = es.length := by simp [boolsOf]
            generalize hst : boolsOf (.tuple es) = st at eys lst
            subst eys
            have l0 : 0 < st.length := by omega
            refine iteF ⟨_, rfl, a, _, 1, .ref sa, rfl, rfl, SqT.of (s02 _ _ hx), rfl, sa, _, 0, .bl (st[0]), rfl, rfl, SqT.of (s02 _ _ hsa), by rw [show (0 : Int) = ((0 : Nat) : Int) from rfl]; exact atI_nat (by rw [List.getElem?_map, List.getElem?_eq_getElem l0]; rfl), _, rfl, ?_⟩
            have eg2 : st.getD 0 false = st[0] := by simp [l0]
            cases h0 : st[0] with
            | true =>
              have k' := k H2 s02
              rw [show fault (.tuple [.int n, .tuple es, drk, drd, dcl]) = some "stands" by simp only [fault, hB, hS, hst, eg2, h0]; rfl] at k'
              exact iteT k'
            | false =>
              refine iteF ⟨_, rfl, a, _, 2, vrk, rfl, rfl, SqT.of (s02 _ _ hx), rfl, vrk, drk, m, g, rfl, trk.same s02, fun H3 s3 => ⟨_, rfl, ?_⟩⟩
              have s03 := s02.trans s3
              cases hR : isTRow drk with
              | false =>
                have k' := k H3 s03
                rw [show fault (.tuple [.int n, .tuple es, drk, drd, dcl]) = some "ranks" by simp only [fault, hB, hS, hst, eg2, h0, hR]; rfl] at k'
                exact iteT k'
              | true =>
                obtain ⟨fs, rfl, hl3, hl4, hall2⟩ : ∃ fs, drk = .tuple fs ∧ 1 ≤ fs.length ∧ fs.length ≤ 8 ∧ fs.all isB = true := by
                  cases drk <;> simp_all [isTRow]
                cases trk with
                | @tup ra zs _ hra m3 m4 fa =>
                have ezs := bools_of fa hall2
                have lrk : (boolsOf (.tuple fs)).length = fs.length := by simp [boolsOf]
                generalize hrk : boolsOf (.tuple fs) = rk at ezs lrk
                subst ezs
                have hx3 := s03 _ _ hx
                refine iteF ⟨_, rfl, a, _, 1, .ref sa, rfl, rfl, SqT.of hx3, rfl, _, rfl, a, _, 2, .ref ra, rfl, rfl, SqT.of hx3, rfl, _, rfl, a, _, 3, vrd, rfl, rfl, SqT.of hx3, rfl, vrd, drd, m, g, sa, ra, st, rk, rfl, trd.same s03, okd_tup od (by simp), s03 _ _ hsa, s03 _ _ hra, by omega, by omega, fun H4 s4 => ⟨_, rfl, ?_⟩⟩
                have s04 := s03.trans s4
                cases hD : isRead st rk drd with
                | false =>
                  have k' := k H4 s04
                  rw [show fault (.tuple [.int n, .tuple es, .tuple fs, drd, dcl]) = some "read" by simp only [fault, hB, hS, hst, eg2, h0, hR, hrk, hD]; rfl] at k'
                  exact iteT k'
                | true =>
                  have hx4 := s04 _ _ hx
                  refine iteF ⟨_, rfl, a, _, 0, .int n, rfl, rfl, SqT.of hx4, rfl, _, rfl, a, _, 1, .ref sa, rfl, rfl, SqT.of hx4, rfl, _, rfl, a, _, 2, .ref ra, rfl, rfl, SqT.of hx4, rfl, _, rfl, a, _, 4, vcl, rfl, rfl, SqT.of hx4, rfl, vcl, dcl, m, g, sa, ra, n, st, rk, rfl, tcl.same s04, okd_tup od (by simp), by omega, s04 _ _ hsa, s04 _ _ hra, by omega, by omega, fun H5 s5 => ⟨_, rfl, ?_⟩⟩
                  have s05 := s04.trans s5
                  have k' := k H5 s05
                  cases hC : isClose n st rk dcl with
                  | false =>
                    rw [show fault (.tuple [.int n, .tuple es, .tuple fs, drd, dcl]) = some "close" by simp only [fault, hB, hS, hst, eg2, h0, hR, hrk, hD, hC]; rfl] at k'
                    exact iteF k'
                  | true =>
                    rw [show fault (.tuple [.int n, .tuple es, .tuple fs, drd, dcl]) = none by simp only [fault, hB, hS, hst, eg2, h0, hR, hrk, hD, hC]; rfl] at k'
                    exact iteT k'
      · have ev : (!decide (V.int (xs.length : Int) = V.int 5)) = true := by
          rw [decide_eq_false (fun z => c (by have := V.int.inj z; omega))]
          rfl
        refine (if_pos ev).mpr (iteT ?_)
        have k' := k H (Same.refl H)
        rw [fault_len (by omega)] at k'
        exact k'
end
end Hk
set_option Elab.async false
set_option linter.all false
set_option maxRecDepth 100000
set_option maxHeartbeats 4000000
namespace Hk
open PySem PySem.Spec PyProof.Rows L2
section
variable {P : Program} {w : World} {K : PySem.W.Frag} {mg : Str → Option Value} {base : Heap}
/-! ### _law_mixed -/
abbrev s_law_mixed : Stmt := top 50
theorem sc_law_mixed : FnScope ["cell", "n", "blend"] ["cell", "n"] (defScope s_law_mixed) := ⟨rfl, rfl, rfl, by decide +kernel, rfl, by decide +kernel, by decide +kernel⟩
def sp_mixed : Sp := fun vs H Q _ => ∃ c n : Int, vs = [.int c, .int n] ∧ 0 ≤ n ∧ n < 1000000000000 ∧ ∀ r : Int, 0 ≤ r → r < 1000000000 → Q (.int r) H
theorem ok_mixed (T : Txt K mg) (at_ : At K mg "_law_mixed" s_law_mixed ["cell", "n"]) : Kn P w K mg base 1 "_law_mixed" ["cell", "n"] sp_mixed := by
  refine Kn.mkN (st := s_law_mixed) (N := ["cell", "n", "blend"]) at_ sc_law_mixed (fun vs H Q E h => ?_) (fun f cdv A outer s H vs Q E hr free h => ?_)
  · obtain ⟨c, n, rfl, _⟩ := h
    rfl
  · obtain ⟨c, n, rfl, n0, n1, k⟩ := h
    refine ⟨_, (pss_cons (ps_set (i := 2) sc_law_mixed.nd rfl (Or.inl rfl) (pe_op op_add (pe_op op_add (pe_op op_modN (pe_callTy call_int1 (by rfl) T.b_int (by decide +kernel) (pa_cons (pe_op op_mul (pe_op op_mul (pv 0) (pe_op op_add pe_int (pe_op op_mul pe_int (pv 1)))) pe_int) pa_nil)) pe_int) (pe_op op_mul (pe_op op_mul pe_int (pv 1)) (pv 1))) (pe_op op_mul pe_int (pv 1)))) (pss_one (ps_ret (pe_op op_fdivN (pe_op op_modN (pe_callTy call_int1 (by rfl) T.b_int (by decide +kernel) (pa_cons (pe_op op_mul (pv 2) pe_int) pa_nil)) pe_int) pe_int)))), ?_⟩
    simp only [tSeq, tAsg, tOp, rI0, rI, tCB, tCons, tNil, tC, tVar, gName, tRet, L2.start]
    simp [CMul, CDivN]
    refine ⟨by omega, by omega, k _ ?_ ?_⟩
    · rw [Int.fmod_eq_emod_of_nonneg _ (by decide), Int.fdiv_eq_ediv_of_nonneg _ (by decide)]
      omega
    · rw [Int.fmod_eq_emod_of_nonneg _ (by decide), Int.fdiv_eq_ediv_of_nonneg _ (by decide)]
      omega
/-! ### _law_draw -/
abbrev s_law_draw : Stmt := top 52
theorem sc_law_draw : FnScope ["m", "limit", "n", "lot", "here", "cell"] ["m", "limit"] (defScope s_law_draw) := ⟨rfl, rfl, rfl, by decide +kernel, rfl, by decide +kernel, by decide +kernel⟩
/-- the state from which all is drawn, at m: its cells at c, its great ones at g, n drawn so far -/
structure Dr (H : Hp) (m c g : Addr) (n : Int) : Prop where
  hm : H m = some (.dK [(Sum.inr "cells", .ref c), (Sum.inr "great", .ref g), (Sum.inr "spot", .int n)])
  hc : ∃ cs : List Int, H c = some (.lst (cs.map V.int)) ∧ cs.length = 64
  hg : ∃ gs : List Int, H g = some (.lst (gs.map V.int)) ∧ gs.length ≤ 63
  n0 : 0 ≤ n
  ne : c ≠ g
abbrev drD (c g : Addr) (n : Int) : List (Key × V) := [(Sum.inr "cells", .ref c), (Sum.inr "great", .ref g), (Sum.inr "spot", .int n)]
theorem dr_cells (c g : Addr) (n : Int) : valV (drD c g n) (Sum.inr "cells") = some (.ref c) := rfl
theorem dr_great (c g : Addr) (n : Int) : valV (drD c g n) (Sum.inr "great") = some (.ref g) := rfl
theorem dr_spot (c g : Addr) (n : Int) : valV (drD c g n) (Sum.inr "spot") = some (.int n) := rfl
theorem dr_put (c g : Addr) (n k : Int) : putK (drD c g n) (Sum.inr "spot") (.int k) = drD c g k := rfl
theorem dr_putG (c g g' : Addr) (n : Int) : putK (drD c g n) (Sum.inr "great") (.ref g') = drD c g' n := rfl
theorem eqv_list {xs : List PyData} : PyData.eqv (.list xs) (.list []) = xs.isEmpty := by
  cases xs <;> simp [PyData.eqv, PyData.eqvAll]
theorem dp_ints {K : PySem.W.Frag} {H : Hp} : ∀ ns : List Int, DpAll K H (ns.map V.int) (ns.map PyData.int)
  | [] => .nil
  | n :: ns => .cons (.int n) (dp_ints ns)
theorem shaped_ints : ∀ ns : List Int, PyData.canLayAll0 (ns.map PyData.int) = true
  | [] => rfl
  | n :: ns => by simp [PyData.canLayAll0, PyData.canLay0, shaped_ints ns]
theorem depth_ints : ∀ ns : List Int, PyData.depthAll (ns.map PyData.int) ≤ 1
  | [] => by simp [PyData.depthAll]
  | n :: ns => by
    have := depth_ints ns
    simp [PyData.depthAll, PyData.depth]
    omega
theorem shaped_int_list (ns : List Int) : SeqAt.shaped (.list (ns.map PyData.int)) = true := by
  have := depth_ints ns
  unfold SeqAt.shaped
  simp [PyData.canLay0, shaped_ints, PyData.depth]
  omega
theorem upd3 {H : Hp} {a b : Addr} {o : HO} : upd H a o b = if b = a then some o else H b := rfl
def sp_draw : Sp := fun vs H Q _ => ∃ (m c g : Addr) (n limit : Int), vs = [.ref m, .int limit] ∧ Dr H m c g n ∧ n < 100000000 ∧ 1 ≤ limit ∧ limit < 1000000 ∧
  ∀ (H' : Hp) (r : Int), Kp m g H H' → Dr H' m c g (n + 1) → 0 ≤ r → r < limit → Q (.int r) H'
theorem ok_draw (T : Txt K mg) (k_law_mixed : Kn P w K mg base 1 "_law_mixed" ["cell", "n"] sp_mixed) (at_ : At K mg "_law_draw" s_law_draw ["m", "limit"]) : Kn P w K mg base 2 "_law_draw" ["m", "limit"] sp_draw := by
  refine Kn.mkN (st := s_law_draw) (N := ["m", "limit", "n", "lot", "here", "cell"]) at_ sc_law_draw (fun vs H Q E h => ?_) (fun f cdv A outer s H vs Q E hr free h => ?_)
  · obtain ⟨m, c, g, n, limit, rfl, _⟩ := h
    rfl
  · have hu := hu_of hr
    obtain ⟨m, c, g, n, limit, rfl, dr, n1, l0, l1, k⟩ := h
    refine ⟨_, (pss_cons (ps_set (i := 2) sc_law_draw.nd rfl (Or.inl rfl) (pe_dget hu (pv 0) pe_str (fun _ _ => rfl))) (pss_cons (ps_dput hu (pv 0) pe_str (pe_op op_add (pv 2) pe_int) rfl) (pss_cons (ps_if (pt_cmpR (op_neD hr.units) (pe_dget hu (pv 0) pe_str (fun _ _ => rfl)) (pe_lst pa_nil) (nomark _)) (pss_cons (ps_set (i := 3) sc_law_draw.nd rfl (Or.inl rfl) (pe_dget hu (pv 0) pe_str (fun _ _ => rfl))) (pss_cons (ps_set (i := 4) sc_law_draw.nd rfl (Or.inl rfl) (pe_op op_modN (pe_callTy call_int1 (by rfl) T.b_int (by decide +kernel) (pa_cons (pv 2) pa_nil)) (pe_callB (id := "len") call_len_seq (by rfl) T.b_len (by decide +kernel) (pa_cons (pv 3) pa_nil)))) (pss_cons (ps_set (i := 5) sc_law_draw.nd rfl (Or.inl rfl) (pe_ix ix_list (pv 3) (pv 4) (fun _ _ => rfl))) (pss_one (ps_if (pt_cmpR op_gt (pv 5) pe_int (nomark _)) (pss_cons (ps_asg (pe_op op_fdivN (pv 5) (pv 1)) (pg_sub (pv 3) (pv 4) set_list)) (pss_one (ps_ret (pe_op op_modN (pe_callTy call_int1 (by rfl) T.b_int (by decide +kernel) (pa_cons (pv 5) pa_nil)) (pv 1))))) pss_nil))))) pss_nil) (pss_cons (ps_set (i := 3) sc_law_draw.nd rfl (Or.inl rfl) (pe_dget hu (pv 0) pe_str (fun _ _ => rfl))) (pss_one (ps_ret (pe_op op_modN (pe_callTy call_int1 (by rfl) T.b_int (by decide +kernel) (pa_cons (pe_callN k_law_mixed free (hr.mono (by decide)) rfl passL (pa_cons (pe_callN k_law_mixed free (hr.mono (by decide)) rfl passL (pa_cons (pe_op op_add (pe_ix ix_list (pv 3) (pe_op op_modN (pe_callTy call_int1 (by rfl) T.b_int (by decide +kernel) (pa_cons (pv 2) pa_nil)) pe_int) (fun _ _ => rfl)) (pe_op op_mul pe_int (pe_op op_fdivN (pv 2) pe_int))) (pa_cons (pv 2) pa_nil))) (pa_cons (pe_op op_add (pv 2) pe_int) pa_nil))) pa_nil)) (pv 1)))))))), ?_⟩
    simp only [tSeq, tAsg, tOp, rI0, rI, tCB, tCons, tNil, tC, tVar, gName, tRet, L2.start]
    obtain ⟨hm, ⟨cs, hc, cl⟩, ⟨gs, hg, gl⟩, n0, ncg⟩ := dr
    have mc : c ≠ m := ne_of hc hm (by intro z; cases z)
    have mg' : g ≠ m := ne_of hg hm (by intro z; cases z)
    -- n = m['spot']
    refine ⟨_, rfl, m, .int n, rfl, DGet.k (k := Sum.inr "spot") hm, ?_⟩
    -- m['spot'] = n + 1
    refine ⟨_, rfl, _, _, rfl, rfl, _, rfl, m, _, rfl, DPut.k (k := Sum.inr "spot") hm (by show 3 < sizeLine; decide), ?_⟩
    rw [dr_put]
    -- if m['great'] != []
    refine ⟨_, rfl, m, .ref g, rfl, DGet.k (k := Sum.inr "great") upd_same, ?_⟩
    refine ⟨Nat.zero_le _, fun e he => ?_⟩
    have ce : c ≠ e := ne_of_none (by rw [upd_ne mc]; exact hc) he
    have ge : g ≠ e := ne_of_none (by rw [upd_ne mg']; exact hg) he
    have me : m ≠ e := ne_of_none upd_same he
    refine ⟨.list (gs.map PyData.int), .list [], .lst (.inl (.inl (by rw [upd_ne ge, upd_ne mg']; exact hg))) (dp_ints gs), .lst (.inl (.inl upd_same)) .nil, shaped_int_list gs, rfl, _, rfl, ?_⟩
    have kp0 : Kp m g H (upd (upd H m (.dK (drD c g (n + 1)))) e (.lst [])) := fun x o hx h1 h2 => by
      have xe : x ≠ e := fun z => by
        rw [z] at h1 hx
        rw [upd_ne h1, hx] at he
        cases he
      rw [upd_ne xe, upd_ne h1]
      exact hx
    have dr1 : Dr (upd (upd H m (.dK (drD c g (n + 1)))) e (.lst [])) m c g (n + 1) := ⟨by rw [upd_ne me, upd_same], ⟨cs, by rw [upd_ne ce, upd_ne mc]; exact hc, cl⟩, ⟨gs, by rw [upd_ne ge, upd_ne mg']; exact hg, gl⟩, by omega, ncg⟩
    have hgg : upd (upd H m (.dK (drD c g (n + 1)))) e (.lst []) g = some (.lst (gs.map V.int)) := by rw [upd_ne ge, upd_ne mg']; exact hg
    generalize upd (upd H m (.dK (drD c g (n + 1)))) e (.lst []) = H1 at kp0 dr1 hgg ⊢
    clear he ce ge me
    obtain ⟨hm1, ⟨cs1, hc1, cl1⟩, ⟨gs1, hg1, gl1⟩, n01, _⟩ := dr1
    rw [eqv_list]
    cases gs with
    | nil =>
      refine ⟨_, rfl, m, _, rfl, DGet.k (k := Sum.inr "cells") hm1, ?_⟩
      have md : (0 : Int) ≤ n.fmod 64 ∧ n.fmod 64 < 64 := by
        rw [Int.fmod_eq_emod_of_nonneg _ (by decide)]
        omega
      obtain ⟨j, hj⟩ : ∃ j : Nat, n.fmod 64 = (j : Int) := ⟨(n.fmod 64).toNat, by omega⟩
      have hj2 : j < cs1.length := by omega
      have at1 : atI (cs1.map V.int) (n.fmod 64) = some (V.int cs1[j]) := by rw [hj]; exact atI_nat (by rw [List.getElem?_map, List.getElem?_eq_getElem hj2]; rfl)
      refine ⟨_, rfl, _, rfl, .inl ⟨_, rfl, _, _, rfl, rfl, (by show (64 : Int) ≠ 0; decide), c, _, _, _, rfl, rfl, .inl (.inl hc1), at1, ?_⟩⟩
      refine ⟨_, rfl, _, _, rfl, rfl, ⟨(by decide), (by decide)⟩, _, _, rfl, rfl, ?_⟩
      refine ⟨.inl ⟨by decide, by decide⟩, _, _, rfl, rfl, _, rfl, _, _, rfl, n0, (by omega), fun r1 a1 a2 => ?_⟩
      refine ⟨_, rfl, _, _, rfl, rfl, _, _, rfl, (by omega), (by omega), fun r2 b1 b2 => ?_⟩
      refine .inl ⟨_, rfl, _, rfl, _, _, rfl, rfl, (by omega), ?_⟩
      have rr : 0 ≤ r2.fmod limit ∧ r2.fmod limit < limit := by
        rw [Int.fmod_eq_emod_of_nonneg _ (by omega)]
        exact ⟨Int.emod_nonneg _ (by omega), Int.emod_lt_of_pos _ (by omega)⟩
      exact k _ _ kp0 ⟨hm1, ⟨cs1, hc1, cl1⟩, ⟨gs1, hg1, gl1⟩, n01, ncg⟩ rr.1 rr.2
    | cons g0 gr =>
      refine ⟨_, rfl, m, _, rfl, DGet.k (k := Sum.inr "great") hm1, ?_⟩
      refine ⟨_, rfl, .inl ⟨_, rfl, _, rfl, _, _, rfl, .inl (.inl (.inl hgg)), _, _, rfl, rfl, (by show (((g0 :: gr).map V.int).length : Int) ≠ 0; rw [List.length_map, List.length_cons]; omega), ?_⟩⟩
      have len1 : (((g0 :: gr).map V.int).length : Int) = ((g0 :: gr).length : Int) := by rw [List.length_map]
      rw [len1]
      have hd : 0 ≤ n.fmod ((g0 :: gr).length : Int) ∧ n.fmod ((g0 :: gr).length : Int) < ((g0 :: gr).length : Int) := by
        have pos : (0 : Int) < ((g0 :: gr).length : Int) := by rw [List.length_cons]; omega
        rw [Int.fmod_eq_emod_of_nonneg _ (by omega)]
        exact ⟨Int.emod_nonneg _ (by omega), Int.emod_lt_of_pos _ pos⟩
      obtain ⟨i, hi⟩ : ∃ i : Nat, n.fmod ((g0 :: gr).length : Int) = (i : Int) := ⟨(n.fmod ((g0 :: gr).length : Int)).toNat, by omega⟩
      rw [hi] at hd
      have hil : i < (g0 :: gr).length := by omega
      have at2 : atI ((g0 :: gr).map V.int) (n.fmod ((g0 :: gr).length : Int)) = some (V.int (g0 :: gr)[i]) := by rw [hi]; exact atI_nat (by rw [List.getElem?_map, List.getElem?_eq_getElem hil]; rfl)
      refine ⟨_, rfl, _, rfl, g, _, _, _, rfl, rfl, .inl (.inl hgg), at2, ?_⟩
      refine ⟨_, rfl, _, _, rfl, rfl, _, rfl, ?_⟩
      refine ite2 (fun _ => ?_) (fun _ => ?_)
      · refine ⟨_, rfl, _, rfl, _, _, rfl, rfl, ⟨by omega, by omega⟩, ?_⟩
        refine ⟨_, rfl, _, rfl, g, _, _, i, rfl, rfl, hgg, ?_, ?_⟩
        · show ixN _ (n.fmod ((g0 :: gr).length : Int)) = some i
          rw [hi]
          unfold ixN
          rw [if_pos (by omega), if_pos (by rw [List.length_map]; omega)]
          simp
        refine ⟨_, rfl, .inl ⟨_, rfl, _, rfl, _, _, rfl, rfl, (by show limit ≠ 0; omega), ?_⟩⟩
        have rr : 0 ≤ ((g0 :: gr)[i]).fmod limit ∧ ((g0 :: gr)[i]).fmod limit < limit := by
          rw [Int.fmod_eq_emod_of_nonneg _ (by omega)]
          exact ⟨Int.emod_nonneg _ (by omega), Int.emod_lt_of_pos _ (by omega)⟩
        refine k _ _ (fun x o hx h1 h2 => ?_) ⟨?_, ⟨cs1, ?_, cl1⟩, ⟨(g0 :: gr).set i (((g0 :: gr)[i]).fdiv limit), ?_, ?_⟩, n01, ncg⟩ rr.1 rr.2
        · rw [upd_ne h2]
          exact kp0 x o hx h1 h2
        · rw [upd_ne (Ne.symm mg')]
          exact hm1
        · rw [upd_ne ncg]
          exact hc1
        · rw [upd_same, List.map_set]
        · rw [List.length_set]
          exact gl
      · refine ⟨_, rfl, m, _, rfl, DGet.k (k := Sum.inr "cells") hm1, ?_⟩
        have md : (0 : Int) ≤ n.fmod 64 ∧ n.fmod 64 < 64 := by
          rw [Int.fmod_eq_emod_of_nonneg _ (by decide)]
          omega
        obtain ⟨j, hj⟩ : ∃ j : Nat, n.fmod 64 = (j : Int) := ⟨(n.fmod 64).toNat, by omega⟩
        have hj2 : j < cs1.length := by omega
        have at1 : atI (cs1.map V.int) (n.fmod 64) = some (V.int cs1[j]) := by rw [hj]; exact atI_nat (by rw [List.getElem?_map, List.getElem?_eq_getElem hj2]; rfl)
        refine ⟨_, rfl, _, rfl, .inl ⟨_, rfl, _, _, rfl, rfl, (by show (64 : Int) ≠ 0; decide), c, _, _, _, rfl, rfl, .inl (.inl hc1), at1, ?_⟩⟩
        refine ⟨_, rfl, _, _, rfl, rfl, ⟨(by decide), (by decide)⟩, _, _, rfl, rfl, ?_⟩
        refine ⟨.inl ⟨by decide, by decide⟩, _, _, rfl, rfl, _, rfl, _, _, rfl, n0, (by omega), fun r1 a1 a2 => ?_⟩
        refine ⟨_, rfl, _, _, rfl, rfl, _, _, rfl, (by omega), (by omega), fun r2 b1 b2 => ?_⟩
        refine .inl ⟨_, rfl, _, rfl, _, _, rfl, rfl, (by omega), ?_⟩
        have rr : 0 ≤ r2.fmod limit ∧ r2.fmod limit < limit := by
          rw [Int.fmod_eq_emod_of_nonneg _ (by omega)]
          exact ⟨Int.emod_nonneg _ (by omega), Int.emod_lt_of_pos _ (by omega)⟩
        exact k _ _ kp0 ⟨hm1, ⟨cs1, hc1, cl1⟩, ⟨gs1, hg1, gl1⟩, n01, ncg⟩ rr.1 rr.2
end
end Hk
set_option Elab.async false
set_option linter.all false
set_option maxRecDepth 100000
set_option maxHeartbeats 4000000
namespace Hk
open PySem PySem.Spec PyProof.Rows L2
def spFolded (K : PySem.W.Frag) : Sp := fun vs H Q _ => ∃ (a : Addr) (ns : List Int), vs = [.ref a] ∧ SqL K H a (ns.map V.int) ∧ ns.length ≤ 63 ∧ ∀ (c : Addr) (cs : List Int) (H' : Hp), Same H H' → H c = none → H' c = some (.lst (cs.map V.int)) → cs.length = 64 → Q (.ref c) H'
theorem sql_same {K : PySem.W.Frag} {H H' : Hp} {a : Addr} {xs : List V} (s : Same H H') (h : SqL K H a xs) : SqL K H' a xs :=
  h.imp (fun r => r.imp (fun q => s _ _ q) fun ⟨o, q⟩ => ⟨o, s _ _ q⟩) id
theorem yes_if {σ : L2.St} {H : Hp} {A B : Hp → Prop} (h : A H) : tYes σ H fun b H3 => if b = true then A H3 else B H3 := h
theorem at_ints {ns : List Int} {i : Nat} {x : V} (h : (ns.map V.int)[i]? = some x) : ∃ z : Int, ns[i]? = some z ∧ x = .int z := by
  rw [List.getElem?_map] at h
  cases e : ns[i]? with
  | none => rw [e] at h; cases h
  | some z => rw [e] at h; exact ⟨z, rfl, (Option.some.inj h).symm⟩
theorem ix_ints {cs : List Int} {j : Nat} (h : j < cs.length) : atI (cs.map V.int) (j : Int) = some (.int (cs[j])) := atI_nat (by rw [List.getElem?_map, List.getElem?_eq_getElem h]; rfl)
theorem ixN_nat {n j : Nat} (h : j < n) : ixN n (j : Int) = some j := by
  unfold ixN
  rw [if_pos (by omega), if_pos (by omega)]
  simp
theorem same_set {H H4 : Hp} {D : Addr} {o : HO} (s : Same H H4) (h : H D = none) : Same H (upd H4 D o) := fun b u q => by
  rw [upd_ne (ne_of_none q h)]
  exact s b u q
section
variable {P : Program} {w : World} {K : PySem.W.Frag} {mg : Str → Option Value} {base : Heap}
abbrev s_law_folded : Stmt := top 51
theorem sc_law_folded : FnScope ["script", "found", "n", "cell"] ["script"] (defScope s_law_folded) := ⟨rfl, rfl, rfl, by decide +kernel, rfl, by decide +kernel, by decide +kernel⟩
theorem ok_law_folded (T : Txt K mg) (at_ : At K mg "_law_folded" s_law_folded ["script"]) : Kn P w K mg base 1 "_law_folded" ["script"] (spFolded K) := by
  refine Kn.mkN (st := s_law_folded) (N := ["script", "found", "n", "cell"]) at_ sc_law_folded (fun vs H Q E h => ?_) (fun f cdv A outer s H vs Q E hr free h => ?_)
  · obtain ⟨a, ns, rfl, _⟩ := h
    rfl
  · obtain ⟨a, ns, rfl, ha, l63, k⟩ := h
    refine ⟨_, (pss_cons (ps_setLc (i := 1) (own := [("n", 2)]) (by rfl) sc_law_folded.nd rfl rfl (sw_true rfl rfl rfl (by decide +kernel)) (tt := tYes) (pi_range1 rfl T.b_range (pa_cons pe_int pa_nil)) (blkOk_by (own := [("n", 2)]) (N := ["script", "found", "n", "cell"]) (sc := defScope s_law_folded) (by decide +kernel)) (fun _ _ _ _ _ => pg_name (i := 2) sc_law_folded.nd rfl (Or.inl rfl)) (fun _ _ _ _ _ => pts_nil) (fun _ _ _ _ _ => (pe_op op_add pe_int (pv 2)))) (pss_cons (ps_for PassesOwn.never rfl (pi_enum (by rfl) T.b_enumerate (pa_cons (pv 0) pa_nil)) (pg_tup rfl (pgs_cons (pg_name (i := 2) sc_law_folded.nd rfl (Or.inl rfl)) (pgs_cons (pg_name (i := 3) sc_law_folded.nd rfl (Or.inl rfl)) pgs_nil))) (pss_one (ps_asg (pe_op op_modN (pe_callTy call_int1 (by rfl) T.b_int (by decide +kernel) (pa_cons (pe_op op_add (pe_op op_mul (pe_ix ix_list (pv 1) (pe_op op_modN (pe_callTy call_int1 (by rfl) T.b_int (by decide +kernel) (pa_cons (pv 2) pa_nil)) pe_int) (fun _ _ => rfl)) pe_int) (pv 3)) pa_nil)) pe_int) (pg_sub (pv 1) (pe_op op_modN (pe_callTy call_int1 (by rfl) T.b_int (by decide +kernel) (pa_cons (pv 2) pa_nil)) pe_int) set_list)))) (pss_cons (ps_for PassesOwn.never rfl (pi_range2 (by rfl) T.b_range (pa_cons pe_int (pa_cons pe_int pa_nil))) (pg_name (i := 2) sc_law_folded.nd rfl (Or.inl rfl)) (pss_one (ps_asg (pe_op op_modN (pe_callTy call_int1 (by rfl) T.b_int (by decide +kernel) (pa_cons (pe_op op_add (pe_ix ix_list (pv 1) (pv 2) (fun _ _ => rfl)) (pe_op op_mul (pe_ix ix_list (pv 1) (pe_op op_sub (pv 2) pe_int) (fun _ _ => rfl)) pe_int)) pa_nil)) pe_int) (pg_sub (pv 1) (pv 2) set_list)))) (pss_one (ps_ret (pv 1)))))), ?_⟩
    refine ⟨64, rfl, by decide, by decide, fun D nD => ?_⟩
    refine lc_filt (walk_range (lo := 0) (n := 64)) (fun _ => true) (fun i => .int (17 + (i : Nat))) (fun _ _ => trivial) (fun i H x H' y => by obtain ⟨rfl, _⟩ := y; exact Same.refl _) nD (small_of (k := 64) (by decide) (by decide)) (fun i x H1 H2 Qy Qn hi y s1 q1 q2 => ?_) (fun H1 s1 hD => ?_)
    · obtain ⟨rfl, hy⟩ := y
      obtain rfl : x = .int (i : Nat) := hy.trans (by simp)
      exact ⟨rfl, yes_if ⟨_, rfl, _, _, rfl, rfl, q1 rfl _ (Same.refl _)⟩⟩
    · have hD' : ∃ cs : List Int, H1 D = some (.lst (cs.map V.int)) ∧ cs.length = 64 := ⟨(List.range 64).map fun i => 17 + (i : Nat), by rw [hD, List.filter_eq_self.mpr (fun _ _ => rfl), List.map_map]; rfl, by simp⟩
      have mod64 : ∀ i : Int, ∃ j : Nat, i.fmod 64 = (j : Int) ∧ j < 64 := fun i => ⟨(i.fmod 64).toNat, by rw [Int.fmod_eq_emod_of_nonneg _ (by decide)]; omega, by rw [Int.fmod_eq_emod_of_nonneg _ (by decide)]; omega⟩
      clear hD
      refine ⟨_, rfl, a, _, rfl, sql_same s1 ha, ?_⟩
      refine for_it (walk_enum (xs := ns.map V.int)) (fun i σ H' => Same H H' ∧ (∃ v2 v3, σ = [some (.ref a), some (.ref D), v2, v3]) ∧ ∃ cs : List Int, H' D = some (.lst (cs.map V.int)) ∧ cs.length = 64)
          ⟨s1, ⟨_, _, rfl⟩, hD'⟩ (fun i σ H' _ p => sql_same p.1 ha) ?_ ?_
      · rintro i x σ H2 H3 hi ⟨s2, ⟨v2, v3, rfl⟩, cs, hc, cl⟩ ⟨Tp, x1, x2, rfl, nT, rfl, hx1, hx2⟩
        cases hx1
        obtain ⟨z, hz, rfl⟩ := at_ints hx2
        have s4 : Same H (upd H2 Tp (.tup [.int (i : Nat), .int z])) := same_new s2 nT
        have hTp : upd H2 Tp (.tup [.int (i : Nat), .int z]) Tp = some (.tup [.int (i : Nat), .int z]) := upd_same
        have hc' : upd H2 Tp (.tup [.int (i : Nat), .int z]) D = some (.lst (cs.map V.int)) := by rw [upd_ne (ne_of_none hc nT)]; exact hc
        generalize upd H2 Tp (.tup [.int (i : Nat), .int z]) = H4 at s4 hTp hc' ⊢
        obtain ⟨j, hj, j64⟩ := mod64 (i : Nat)
        refine ⟨Tp, _, rfl, SqT.of hTp, rfl, _, _, rfl, _, _, rfl, rfl, ?_⟩
        have jl : j < cs.length := by omega
        have r1 : atI (cs.map V.int) ((i : Int).fmod 64) = some (.int (cs[j])) := by rw [hj]; exact ix_ints jl
        have r2 : ixN (cs.map V.int).length ((i : Int).fmod 64) = some j := by rw [hj]; exact ixN_nat (by rw [List.length_map]; exact jl)
        refine ⟨_, rfl, _, rfl, .inl ⟨_, rfl, _, _, rfl, rfl, (by show (64 : Int) ≠ 0; decide), D, _, _, _, rfl, rfl, SqL.of hc', r1, ?_⟩⟩
        refine ⟨_, _, rfl, rfl, .inr (by decide), ?_⟩
        refine ⟨_, rfl, _, _, rfl, rfl, .inl ⟨_, rfl, _, _, rfl, rfl, (by show (2147483647 : Int) ≠ 0; decide), ?_⟩⟩
        refine ⟨_, rfl, _, rfl, .inl ⟨_, rfl, _, _, rfl, rfl, (by show (64 : Int) ≠ 0; decide), D, _, _, j, rfl, rfl, hc', r2, ?_⟩⟩
        exact ⟨same_set s4 nD, ⟨_, _, rfl⟩, cs.set j _, by rw [upd_same, List.map_set], by rw [List.length_set]; exact cl⟩
      · rintro σ H2 ⟨s2, ⟨v2, v3, rfl⟩, hD2⟩
        refine ⟨1, 64, rfl, by decide, ?_⟩
        refine for_it (walk_range (lo := 1) (n := 63)) (fun i σ H' => Same H H' ∧ (∃ v2, σ = [some (.ref a), some (.ref D), v2, v3]) ∧ ∃ cs : List Int, H' D = some (.lst (cs.map V.int)) ∧ cs.length = 64)
          ⟨s2, ⟨_, rfl⟩, hD2⟩ (fun i σ H' _ p => trivial) ?_ ?_
        · rintro i x σ H3 H4 hi ⟨s3, ⟨v2, rfl⟩, cs, hc, cl⟩ ⟨rfl, hy⟩
          obtain rfl : x = .int ((i + 1 : Nat) : Int) := hy.trans (by simp; omega)
          have j1 : i + 1 < cs.length := by omega
          have j0 : i < cs.length := by omega
          have r0 : atI (cs.map V.int) (((i + 1 : Nat) : Int) - 1) = some (.int (cs[i])) := by rw [show ((i + 1 : Nat) : Int) - 1 = (i : Int) by omega]; exact ix_ints j0
          refine ⟨_, rfl, _, rfl, D, _, _, _, rfl, rfl, SqL.of hc, ix_ints j1, _, rfl, _, rfl, _, _, rfl, rfl, D, _, _, _, rfl, rfl, SqL.of hc, r0, ?_⟩
          refine ⟨_, _, rfl, rfl, .inr (by decide), ?_⟩
          refine ⟨_, _, rfl, rfl, .inl ⟨_, rfl, _, _, rfl, rfl, (by show (2147483647 : Int) ≠ 0; decide), ?_⟩⟩
          refine ⟨_, rfl, _, rfl, D, _, _, i + 1, rfl, rfl, hc, ixN_nat (by rw [List.length_map]; exact j1), ?_⟩
          exact ⟨same_set s3 nD, ⟨_, rfl⟩, cs.set (i + 1) _, by rw [upd_same, List.map_set], by rw [List.length_set]; exact cl⟩
        · rintro σ H3 ⟨s3, ⟨v2, rfl⟩, cs, hc, cl⟩
          exact ⟨_, rfl, k D cs H3 s3 nD hc cl⟩
end
end Hk
set_option Elab.async false
set_option linter.all false
set_option maxRecDepth 100000
set_option maxHeartbeats 4000000
namespace Hk
open PySem PySem.Spec PyProof.Rows L2
def spBegun (K : PySem.W.Frag) : Sp := fun vs H Q _ => ∃ (a : Addr) (ns : List Int), vs = [.ref a] ∧ SqL K H a (ns.map V.int) ∧ ns.length ≤ 63 ∧ ∀ (m c g : Addr) (H' : Hp), Same H H' → H m = none → H g = none → Dr H' m c g 0 → Q (.ref m) H'
section
variable {P : Program} {w : World} {K : PySem.W.Frag} {mg : Str → Option Value} {base : Heap}
abbrev s_law_begun : Stmt := top 53
theorem sc_law_begun : FnScope ["script", "m", "cell"] ["script"] (defScope s_law_begun) := ⟨rfl, rfl, rfl, by decide +kernel, rfl, by decide +kernel, by decide +kernel⟩
theorem ok_law_begun (T : Txt K mg) (k_law_folded : Kn P w K mg base 1 "_law_folded" ["script"] (spFolded K)) (at_ : At K mg "_law_begun" s_law_begun ["script"]) : Kn P w K mg base 2 "_law_begun" ["script"] (spBegun K) := by
  refine Kn.mkN (st := s_law_begun) (N := ["script", "m", "cell"]) at_ sc_law_begun (fun vs H Q E h => ?_) (fun f cdv A outer s H vs Q E hr free h => ?_)
  · obtain ⟨a, ns, rfl, _⟩ := h
    rfl
  · have hu := hu_of hr
    obtain ⟨a, ns, rfl, ha, l63, k⟩ := h
    refine ⟨_, (pss_cons (ps_set (i := 1) sc_law_begun.nd rfl (Or.inl rfl) (pe_disp (pps_cons pe_str (pe_callN k_law_folded free (hr.mono (by decide)) rfl passL (pa_cons (pv 0) pa_nil)) (pps_cons pe_str (pe_lst pa_nil) (pps_cons pe_str pe_int pps_nil))) (by rfl) (by rfl) (fun z => by cases z) (by decide))) (pss_cons (ps_dput hu (pv 1) pe_str (pe_lc (own := [("cell", 2)]) (by rfl) sc_law_begun.nd (tt := tYes) (pi_list (pv 0)) (blkOk_by (own := [("cell", 2)]) (N := ["script", "m", "cell"]) (sc := defScope s_law_begun) (by decide +kernel)) (fun _ _ _ _ _ => pg_name (i := 2) sc_law_begun.nd rfl (Or.inl rfl)) (fun _ _ _ _ _ => pts_nil) (fun _ _ _ _ _ => (pe_ifExp (pt_cmpR op_ge (pv 2) (pe_op op_pow pe_int pe_int) (nomark _)) (pv 2) pe_int))) rfl) (pss_one (ps_ret (pv 1))))), ?_⟩
    intro m nm
    have hmm : upd H m (.dK []) m = some (.dK []) := upd_same
    have s0 : Same H (upd H m (.dK [])) := same_upd nm
    have ham := sql_same s0 ha
    generalize upd H m (.dK []) = H0 at ham hmm s0 ⊢
    refine ⟨_, rfl, a, ns, rfl, ham, l63, fun c cs H1 s1 nc hc cl => ?_⟩
    refine ⟨Nat.zero_le _, fun g ng => ?_⟩
    have hm1 := s1 _ _ hmm
    have ncm : c ≠ m := fun z => by rw [z, hmm] at nc; cases nc
    have ngm : g ≠ m := fun z => by rw [z, hm1] at ng; cases ng
    have ngc : g ≠ c := fun z => by rw [z, hc] at ng; cases ng
    have ngH : H g = none := by
      cases e : H g with
      | none => rfl
      | some o => rw [s1 _ _ (s0 _ _ e)] at ng; cases ng
    refine ⟨by rw [upd_ne (Ne.symm ngm)]; exact hm1, [(.inr "cells", .ref c), (.inr "great", .ref g), (.inr "spot", .int 0)], rfl, (by show 3 ≤ 15; decide), ?_⟩
    have hm2 : upd (upd H1 g (.lst [])) m (.dK (mergeK [] [(.inr "cells", .ref c), (.inr "great", .ref g), (.inr "spot", .int 0)])) m = some (.dK (drD c g 0)) := upd_same
    have s2 : Same H (upd (upd H1 g (.lst [])) m (.dK (mergeK [] [(.inr "cells", .ref c), (.inr "great", .ref g), (.inr "spot", .int 0)]))) := same_set (same_set (s0.trans s1) ngH) nm
    have hc2 : upd (upd H1 g (.lst [])) m (.dK (mergeK [] [(.inr "cells", .ref c), (.inr "great", .ref g), (.inr "spot", .int 0)])) c = some (.lst (cs.map V.int)) := by rw [upd_ne ncm, upd_ne (Ne.symm ngc)]; exact hc
    generalize upd (upd H1 g (.lst [])) m (.dK (mergeK [] [(.inr "cells", .ref c), (.inr "great", .ref g), (.inr "spot", .int 0)])) = H2 at hm2 s2 hc2 ⊢
    refine ⟨_, rfl, a, rfl, ⟨_, sql_same s2 ha⟩, fun D nD => ?_⟩
    refine lc_filt (walk_list (xs := ns.map V.int)) (fun _ => true) (fun i => .int (((ns[i]?).map fun z => if (10 : Int) ^ 18 ≤ z then z else 0).getD 0)) (fun H' s' => sql_same (s2.trans s') ha) (fun i H x H' y => by obtain ⟨rfl, _⟩ := y; exact Same.refl _) nD (by rw [List.length_map]; exact small_of (k := 63) l63 (by decide)) (fun i x H3 H4 Qy Qn hi y s3 q1 q2 => ?_) (fun H3 s3 hD => ?_)
    · obtain ⟨rfl, hy⟩ := y
      obtain ⟨z, hz, rfl⟩ := at_ints hy
      have q1' := q1 rfl _ (Same.refl _)
      rw [hz] at q1'
      refine ⟨rfl, yes_if ⟨_, rfl, _, _, rfl, rfl, by unfold CPow; decide, _, _, rfl, rfl, _, rfl, ?_⟩⟩
      by_cases c18 : (10 : Int) ^ 18 ≤ z
      · refine (if_pos (decide_eq_true c18)).mpr ⟨_, rfl, ?_⟩
        rw [Option.map_some, if_pos c18] at q1'
        exact q1'
      · refine (if_neg (by simpa using c18)).mpr ?_
        rw [Option.map_some, if_neg c18] at q1'
        exact q1'
    · have hD' : ∃ gs : List Int, H3 D = some (.lst (gs.map V.int)) ∧ gs.length ≤ 63 := ⟨(List.range (ns.map V.int).length).map fun i => (((ns[i]?).map fun z => if (10 : Int) ^ 18 ≤ z then z else 0).getD 0), by rw [hD, List.filter_eq_self.mpr (fun _ _ => rfl), List.map_map]; rfl, by simpa using l63⟩
      obtain ⟨gs, hg, gl⟩ := hD'
      have Dm : D ≠ m := fun z => by rw [z, hm2] at nD; cases nD
      have Dc : D ≠ c := fun z => by rw [z, hc2] at nD; cases nD
      have DH : H D = none := by
        cases e : H D with
        | none => rfl
        | some o => rw [s2 _ _ e] at nD; cases nD
      refine ⟨_, rfl, m, _, rfl, DPut.k (k := Sum.inr "great") (s3 _ _ hm2) (by show 3 < sizeLine; decide), ?_⟩
      rw [dr_putG]
      refine ⟨_, rfl, k m c D _ (same_set (s2.trans s3) nm) nm DH ⟨upd_same, ⟨cs, by rw [upd_ne ncm]; exact s3 _ _ hc2, cl⟩, ⟨gs, by rw [upd_ne Dm]; exact hg, gl⟩, by decide, Ne.symm Dc⟩⟩
end
end Hk
set_option Elab.async false
set_option linter.all false
set_option maxRecDepth 100000
set_option maxHeartbeats 4000000
namespace Hk
open PySem PySem.Spec PyProof.Rows L2
def spOf : Sp := fun vs H Q _ => ∃ (m c g l : Addr) (n : Int) (xs : List V), vs = [.ref m, .ref l] ∧ Dr H m c g n ∧ n < 100000000 ∧ H l = some (.lst xs) ∧ l ≠ m ∧ l ≠ g ∧ 1 ≤ xs.length ∧ xs.length < 1000 ∧
  ∀ (H' : Hp) (x : V), Kp m g H H' → Dr H' m c g (n + 1) → x ∈ xs → Q x H'
def newW (w : Str) (t : Bool) : List Str := if t = true then [w] else []
theorem Dr.keep {H H' : Hp} {m c g : Addr} {n : Int} (d : Dr H m c g n) (k : Same H H') : Dr H' m c g n := by
  obtain ⟨hm, ⟨cs, hc, cl⟩, ⟨gs, hg, gl⟩, n0, ne⟩ := d
  exact ⟨k _ _ hm, ⟨cs, k _ _ hc, cl⟩, ⟨gs, k _ _ hg, gl⟩, n0, ne⟩
theorem Dr.ne_m {H : Hp} {m c g p : Addr} {n : Int} (d : Dr H m c g n) (h : H p = none) : p ≠ m := fun z => by rw [z, d.hm] at h; cases h
theorem Dr.ne_g {H : Hp} {m c g p : Addr} {n : Int} (d : Dr H m c g n) (h : H p = none) : p ≠ g := fun z => by
  obtain ⟨gs, hg, _⟩ := d.hg
  rw [z, hg] at h
  cases h
theorem cat_lstN {H : Hp} {a b : Addr} {xs ys : List V} {Q : VK} (ha : H a = some (.lst xs)) (hb : H b = some (.lst ys)) (small : xs.length + ys.length ≤ sizeLine) (k : ∀ p H', H p = none → Same H H' → H' p = some (.lst (xs ++ ys)) → Q (.ref p) H') : rCat (.ref a) (.ref b) H Q :=
  ⟨a, b, xs, ys, rfl, rfl, ha, hb, small, fun p hp => k p _ hp (same_upd hp) upd_same⟩
/-- the places of the truths that are b -/
def placesV (st : List Bool) (b : Bool) : List V := ((List.range st.length).filter fun i => st.getD i false == b).map fun i => .int (i : Nat)
theorem places_mem {st : List Bool} {b : Bool} {x : V} (h : x ∈ placesV st b) : ∃ i : Nat, i < st.length ∧ st.getD i false = b ∧ x = .int (i : Nat) := by
  unfold placesV at h
  simp only [List.mem_map, List.mem_filter, List.mem_range, beq_iff_eq] at h
  obtain ⟨i, ⟨h1, h2⟩, h3⟩ := h
  exact ⟨i, h1, h2, h3.symm⟩
theorem places_len {st : List Bool} {b : Bool} (h : b ∈ st) : 1 ≤ (placesV st b).length ∧ (placesV st b).length ≤ st.length := by
  unfold placesV
  rw [List.length_map]
  refine ⟨?_, Nat.le_trans (List.length_filter_le _ _) (by simp)⟩
  obtain ⟨i, hi, e⟩ := List.mem_iff_getElem.mp h
  exact List.length_pos_iff_exists_mem.mpr ⟨i, List.mem_filter.mpr ⟨List.mem_range.mpr hi, by simp [hi, e]⟩⟩
theorem pick_cell {st : List Bool} {ws : List Str} {i : Nat} {w : Str} {b : Bool} (h1 : i < st.length) (h2 : st.getD i false = b) (hw : inW (if b then ws else ["none"]) (.str w) = true) : isCell st ws (.tuple [.int (i : Nat), .str w]) = true := by
  show (decide (0 ≤ (i : Int)) && decide ((i : Int) ≤ (st.length : Int) - 1) && (if st.getD (i : Int).toNat false then inW ws (.str w) else inW ["none"] (.str w))) = true
  rw [decide_eq_true (by omega), decide_eq_true (by omega), Int.toNat_natCast, h2]
  cases b <;> exact hw
section
variable {P : Program} {w : World} {K : PySem.W.Frag} {mg : Str → Option Value} {base : Heap}
/-- the places of the truths that are b, gathered -/
def tNs (K : PySem.W.Frag) (tt : TT) : TE := tLc (iRng1 (tCons (tCB (fun xs H Q => ∃ p ys, xs = [V.ref p] ∧ (SqL K H p ys ∨ SqT K H p ys) ∧ Q (V.int (ys.length : Int)) H) (tCons (tVar 1) tNil)) tNil)) (gName 5) tt (tVar 5) [5]
def tTrue (K : PySem.W.Frag) : TT := tB (tOp (rIxL K) (tVar 1) (tVar 5))
theorem ns_ok {K : PySem.W.Frag} {b : Bool} {tt : TT} {H : Hp} {m l : Addr} {a2 a3 a4 v5 : Option V} {st : List Bool} {Q : VK} (hl : H l = some (.lst (st.map V.bl))) (st8 : st.length ≤ 8)
    (htt : ∀ (i : Nat) (H' : Hp) (R : Bool → Hp → Prop), i < st.length → Same H H' → R (st.getD i false == b) H' → tt [some (.ref m), some (.ref l), a2, a3, a4, some (.int (i : Nat))] H' R)
    (q : ∀ D H', H D = none → Same H H' → H' D = some (.lst (placesV st b)) → Q (.ref D) H') : tNs K tt [some (.ref m), some (.ref l), a2, a3, a4, v5] H Q := by
  refine ⟨_, rfl, l, _, rfl, .inl (SqL.of hl), (st.length : Int), by rw [List.length_map], by omega, by omega, fun D nD => ?_⟩
  rw [show ((st.length : Int)).toNat = st.length by omega]
  refine lc_filt (walk_range (lo := 0) (n := st.length)) (fun i => st.getD i false == b) (fun i => .int (i : Nat)) (fun _ _ => trivial) (fun i H x H' y => by obtain ⟨rfl, _⟩ := y; exact Same.refl _) nD (small_of (k := 8) st8 (by decide)) (fun i x H1 H2 Qy Qn hi y s1 q1 q2 => ?_) (fun H1 s1 hD => q D H1 nD s1 hD)
  obtain ⟨rfl, hy⟩ := y
  obtain rfl : x = .int (i : Nat) := hy.trans (by simp)
  refine ⟨rfl, htt i _ _ hi s1 ?_⟩
  cases hb : (st.getD i false == b) with
  | true => exact iteT ⟨_, rfl, q1 hb _ (Same.refl _)⟩
  | false => exact iteF (q2 hb _ (Same.refl _))
theorem tt_true {K : PySem.W.Frag} {H H' : Hp} {m l : Addr} {a2 a3 a4 : Option V} {st : List Bool} {i : Nat} {R : Bool → Hp → Prop} (hl : H l = some (.lst (st.map V.bl))) (hi : i < st.length) (s : Same H H') (r : R (st.getD i false) H') :
    tTrue K [some (.ref m), some (.ref l), a2, a3, a4, some (.int (i : Nat))] H' R := by
  have e : st.getD i false = st[i] := by simp [hi]
  rw [e] at r
  exact ⟨_, rfl, _, rfl, l, _, _, .bl (st[i]), rfl, rfl, SqL.of (s _ _ hl), atI_nat (by rw [List.getElem?_map, List.getElem?_eq_getElem hi]; rfl), _, rfl, r⟩
def tCellA (K : PySem.W.Frag) : TS := tRet (tTup (tCons (tCall spOf [] E0 (tCons (tVar 0) (tCons (tNs K (tTrue K)) tNil))) (tCons (tCall spOf [] E0 (tCons (tVar 0) (tCons (tVar 4) tNil))) tNil)))
def tCellB (K : PySem.W.Frag) : TS := tRet (tTup (tCons (tCall spOf [] E0 (tCons (tVar 0) (tCons (tNs K (tNot (tTrue K))) tNil))) (tCons (tC (.str "none")) tNil)))
def tCell (K : PySem.W.Frag) : TS := tSeq (tIfS (tAnd (tTest (tOp (rNeD K) (tVar 4) (tLst tNil))) (tAnd (tTest (tOp (rIn K false) (tC (.bl true)) (tVar 1))) (tTest (tOp (rI0 fun i j => .bl (decide (j < i))) (tCall sp_draw [] E0 (tCons (tVar 0) (tCons (tC (.int 8)) tNil))) (tC (.int 0)))))) (tCellA K) tNext) (tCellB K)
theorem cell_ok {K : PySem.W.Frag} {R : Ends} {H : Hp} {m c g l pw : Addr} {a2 a3 v5 : Option V} {st : List Bool} {ws : List Str} {n : Int} (dr : Dr H m c g n) (n1 : n < 90000000) (hl : H l = some (.lst (st.map V.bl))) (lm : l ≠ m) (lg : l ≠ g) (st8 : st.length ≤ 8) (ht : true ∈ st) (hf : false ∈ st)
    (hw : H pw = some (.lst (ws.map V.str))) (wm : pw ≠ m) (wg : pw ≠ g) (w2 : ws.length ≤ 2) (wOk : Okd (.list (ws.map PyData.str)))
    (k : ∀ (H' : Hp) (n' : Int) (v : V) (d : PyData), Kp m g H H' → Dr H' m c g n' → n ≤ n' → n' ≤ n + 3 → Dt H' m g v d → isCell st ws d = true → R.rt v H') :
    tCell K R [some (.ref m), some (.ref l), a2, a3, some (.ref pw), v5] H := by
  have fin : ∀ (H1 : Hp) (n1 : Int) (i : Nat) (w : Str) (b : Bool), Kp m g H H1 → Dr H1 m c g n1 → n ≤ n1 → n1 ≤ n + 3 → i < st.length → st.getD i false = b → inW (if b then ws else ["none"]) (.str w) = true → ∀ p, H1 p = none → R.rt (.ref p) (upd H1 p (.tup [.int (i : Nat), .str w])) := by
    intro H1 n1 i w b kp d1 h1 h2 h3 h4 h5 p hp
    have pm := d1.ne_m hp
    have pg := d1.ne_g hp
    exact k _ n1 _ _ (kp.trans (Kp.of (same_upd hp))) (d1.keep (same_upd hp)) h1 h2 (.tup upd_same pm pg (.cons (.int _) (.cons (.str _) .nil))) (pick_cell h3 h4 h5)
  have other : ∀ (H1 : Hp) (n2 : Int), Kp m g H H1 → Dr H1 m c g n2 → n ≤ n2 → n2 ≤ n + 1 → tCellB K R [some (.ref m), some (.ref l), a2, a3, some (.ref pw), v5] H1 := by
    intro H1 n2 kp d1 h1 h2
    refine ⟨_, rfl, ?_⟩
    refine ns_ok (b := false) (kp _ _ hl lm lg) st8 (fun i H' R hi s' r => ?_) (fun D H2 nD s2 hD => ?_)
    · exact tt_true (kp _ _ hl lm lg) hi s' (by
        show R (!(st.getD i false)) H'
        cases e : st.getD i false <;> rw [e] at r <;> exact r)
    · have d2 := d1.keep s2
      have pl := places_len hf
      refine ⟨m, c, g, D, n2, _, rfl, d2, by omega, hD, d1.ne_m nD, d1.ne_g nD, pl.1, by omega, fun H3 x kp3 d3 hx => ?_⟩
      obtain ⟨i, hi, e, rfl⟩ := places_mem hx
      exact ⟨by show 2 ≤ sizeLine; decide, fin H3 _ i "none" false ((kp.trans (Kp.of s2)).trans kp3) d3 (by omega) (by omega) hi e (show inW ["none"] (.str "none") = true by decide +kernel)⟩
  refine ⟨_, rfl, Nat.zero_le _, fun e he => ?_⟩
  have se := same_upd (o := .lst []) he
  have hee : upd H e (.lst []) e = some (.lst []) := upd_same
  generalize upd H e (.lst []) = H0 at se hee ⊢
  refine ⟨.list (ws.map PyData.str), .list [], .lst (SqL.of (se _ _ hw)) (dp_strs ws), .lst (SqL.of hee) .nil, wOk, rfl, _, rfl, ?_⟩
  rw [eqv_list]
  have dr0 := dr.keep se
  by_cases hws : ws = []
  · refine (if_neg (by rw [hws]; simp)).mpr ?_
    exact other H0 n (Kp.of se) dr0 (by omega) (by omega)
  · have w1 : 1 ≤ ws.length := List.length_pos_iff.mpr hws
    have e0 : (!(ws.map PyData.str).isEmpty) = true := by
      cases ws with
      | nil => exact absurd rfl hws
      | cons a b => rfl
    refine (if_pos e0).mpr ⟨_, rfl, l, _, rfl, .inl (SqL.of (se _ _ hl)), rfl, by simp [flatV], _, rfl, ?_⟩
    have eT : (if false = true then !inV (.bl true) (st.map V.bl) else inV (.bl true) (st.map V.bl)) = true := by
      show inV (.bl true) (st.map V.bl) = true
      unfold inV
      rw [List.any_eq_true]
      exact ⟨.bl true, List.mem_map.mpr ⟨true, ht, rfl⟩, by decide⟩
    rw [eT]
    refine iteT ⟨_, rfl, m, c, g, n, 8, rfl, dr0, by omega, by decide, by decide, fun H1 r kp1 dr1 r0 r1 => ?_⟩
    have kp01 := (Kp.of se).trans kp1
    refine ⟨_, _, rfl, rfl, _, rfl, ?_⟩
    by_cases rp : 0 < r
    · refine (if_pos (decide_eq_true rp)).mpr ?_
      refine ⟨_, rfl, ?_⟩
      refine ns_ok (b := true) (kp01 _ _ hl lm lg) st8 (fun i H' R hi s' r => ?_) (fun D H2 nD s2 hD => ?_)
      · exact tt_true (kp01 _ _ hl lm lg) hi s' (by cases e : st.getD i false <;> rw [e] at r <;> exact r)
      · have d2 := dr1.keep s2
        have pl := places_len ht
        refine ⟨m, c, g, D, n + 1, _, rfl, d2, by omega, hD, dr1.ne_m nD, dr1.ne_g nD, pl.1, by omega, fun H3 x kp3 d3 hx => ?_⟩
        obtain ⟨i, hi, e, rfl⟩ := places_mem hx
        have kp03 := (kp01.trans (Kp.of s2)).trans kp3
        refine ⟨_, rfl, _, rfl, m, c, g, pw, n + 1 + 1, _, rfl, d3, by omega, kp03 _ _ hw wm wg, wm, wg, by rw [List.length_map]; exact w1, by rw [List.length_map]; omega, fun H4 y kp4 d4 hy => ?_⟩
        obtain ⟨w, hwm, rfl⟩ := List.mem_map.mp hy
        exact ⟨by show 2 ≤ sizeLine; decide, fin H4 _ i w true (kp03.trans kp4) d4 (by omega) (by omega) hi e (List.any_eq_true.mpr ⟨w, hwm, by simp⟩)⟩
    · exact (if_neg (by simpa using rp)).mpr (other H1 (n + 1) kp01 dr1 (by omega) (by omega))
abbrev s_law_of : Stmt := top 55
theorem sc_law_of : FnScope ["m", "some"] ["m", "some"] (defScope s_law_of) := ⟨rfl, rfl, rfl, by decide +kernel, rfl, by decide +kernel, by decide +kernel⟩
theorem ok_law_of (T : Txt K mg) (k_law_draw : Kn P w K mg base 2 "_law_draw" ["m", "limit"] sp_draw) (at_ : At K mg "_law_of" s_law_of ["m", "some"]) : Kn P w K mg base 3 "_law_of" ["m", "some"] spOf := by
  refine Kn.mkN (st := s_law_of) (N := ["m", "some"]) at_ sc_law_of (fun vs H Q E h => ?_) (fun f cdv A outer s H vs Q E hr free h => ?_)
  · obtain ⟨m, c, g, l, n, xs, rfl, _⟩ := h
    rfl
  · obtain ⟨m, c, g, l, n, xs, rfl, dr, n1, hl, lm, lg, l1, l2, k⟩ := h
    refine ⟨_, (pss_one (ps_ret (pe_ix ix_list (pv 1) (pe_callN k_law_draw free (hr.mono (by decide)) rfl passL (pa_cons (pv 0) (pa_cons (pe_callB (id := "len") call_len_seq (by rfl) T.b_len (by decide +kernel) (pa_cons (pv 1) pa_nil)) pa_nil))) (fun _ _ => rfl)))), ?_⟩
    refine ⟨_, rfl, _, rfl, _, rfl, l, xs, rfl, .inl (SqL.of hl), m, c, g, n, _, rfl, dr, n1, by omega, by omega, fun H' r kp dr' r0 r1 => ?_⟩
    obtain ⟨j, rfl⟩ : ∃ j : Nat, r = (j : Int) := ⟨r.toNat, by omega⟩
    have hj : j < xs.length := by omega
    exact ⟨l, xs, _, xs[j], rfl, rfl, SqL.of (kp _ _ hl lm lg), atI_nat (List.getElem?_eq_getElem hj), k H' _ kp dr' (List.getElem_mem hj)⟩
abbrev s_law_read_cell : Stmt := top 58
theorem sc_law_read_cell : FnScope ["m", "stands_so", "stand", "truth", "words", "n"] ["m", "stands_so", "stand", "truth"] (defScope s_law_read_cell) := ⟨rfl, rfl, rfl, by decide +kernel, rfl, by decide +kernel, by decide +kernel⟩
def spReadCell : Sp := fun vs H Q _ => ∃ (m c g l : Addr) (n : Int) (s : Nat) (t : Bool) (st : List Bool), vs = [.ref m, .ref l, .int s, .bl t] ∧ Dr H m c g n ∧ n < 90000000 ∧ H l = some (.lst (st.map V.bl)) ∧ l ≠ m ∧ l ≠ g ∧ s < st.length ∧ st.length ≤ 8 ∧ true ∈ st ∧ false ∈ st ∧
  ∀ (H' : Hp) (n' : Int) (v : V) (d : PyData), Kp m g H H' → Dr H' m c g n' → n ≤ n' → n' ≤ n + 3 → Dt H' m g v d → isCell st (oldW st "old" s ++ newW "new" t) d = true → Q v H'
theorem ok_law_read_cell (T : Txt K mg) (k_law_draw : Kn P w K mg base 2 "_law_draw" ["m", "limit"] sp_draw) (k_law_of : Kn P w K mg base 3 "_law_of" ["m", "some"] spOf) (at_ : At K mg "_law_read_cell" s_law_read_cell ["m", "stands_so", "stand", "truth"]) : Kn P w K mg base 4 "_law_read_cell" ["m", "stands_so", "stand", "truth"] spReadCell := by
  refine Kn.mkN (st := s_law_read_cell) (N := ["m", "stands_so", "stand", "truth", "words", "n"]) at_ sc_law_read_cell (fun vs H Q E h => ?_) (fun f cdv A outer s_ H vs Q E hr free h => ?_)
  · obtain ⟨m, c, g, l, n, s, t, st, rfl, _⟩ := h
    rfl
  · obtain ⟨m, c, g, l, n, s, t, st, rfl, dr, n1, hl, lm, lg, sl, st8, ht, hf, k⟩ := h
    refine ⟨_, (pss_cons (ps_set (i := 4) sc_law_read_cell.nd rfl (Or.inl rfl) (pe_op op_cat (pe_ifExp (pt_val (pe_ix ix_list (pv 1) (pv 2) (fun _ _ => rfl))) (pe_lst (pa_cons pe_str pa_nil)) (pe_lst pa_nil)) (pe_ifExp (pt_val (pv 3)) (pe_lst (pa_cons pe_str pa_nil)) (pe_lst pa_nil)))) (pss_cons (ps_if (PW.pt (pw_and (pt_cmpR (op_neD hr.units) (pv 4) (pe_lst pa_nil) (nomark _)) (pw_and (pt_cmpR op_in_seq pe_bl (pv 1) (by rfl)) (pw_and1 (pt_cmpR op_gt (pe_callN k_law_draw free (hr.mono (by decide)) rfl passL (pa_cons (pv 0) (pa_cons pe_int pa_nil))) pe_int (nomark _)))))) (pss_one (ps_ret (pe_tup (pa_cons (pe_callN k_law_of free (hr.mono (by decide)) rfl passL (pa_cons (pv 0) (pa_cons (pe_lc (own := [("n", 5)]) (by rfl) sc_law_read_cell.nd (pi_range1 rfl T.b_range (pa_cons (pe_callB (id := "len") call_len_seq (by rfl) T.b_len (by decide +kernel) (pa_cons (pv 1) pa_nil)) pa_nil)) (blkOk_by (own := [("n", 5)]) (N := ["m", "stands_so", "stand", "truth", "words", "n"]) (sc := defScope s_law_read_cell) (by decide +kernel)) (fun _ _ _ _ _ => pg_name (i := 5) sc_law_read_cell.nd rfl (Or.inl rfl)) (fun _ _ _ _ _ => (pts_one (pt_val (pe_ix (ix_list : IxR _ (rIxL K)) (pv 1) (pv 5) (fun _ _ => rfl))))) (fun _ _ _ _ _ => (pv 5))) pa_nil))) (pa_cons (pe_callN k_law_of free (hr.mono (by decide)) rfl passL (pa_cons (pv 0) (pa_cons (pv 4) pa_nil))) pa_nil))))) pss_nil) (pss_one (ps_ret (pe_tup (pa_cons (pe_callN k_law_of free (hr.mono (by decide)) rfl passL (pa_cons (pv 0) (pa_cons (pe_lc (own := [("n", 5)]) (by rfl) sc_law_read_cell.nd (pi_range1 rfl T.b_range (pa_cons (pe_callB (id := "len") call_len_seq (by rfl) T.b_len (by decide +kernel) (pa_cons (pv 1) pa_nil)) pa_nil)) (blkOk_by (own := [("n", 5)]) (N := ["m", "stands_so", "stand", "truth", "words", "n"]) (sc := defScope s_law_read_cell) (by decide +kernel)) (fun _ _ _ _ _ => pg_name (i := 5) sc_law_read_cell.nd rfl (Or.inl rfl)) (fun _ _ _ _ _ => (pts_one (pt_not (pt_val (pe_ix (ix_list : IxR _ (rIxL K)) (pv 1) (pv 5) (fun _ _ => rfl)))))) (fun _ _ _ _ _ => (pv 5))) pa_nil))) (pa_cons pe_str pa_nil))))))), ?_⟩
    refine ⟨_, rfl, _, rfl, l, _, _, .bl (st[s]), rfl, rfl, SqL.of hl, atI_nat (by rw [List.getElem?_map, List.getElem?_eq_getElem sl]; rfl), _, rfl, ?_⟩
    refine list_if (w := "old") (fun p1 H1 s1 hp1 => ?_)
    refine ⟨_, rfl, _, rfl, ?_⟩
    refine list_if (w := "new") (fun p2 H2 s2 hp2 => ?_)
    have eo : oldW st "old" s = if st[s] = true then [("old" : Str)] else [] := by simp [oldW, sl]
    rw [← eo] at hp1
    refine cat_lstN (s2 _ _ hp1) hp2 ?_ fun p3 H3 np3 s3 hp3 => ?_
    · rw [List.length_map, List.length_map]
      exact Nat.le_of_lt (small1000 (by have := oldW_len st "old" s; cases t <;> simp <;> omega))
    rw [← List.map_append] at hp3
    have s03 := (s1.trans s2).trans s3
    have dr2 := dr.keep (s1.trans s2)
    have p3m := dr2.ne_m np3
    have p3g := dr2.ne_g np3
    have dr3 := dr2.keep s3
    have hl3 := s03 _ _ hl
    have owl : (oldW st "old" s).length ≤ 1 := oldW_len st "old" s
    have eW : (oldW st "old" s ++ if t = true then [("new" : Str)] else []) = oldW st "old" s ++ newW "new" t := rfl
    rw [eW] at hp3
    have wl : (oldW st "old" s ++ newW "new" t).length ≤ 2 := by
      rw [List.length_append]
      unfold newW
      cases t <;> simp <;> omega
    have wOk : Okd (.list ((oldW st "old" s ++ newW "new" t).map PyData.str)) := by
      refine okd_strsL ?_
      rw [eo]
      unfold newW
      cases st[s] <;> cases t <;> decide +kernel
    generalize (oldW st "old" s ++ newW "new" t) = ws at hp3 wl wOk k
    clear hp1 hp2 eW s1 s2 s3 np3 dr2 eo dr
    exact cell_ok (K := K) (R := { nx := fun x H' => Q V.non H', rt := Q }) dr3 n1 hl3 lm lg st8 ht hf hp3 p3m p3g wl wOk fun H' n' v d kp d' h1 h2 dt hc => k H' n' v d ((Kp.of s03).trans kp) d' h1 h2 dt hc
abbrev s_law_close_cell : Stmt := top 59
theorem sc_law_close_cell : FnScope ["m", "ranks_so", "truth", "is_alive", "words", "n"] ["m", "ranks_so", "truth", "is_alive"] (defScope s_law_close_cell) := ⟨rfl, rfl, rfl, by decide +kernel, rfl, by decide +kernel, by decide +kernel⟩
def spCloseCell : Sp := fun vs H Q _ => ∃ (m c g l : Addr) (n : Int) (t u : Bool) (st : List Bool), vs = [.ref m, .ref l, .bl t, .bl u] ∧ Dr H m c g n ∧ n < 90000000 ∧ H l = some (.lst (st.map V.bl)) ∧ l ≠ m ∧ l ≠ g ∧ st.length ≤ 8 ∧ true ∈ st ∧ false ∈ st ∧
  ∀ (H' : Hp) (n' : Int) (v : V) (d : PyData), Kp m g H H' → Dr H' m c g n' → n ≤ n' → n' ≤ n + 3 → Dt H' m g v d → isCell st (newW "line" t ++ newW "self" u) d = true → Q v H'
theorem ok_law_close_cell (T : Txt K mg) (k_law_draw : Kn P w K mg base 2 "_law_draw" ["m", "limit"] sp_draw) (k_law_of : Kn P w K mg base 3 "_law_of" ["m", "some"] spOf) (at_ : At K mg "_law_close_cell" s_law_close_cell ["m", "ranks_so", "truth", "is_alive"]) : Kn P w K mg base 4 "_law_close_cell" ["m", "ranks_so", "truth", "is_alive"] spCloseCell := by
  refine Kn.mkN (st := s_law_close_cell) (N := ["m", "ranks_so", "truth", "is_alive", "words", "n"]) at_ sc_law_close_cell (fun vs H Q E h => ?_) (fun f cdv A outer s_ H vs Q E hr free h => ?_)
  · obtain ⟨m, c, g, l, n, t, u, st, rfl, _⟩ := h
    rfl
  · obtain ⟨m, c, g, l, n, t, u, st, rfl, dr, n1, hl, lm, lg, st8, ht, hf, k⟩ := h
    refine ⟨_, (pss_cons (ps_set (i := 4) sc_law_close_cell.nd rfl (Or.inl rfl) (pe_op op_cat (pe_ifExp (pt_val (pv 2)) (pe_lst (pa_cons pe_str pa_nil)) (pe_lst pa_nil)) (pe_ifExp (pt_val (pv 3)) (pe_lst (pa_cons pe_str pa_nil)) (pe_lst pa_nil)))) (pss_cons (ps_if (PW.pt (pw_and (pt_cmpR (op_neD hr.units) (pv 4) (pe_lst pa_nil) (nomark _)) (pw_and (pt_cmpR op_in_seq pe_bl (pv 1) (by rfl)) (pw_and1 (pt_cmpR op_gt (pe_callN k_law_draw free (hr.mono (by decide)) rfl passL (pa_cons (pv 0) (pa_cons pe_int pa_nil))) pe_int (nomark _)))))) (pss_one (ps_ret (pe_tup (pa_cons (pe_callN k_law_of free (hr.mono (by decide)) rfl passL (pa_cons (pv 0) (pa_cons (pe_lc (own := [("n", 5)]) (by rfl) sc_law_close_cell.nd (pi_range1 rfl T.b_range (pa_cons (pe_callB (id := "len") call_len_seq (by rfl) T.b_len (by decide +kernel) (pa_cons (pv 1) pa_nil)) pa_nil)) (blkOk_by (own := [("n", 5)]) (N := ["m", "ranks_so", "truth", "is_alive", "words", "n"]) (sc := defScope s_law_close_cell) (by decide +kernel)) (fun _ _ _ _ _ => pg_name (i := 5) sc_law_close_cell.nd rfl (Or.inl rfl)) (fun _ _ _ _ _ => (pts_one (pt_val (pe_ix (ix_list : IxR _ (rIxL K)) (pv 1) (pv 5) (fun _ _ => rfl))))) (fun _ _ _ _ _ => (pv 5))) pa_nil))) (pa_cons (pe_callN k_law_of free (hr.mono (by decide)) rfl passL (pa_cons (pv 0) (pa_cons (pv 4) pa_nil))) pa_nil))))) pss_nil) (pss_one (ps_ret (pe_tup (pa_cons (pe_callN k_law_of free (hr.mono (by decide)) rfl passL (pa_cons (pv 0) (pa_cons (pe_lc (own := [("n", 5)]) (by rfl) sc_law_close_cell.nd (pi_range1 rfl T.b_range (pa_cons (pe_callB (id := "len") call_len_seq (by rfl) T.b_len (by decide +kernel) (pa_cons (pv 1) pa_nil)) pa_nil)) (blkOk_by (own := [("n", 5)]) (N := ["m", "ranks_so", "truth", "is_alive", "words", "n"]) (sc := defScope s_law_close_cell) (by decide +kernel)) (fun _ _ _ _ _ => pg_name (i := 5) sc_law_close_cell.nd rfl (Or.inl rfl)) (fun _ _ _ _ _ => (pts_one (pt_not (pt_val (pe_ix (ix_list : IxR _ (rIxL K)) (pv 1) (pv 5) (fun _ _ => rfl)))))) (fun _ _ _ _ _ => (pv 5))) pa_nil))) (pa_cons pe_str pa_nil))))))), ?_⟩
    refine ⟨_, rfl, _, rfl, ?_⟩
    refine list_if (w := "line") (fun p1 H1 s1 hp1 => ?_)
    refine ⟨_, rfl, _, rfl, ?_⟩
    refine list_if (w := "self") (fun p2 H2 s2 hp2 => ?_)
    refine cat_lstN (s2 _ _ hp1) hp2 ?_ fun p3 H3 np3 s3 hp3 => ?_
    · rw [List.length_map, List.length_map]
      exact Nat.le_of_lt (small1000 (by cases t <;> cases u <;> decide))
    rw [← List.map_append] at hp3
    have s03 := (s1.trans s2).trans s3
    have dr2 := dr.keep (s1.trans s2)
    have p3m := dr2.ne_m np3
    have p3g := dr2.ne_g np3
    have dr3 := dr2.keep s3
    have hl3 := s03 _ _ hl
    have eW : ((if t = true then [("line" : Str)] else []) ++ if u = true then [("self" : Str)] else []) = newW "line" t ++ newW "self" u := rfl
    rw [eW] at hp3
    have wl : (newW "line" t ++ newW "self" u).length ≤ 2 := by
      unfold newW
      cases t <;> cases u <;> decide
    have wOk : Okd (.list ((newW "line" t ++ newW "self" u).map PyData.str)) := by
      refine okd_strsL ?_
      unfold newW
      cases t <;> cases u <;> decide +kernel
    generalize (newW "line" t ++ newW "self" u) = ws at hp3 wl wOk k
    exact cell_ok (K := K) (R := { nx := fun x H' => Q V.non H', rt := Q }) dr3 n1 hl3 lm lg st8 ht hf hp3 p3m p3g wl wOk fun H' n' v d kp d' h1 h2 dt hc => k H' n' v d ((Kp.of s03).trans kp) d' h1 h2 dt hc
end
end Hk
set_option Elab.async false
set_option linter.all false
set_option maxRecDepth 100000
set_option maxHeartbeats 4000000
namespace Hk
open PySem PySem.Spec PyProof.Rows L2
mutual
/-- no list is in it -/
def noL : PyData → Bool
  | .list _ | .dict _ => false
  | .tuple ds => noLA ds
  | _ => true
def noLA : List PyData → Bool
  | [] => true
  | d :: ds => noL d && noLA ds
end
theorem noLA_all {ds : List PyData} : noLA ds = ds.all noL := by
  induction ds with
  | nil => rfl
  | cons d ds ih => simp [noLA, ih]
mutual
theorem Dt.keepT {H H' : Hp} {m g : Addr} (k : ∀ a xs, H a = some (.tup xs) → a ≠ m → a ≠ g → H' a = some (.tup xs)) : ∀ {v : V} {d : PyData}, noL d = true → Dt H m g v d → Dt H' m g v d
  | _, _, _, .non => .non
  | _, _, _, .bl b => .bl b
  | _, _, _, .int i => .int i
  | _, _, _, .str x => .str x
  | _, _, n, .lst h h1 h2 a => by simp [noL] at n
  | _, _, n, .tup h h1 h2 a => .tup (k _ _ h h1 h2) h1 h2 (DtA.keepT k (by simpa [noL] using n) a)
theorem DtA.keepT {H H' : Hp} {m g : Addr} (k : ∀ a xs, H a = some (.tup xs) → a ≠ m → a ≠ g → H' a = some (.tup xs)) : ∀ {vs : List V} {ds : List PyData}, noLA ds = true → DtA H m g vs ds → DtA H' m g vs ds
  | _, _, _, .nil => .nil
  | _, _, n, .cons h t => by
    simp only [noLA, Bool.and_eq_true] at n
    exact .cons (Dt.keepT k n.1 h) (DtA.keepT k n.2 t)
end
theorem DtA.snoc {H : Hp} {m g : Addr} : ∀ {vs : List V} {ds : List PyData} {v : V} {d : PyData}, DtA H m g vs ds → Dt H m g v d → DtA H m g (vs ++ [v]) (ds ++ [d])
  | _, _, _, _, .nil, h => .cons h .nil
  | _, _, _, _, .cons a t, h => .cons a (DtA.snoc t h)
theorem noLA_snoc {ds : List PyData} {d : PyData} (h : noLA ds = true) (h2 : noL d = true) : noLA (ds ++ [d]) = true := by
  rw [noLA_all] at h ⊢
  rw [List.all_append, h]
  simp [h2]
/-- a list that grows, its items data without lists -/
structure Grow (H : Hp) (m g D : Addr) (i : Nat) (p : Nat → PyData → Prop) (ds : List PyData) : Prop where
  ex : ∃ acc, H D = some (.lst acc) ∧ DtA H m g acc ds
  nl : noLA ds = true
  len : ds.length = i
  ok : ∀ (j : Nat) d, ds[j]? = some d → p j d
theorem Grow.keep {H H' : Hp} {m g D : Addr} {i : Nat} {p : Nat → PyData → Prop} {ds : List PyData} (G : Grow H m g D i p ds) (k : Kp m g H H') (dm : D ≠ m) (dg : D ≠ g) : Grow H' m g D i p ds := by
  obtain ⟨acc, h, da⟩ := G.ex
  exact ⟨⟨acc, k _ _ h dm dg, da.keep k⟩, G.nl, G.len, G.ok⟩
theorem Grow.put {H : Hp} {m g D : Addr} {i : Nat} {p : Nat → PyData → Prop} {ds : List PyData} {v : V} {d : PyData} (G : Grow H m g D i p ds) (dt : Dt H m g v d) (nl : noL d = true) (pd : p i d) : ∀ acc, H D = some (.lst acc) → Grow (upd H D (.lst (acc ++ [v]))) m g D (i + 1) p (ds ++ [d]) := by
  intro acc h
  obtain ⟨acc', h', da⟩ := G.ex
  obtain rfl : acc' = acc := by
    rw [h] at h'
    cases h'
    rfl
  have keep : ∀ a xs, H a = some (.tup xs) → a ≠ m → a ≠ g → upd H D (.lst (acc' ++ [v])) a = some (.tup xs) := fun a xs ha _ _ => by
    rw [upd_ne (fun z => by rw [z, h] at ha; cases ha)]
    exact ha
  refine ⟨⟨acc' ++ [v], upd_same, (da.keepT keep G.nl).snoc (dt.keepT keep nl)⟩, noLA_snoc G.nl nl, by rw [List.length_append, G.len]; rfl, fun j e he => ?_⟩
  by_cases c : j < ds.length
  · rw [List.getElem?_append_left c] at he
    exact G.ok j e he
  · have l : j = i := by
      have := (List.getElem?_eq_some_iff.mp he).1
      rw [List.length_append] at this
      have e1 : ([d] : List PyData).length = 1 := rfl
      have := G.len
      omega
    subst l
    rw [List.getElem?_append_right (by omega), G.len, Nat.sub_self] at he
    cases he
    exact pd
theorem kp_set {m g D : Addr} {H H4 : Hp} {o : HO} (s : Kp m g H H4) (h : H D = none) : Kp m g H (upd H4 D o) := fun b u q h1 h2 => by
  rw [upd_ne (ne_of_none q h)]
  exact s b u q h1 h2
theorem Dr.set {H : Hp} {m c g D : Addr} {n : Int} {o : HO} (d : Dr H m c g n) (h1 : D ≠ m) (h2 : D ≠ c) (h3 : D ≠ g) : Dr (upd H D o) m c g n := by
  obtain ⟨hm, ⟨cs, hc, cl⟩, ⟨gs, hg, gl⟩, n0, ne⟩ := d
  exact ⟨by rw [upd_ne (Ne.symm h1)]; exact hm, ⟨cs, by rw [upd_ne (Ne.symm h2)]; exact hc, cl⟩, ⟨gs, by rw [upd_ne (Ne.symm h3)]; exact hg, gl⟩, n0, ne⟩
theorem Dr.ne_c {H : Hp} {m c g p : Addr} {n : Int} (d : Dr H m c g n) (h : H p = none) : p ≠ c := fun z => by
  obtain ⟨cs, hc, _⟩ := d.hc
  rw [z, hc] at h
  cases h
/-- a comprehension whose step draws -/
theorem lc_draw {J : It} {n : Nat} {G : Hp → Prop} {Y : Nat → Hp → V → Hp → Prop} (w : Walk J n G Y) {m c g D : Addr} {gt : TG} {te : TE} {own : List Nat} {σ : L2.St} {H1 : Hp} {Qd : Hp → Prop} {n0 : Int} {k : Int} (p : Nat → PyData → Prop) (k0 : 0 ≤ k) (dr : Dr H1 m c g n0) (hG : ∀ H, Kp m g H1 H → G H) (hY : ∀ i H x H', Y i H x H' → H' = H) (nD : H1 D = none) (small : n < sizeLine)
    (step : ∀ (i : Nat) x H (n' : Int) (Q' : VK), i < n → Y i H x H → Kp m g H1 H → Dr H m c g n' → n0 ≤ n' → n' ≤ n0 + k * (i : Int) → (∀ H4 n4 v d, Kp m g H H4 → Dr H4 m c g n4 → n' ≤ n4 → n4 ≤ n' + k → Dt H4 m g v d → noL d = true → p i d → Q' v H4) → gt x (wipe σ own) H fun σ2 H2 => wipe σ2 own = wipe σ own ∧ te σ2 H2 Q')
    (hd : ∀ H n' ds, Kp m g H1 H → Dr H m c g n' → n0 ≤ n' → n' ≤ n0 + k * (n : Int) → Grow H m g D n p ds → Qd H) :
    ∃ W : Nat → Nat → Hp → Prop, (∃ m, W 0 m (upd H1 D (.lst []))) ∧ ∀ i m H, W i m H →
      (J.stop i H ∧ Qd H) ∨ (J.go i H ∧ ∃ Nx : Hp → Prop, (∀ H', Nx H' → ∃ m', m' < m ∧ W (i + 1) m' H') ∧ ∀ x H', J.yld i H x H' → gt x (wipe σ own) H' fun σ2 H2 => wipe σ2 own = wipe σ own ∧ tYes σ2 H2 fun b H3 =>
        if b = true then te σ2 H3 fun y H4 => ∃ acc, H4 D = some (.lst acc) ∧ acc.length < sizeLine ∧ Nx (upd H4 D (.lst (acc ++ [y]))) else Nx H3) := by
  have dm := dr.ne_m nD
  have dc := dr.ne_c nD
  have dg := dr.ne_g nD
  refine lc_it w (fun i H => Kp m g H1 H ∧ ∃ n' ds, Dr H m c g n' ∧ n0 ≤ n' ∧ n' ≤ n0 + k * (i : Int) ∧ Grow H m g D i p ds) ⟨Kp.of (same_upd nD), n0, [], dr.set dm dc dg, by omega, by simp, ⟨⟨[], upd_same, .nil⟩, rfl, rfl, fun j d h => by simp at h⟩⟩ (fun i H _ q => hG H q.1) ?_ (fun H ⟨q1, n', ds, q2, q3, q4, q5⟩ => hd H n' ds q1 q2 q3 q4 q5)
  rintro i x H H' hi ⟨kp, n', ds, d1, h1, h2, gr⟩ y
  have := hY i H x H' y
  subst this
  refine step i x H' n' (fun y H4 => ∃ acc, H4 D = some (.lst acc) ∧ acc.length < sizeLine ∧ Kp m g H1 (upd H4 D (.lst (acc ++ [y]))) ∧ ∃ n' ds, Dr (upd H4 D (.lst (acc ++ [y]))) m c g n' ∧ n0 ≤ n' ∧ n' ≤ n0 + k * ((i + 1 : Nat) : Int) ∧ Grow (upd H4 D (.lst (acc ++ [y]))) m g D (i + 1) p ds) hi y kp d1 h1 h2 fun H4 n4 v d kp4 d4 h3 h4 dt nl pd => ?_
  have gr4 := gr.keep kp4 dm dg
  obtain ⟨acc, ha, da⟩ := gr4.ex
  refine ⟨acc, ha, by have := da.len; have := gr4.len; omega, kp_set (kp.trans kp4) nD, n4, ds ++ [d], d4.set dm dc dg, by omega, ?_, gr4.put dt nl pd acc ha⟩
  rw [show ((i + 1 : Nat) : Int) = (i : Int) + 1 by omega, Int.mul_add, Int.mul_one]
  omega
end Hk
set_option Elab.async false
set_option linter.all false
set_option maxRecDepth 100000
set_option maxHeartbeats 4000000
namespace Hk
open PySem PySem.Spec PyProof.Rows L2
theorem Kp.keepR {a b p : Addr} {H H' : Hp} {o : HO} (k : Kp a b H H') (h : H p = some o) (na : p ≠ a) (nb : p ≠ b) : H' p = some o := k p o h na nb
/-- [False, True] + [a draw == 0 for ..] -/
theorem truths_ok {H : Hp} {m c g : Addr} {n lim : Int} {v1 v2 v3 v4 v5 v6 v7 v8 v9 v10 v11 v12 v13 : Option V} {Q : VK} (dr : Dr H m c g n) (n1 : n < 1100) (l1 : 1 ≤ lim) (l3 : lim ≤ 3)
    (q : ∀ (p : Addr) (H' : Hp) (n' : Int) (tr : List Bool), Kp m g H H' → Dr H' m c g n' → n' ≤ n + 4 → H' p = some (.lst (tr.map V.bl)) → p ≠ m → p ≠ g → true ∈ tr → false ∈ tr → tr.length ≤ 4 → 2 ≤ tr.length → tr.getD 0 false = false → Q (.ref p) H') :
    tOp rCat (tLst (tCons (tC (.bl false)) (tCons (tC (.bl true)) tNil))) (tLc (iRng1 (tCons (tCall sp_draw [] E0 (tCons (tVar 0) (tCons (tC (.int lim)) tNil))) tNil)) (gName 12) tYes (tOp rEq (tCall sp_draw [] E0 (tCons (tVar 0) (tCons (tC (.int 2)) tNil))) (tC (.int 0))) [12])
      [some (.ref m), v1, v2, v3, v4, v5, v6, v7, v8, v9, v10, v11, v12, v13] H Q := by
  refine ⟨by show 2 ≤ sizeLine; decide, fun p np => ?_⟩
  have pm := dr.ne_m np
  have pg := dr.ne_g np
  have s0 := same_upd (o := .lst [.bl false, .bl true]) np
  have hp0 : upd H p (.lst [.bl false, .bl true]) p = some (.lst [.bl false, .bl true]) := upd_same
  generalize upd H p (.lst [.bl false, .bl true]) = H0 at s0 hp0 ⊢
  refine ⟨_, rfl, m, c, g, n, lim, rfl, dr.keep s0, by omega, by omega, by omega, fun H1 r kp1 dr1 r0 r1 => ?_⟩
  refine ⟨r, rfl, by omega, by omega, fun D nD => ?_⟩
  refine lc_draw (walk_range (lo := 0) (n := r.toNat)) (k := 1) (fun _ d => isB d = true) (by decide) dr1 (fun _ _ => trivial) (fun i H x H' y => y.1) nD (small_of (k := 8) (by omega) (by decide)) (fun i x H2 n' Q' hi y kp2 d2 h1 h2 q' => ?_) (fun H2 n' ds kp2 d2 h1 h2 gr => ?_)
  · refine ⟨rfl, _, rfl, m, c, g, n', 2, rfl, d2, by omega, by decide, by decide, fun H4 r2 kp4 d4 _ _ => ⟨rfl, ?_⟩⟩
    exact q' H4 (n' + 1) _ _ kp4 d4 (by omega) (by omega) (.bl _) rfl rfl
  · obtain ⟨acc, ha, da⟩ := gr.ex
    have allB : ds.all isB = true := by
      rw [List.all_eq_true]
      intro d hd
      obtain ⟨j, hj, e⟩ := List.mem_iff_getElem.mp hd
      exact gr.ok j d (by rw [List.getElem?_eq_getElem hj, e])
    have eA := bools_of da allB
    subst eA
    have hl : (boolsOf (.tuple ds)).length = ds.length := by simp [boolsOf]
    have gl := gr.len
    generalize boolsOf (.tuple ds) = bs at ha hl
    have kp02 := ((Kp.of s0).trans kp1).trans kp2
    have hp2 := (kp1.trans kp2) _ _ hp0 pm pg
    refine cat_lstN hp2 ha ?_ fun p3 H3 np3 s3 hp3 => ?_
    · rw [List.length_map]
      exact Nat.le_of_lt (small1000 (by show 2 + bs.length ≤ 1000; omega))
    · exact q p3 H3 n' ([false, true] ++ bs) (kp02.trans (Kp.of s3)) (d2.keep s3) (by omega) (by rw [hp3, List.map_append]; rfl) (d2.ne_m np3) (d2.ne_g np3) (by simp) (by simp) (by rw [List.length_append]; show 2 + bs.length ≤ 4; omega) (by rw [List.length_append]; show 2 ≤ 2 + bs.length; omega) rfl
theorem cut_from {xs : List V} {t : Nat} : cutV xs (some (t : Int)) none = xs.drop t := by
  unfold cutV
  rw [HT.sIx_nat, HT.sIx_none]
  by_cases c : t ≤ xs.length
  · rw [Nat.min_eq_left c]
    exact List.take_of_length_le (by rw [List.length_drop]; omega)
  · rw [Nat.min_eq_right (by omega), List.drop_eq_nil_of_le (Nat.le_refl _), List.drop_eq_nil_of_le (by omega), List.take_nil]
theorem cut_to {xs : List V} {t : Nat} (c : t ≤ xs.length) : cutV xs none (some (t : Int)) = xs.take t := by
  unfold cutV
  rw [HT.sIx_nat, HT.sIx_none, Nat.min_eq_left c]
  rfl
theorem cell_noL {hs : List Bool} {ws : List Str} {d : PyData} (h : isCell hs ws d = true) : noL d = true := by
  cases d with
  | tuple ds =>
    match ds, h with
    | [a, b], h =>
      have h' : cellOk hs ws b a = true := h
      cases a with
      | int i =>
        cases b with
        | list _ => simp [cellOk, inW] at h'
        | dict _ => simp [cellOk, inW] at h'
        | tuple _ => simp [cellOk, inW] at h'
        | _ => rfl
      | _ => cases h'
    | [], h => cases h
    | [_], h => cases h
    | _ :: _ :: _ :: _, h => cases h
  | _ => cases h
theorem Grow.other {H : Hp} {m g D C : Addr} {i : Nat} {p : Nat → PyData → Prop} {ds : List PyData} {l l' : List V} (G : Grow H m g D i p ds) (dc : D ≠ C) (h : H C = some (.lst l)) : Grow (upd H C (.lst l')) m g D i p ds := by
  obtain ⟨acc, ha, da⟩ := G.ex
  exact ⟨⟨acc, by rw [upd_ne dc]; exact ha, da.keepT (fun a xs hx _ _ => by
    rw [upd_ne (fun z => by rw [z, h] at hx; cases hx)]
    exact hx) G.nl⟩, G.nl, G.len, G.ok⟩
theorem dt_bools {H : Hp} {m g : Addr} : ∀ st : List Bool, DtA H m g (st.map V.bl) (st.map PyData.bool)
  | [] => .nil
  | b :: st => .cons (.bl b) (dt_bools st)
theorem nl_bools : ∀ st : List Bool, noLA (st.map PyData.bool) = true
  | [] => rfl
  | b :: st => by
    show (true && noLA (st.map PyData.bool)) = true
    rw [nl_bools st]
    rfl
theorem bools_bools (st : List Bool) : boolsOf (.tuple (st.map PyData.bool)) = st := by
  simp [boolsOf, Function.comp_def]
theorem trow_bools {st : List Bool} (h1 : 1 ≤ st.length) (h2 : st.length ≤ 8) : isTRow (.tuple (st.map PyData.bool)) = true := by
  show (decide (1 ≤ (st.map PyData.bool).length) && decide ((st.map PyData.bool).length ≤ 8) && (st.map PyData.bool).all isB) = true
  rw [List.length_map, decide_eq_true h1, decide_eq_true h2]
  simp [isB]
section
variable {P : Program} {w : World} {K : PySem.W.Frag} {mg : Str → Option Value} {base : Heap}
abbrev s_law_custom : Stmt := top 57
theorem sc_law_custom : FnScope ["m", "marks", "truths", "turn", "ranks_so", "stands_so", "read_so", "stand", "close_so", "mark", "dead", "living", "n", "truth"] ["m", "marks"] (defScope s_law_custom) := ⟨rfl, rfl, rfl, by decide +kernel, rfl, by decide +kernel, by decide +kernel⟩
def spCustom : Sp := fun vs H Q _ => ∃ (m c g : Addr) (n marks : Int), vs = [.ref m, .int marks] ∧ Dr H m c g n ∧ n < 1000 ∧ 1 ≤ marks ∧ marks ≤ 3 ∧
  ∀ (H' : Hp) (n' : Int) (v : V) (d : PyData), Kp m g H H' → Dr H' m c g n' → n' < 2000 → Dt H' m g v d → noL d = true → fault d = none → Q v H'
theorem ok_law_custom (T : Txt K mg) (k_law_draw : Kn P w K mg base 2 "_law_draw" ["m", "limit"] sp_draw) (k_law_read_cell : Kn P w K mg base 4 "_law_read_cell" ["m", "stands_so", "stand", "truth"] spReadCell) (k_law_close_cell : Kn P w K mg base 4 "_law_close_cell" ["m", "ranks_so", "truth", "is_alive"] spCloseCell) (at_ : At K mg "_law_custom" s_law_custom ["m", "marks"]) : Kn P w K mg base 5 "_law_custom" ["m", "marks"] spCustom := by
  refine Kn.mkN (st := s_law_custom) (N := ["m", "marks", "truths", "turn", "ranks_so", "stands_so", "read_so", "stand", "close_so", "mark", "dead", "living", "n", "truth"]) at_ sc_law_custom (fun vs H Q E h => ?_) (fun f cdv A outer s_ H vs Q E hr free h => ?_)
  · obtain ⟨m, c, g, n, marks, rfl, _⟩ := h
    rfl
  · obtain ⟨m, c, g, n, marks, rfl, dr, n1, m1, m3, k⟩ := h
    refine ⟨_, (pss_cons (ps_set (i := 2) sc_law_custom.nd rfl (Or.inl rfl) (pe_op op_cat (pe_lst (pa_cons pe_bl (pa_cons pe_bl pa_nil))) (pe_lc (own := [("n", 12)]) (by rfl) sc_law_custom.nd (tt := tYes) (pi_range1 rfl T.b_range (pa_cons (pe_callN k_law_draw free (hr.mono (by decide)) rfl (passL : Passes (L2.CX P w) _ E0) (pa_cons (pv 0) (pa_cons pe_int pa_nil))) pa_nil)) (blkOk_by (own := [("n", 12)]) (N := ["m", "marks", "truths", "turn", "ranks_so", "stands_so", "read_so", "stand", "close_so", "mark", "dead", "living", "n", "truth"]) (sc := defScope s_law_custom) (by decide +kernel)) (fun _ _ _ _ _ => pg_name (i := 12) sc_law_custom.nd rfl (Or.inl rfl)) (fun _ _ _ _ _ => pts_nil) (fun _ _ _ _ _ => (pe_cmpR op_eq (pe_callN k_law_draw free (hr.mono (by decide)) rfl (passL : Passes (L2.CX P w) _ E0) (pa_cons (pv 0) (pa_cons pe_int pa_nil))) pe_int (nomark _)))))) (pss_cons (ps_set (i := 3) sc_law_custom.nd rfl (Or.inl rfl) (pe_callN k_law_draw free (hr.mono (by decide)) rfl passL (pa_cons (pv 0) (pa_cons (pe_callB (id := "len") call_len_seq (by rfl) T.b_len (by decide +kernel) (pa_cons (pv 2) pa_nil)) pa_nil)))) (pss_cons (ps_set (i := 4) sc_law_custom.nd rfl (Or.inr rfl) (pe_op op_cat (pe_slice sl_list (pv 2) (po_some (pv 3)) po_none) (pe_slice sl_list (pv 2) po_none (po_some (pv 3))))) (pss_cons (ps_set (i := 5) sc_law_custom.nd rfl (Or.inr rfl) (pe_op op_cat (pe_lst (pa_cons pe_bl (pa_cons pe_bl pa_nil))) (pe_lc (own := [("n", 12)]) (by rfl) sc_law_custom.nd (tt := tYes) (pi_range1 rfl T.b_range (pa_cons (pe_callN k_law_draw free (hr.mono (by decide)) rfl passL (pa_cons (pv 0) (pa_cons pe_int pa_nil))) pa_nil)) (blkOk_by (own := [("n", 12)]) (N := ["m", "marks", "truths", "turn", "ranks_so", "stands_so", "read_so", "stand", "close_so", "mark", "dead", "living", "n", "truth"]) (sc := defScope s_law_custom) (by decide +kernel)) (fun _ _ _ _ _ => pg_name (i := 12) sc_law_custom.nd rfl (Or.inl rfl)) (fun _ _ _ _ _ => pts_nil) (fun _ _ _ _ _ => (pe_cmpR op_eq (pe_callN k_law_draw free (hr.mono (by decide)) rfl (passL : Passes (L2.CX P w) _ E0) (pa_cons (pv 0) (pa_cons pe_int pa_nil))) pe_int (nomark _)))))) (pss_cons (ps_set (i := 6) sc_law_custom.nd rfl (Or.inl rfl) (pe_lst pa_nil)) (pss_cons (ps_for PassesOwn.never rfl (pi_range1 rfl T.b_range (pa_cons (pe_callB (id := "len") call_len_seq (by rfl) T.b_len (by decide +kernel) (pa_cons (pv 5) pa_nil)) pa_nil)) (pg_name (i := 7) sc_law_custom.nd rfl (Or.inr rfl)) (pss_one (ps_expr (pe_bm PySem.F.plainAttrs_list PySem.F.slot_list_append PySem.F.type_list_append mt_append (pv 6) (pa_cons (pe_callTy call_tuple_of (by rfl) T.b_tuple (by decide +kernel) (pa_cons (pe_lc (own := [("truth", 13)]) (by rfl) sc_law_custom.nd (tt := tYes) (pi_list (pv 4)) (blkOk_by (own := [("truth", 13)]) (N := ["m", "marks", "truths", "turn", "ranks_so", "stands_so", "read_so", "stand", "close_so", "mark", "dead", "living", "n", "truth"]) (sc := defScope s_law_custom) (by decide +kernel)) (fun _ _ _ _ _ => pg_name (i := 13) sc_law_custom.nd rfl (Or.inl rfl)) (fun _ _ _ _ _ => pts_nil) (fun _ _ _ _ _ => (pe_callN k_law_read_cell free (hr.mono (by decide)) rfl passL (pa_cons (pv 0) (pa_cons (pv 5) (pa_cons (pv 7) (pa_cons (pv 13) pa_nil))))))) pa_nil)) pa_nil))))) (pss_cons (ps_set (i := 8) sc_law_custom.nd rfl (Or.inl rfl) (pe_lst pa_nil)) (pss_cons (ps_for PassesOwn.never rfl (pi_range1 rfl T.b_range (pa_cons (pv 1) pa_nil)) (pg_name (i := 9) sc_law_custom.nd rfl (Or.inl rfl)) (pss_cons (ps_set (i := 10) sc_law_custom.nd rfl (Or.inl rfl) (pe_callTy call_tuple_of (by rfl) T.b_tuple (by decide +kernel) (pa_cons (pe_lc (own := [("truth", 13)]) (by rfl) sc_law_custom.nd (tt := tYes) (pi_list (pv 5)) (blkOk_by (own := [("truth", 13)]) (N := ["m", "marks", "truths", "turn", "ranks_so", "stands_so", "read_so", "stand", "close_so", "mark", "dead", "living", "n", "truth"]) (sc := defScope s_law_custom) (by decide +kernel)) (fun _ _ _ _ _ => pg_name (i := 13) sc_law_custom.nd rfl (Or.inl rfl)) (fun _ _ _ _ _ => pts_nil) (fun _ _ _ _ _ => (pe_callN k_law_close_cell free (hr.mono (by decide)) rfl passL (pa_cons (pv 0) (pa_cons (pv 4) (pa_cons (pv 13) (pa_cons pe_bl pa_nil))))))) pa_nil))) (pss_cons (ps_set (i := 11) sc_law_custom.nd rfl (Or.inl rfl) (pe_callTy call_tuple_of (by rfl) T.b_tuple (by decide +kernel) (pa_cons (pe_lc (own := [("truth", 13)]) (by rfl) sc_law_custom.nd (tt := tYes) (pi_list (pv 5)) (blkOk_by (own := [("truth", 13)]) (N := ["m", "marks", "truths", "turn", "ranks_so", "stands_so", "read_so", "stand", "close_so", "mark", "dead", "living", "n", "truth"]) (sc := defScope s_law_custom) (by decide +kernel)) (fun _ _ _ _ _ => pg_name (i := 13) sc_law_custom.nd rfl (Or.inl rfl)) (fun _ _ _ _ _ => pts_nil) (fun _ _ _ _ _ => (pe_callN k_law_close_cell free (hr.mono (by decide)) rfl passL (pa_cons (pv 0) (pa_cons (pv 4) (pa_cons (pv 13) (pa_cons pe_bl pa_nil))))))) pa_nil))) (pss_one (ps_expr (pe_bm PySem.F.plainAttrs_list PySem.F.slot_list_append PySem.F.type_list_append mt_append (pv 8) (pa_cons (pe_tup (pa_cons (pv 10) (pa_cons (pv 11) pa_nil))) pa_nil))))))) (pss_one (ps_ret (pe_tup (pa_cons (pv 1) (pa_cons (pe_callTy call_tuple_of (by rfl) T.b_tuple (by decide +kernel) (pa_cons (pv 5) pa_nil)) (pa_cons (pe_callTy call_tuple_of (by rfl) T.b_tuple (by decide +kernel) (pa_cons (pv 4) pa_nil)) (pa_cons (pe_callTy call_tuple_of (by rfl) T.b_tuple (by decide +kernel) (pa_cons (pv 6) pa_nil)) (pa_cons (pe_callTy call_tuple_of (by rfl) T.b_tuple (by decide +kernel) (pa_cons (pv 8) pa_nil)) pa_nil)))))))))))))))), ?_⟩
    refine truths_ok dr (by omega) (by decide) (by decide) fun tp H1 na tr kp1 d1 a1 htp tpm tpg t1 t2 t3 t4 t5 => ?_
    refine ⟨_, rfl, _, rfl, tp, _, rfl, .inl (SqL.of htp), m, c, g, na, (tr.length : Int), by rw [List.length_map]; rfl, d1, by omega, by omega, by omega, fun H2 turn kp2 d2 b1 b2 => ?_⟩
    obtain ⟨t, rfl⟩ : ∃ t : Nat, turn = (t : Int) := ⟨turn.toNat, by omega⟩
    have htp2 := kp2 _ _ htp tpm tpg
    have tl : t ≤ (tr.map V.bl).length := by rw [List.length_map]; omega
    refine ⟨_, rfl, _, rfl, t, rfl, tp, tr.map V.bl, rfl, SqL.of htp2, fun p1 np1 => ?_⟩
    have s3 := same_upd (o := .lst (cutV (tr.map V.bl) (some (t : Int)) none)) np1
    have hp1 : upd H2 p1 (.lst (cutV (tr.map V.bl) (some (t : Int)) none)) p1 = some (.lst (cutV (tr.map V.bl) (some (t : Int)) none)) := upd_same
    generalize upd H2 p1 (.lst (cutV (tr.map V.bl) (some (t : Int)) none)) = H3 at s3 hp1 ⊢
    refine ⟨_, rfl, _, rfl, t, rfl, tp, tr.map V.bl, rfl, SqL.of (s3 _ _ htp2), fun p2 np2 => ?_⟩
    have s4 := same_upd (o := .lst (cutV (tr.map V.bl) none (some (t : Int)))) np2
    have hp2 : upd H3 p2 (.lst (cutV (tr.map V.bl) none (some (t : Int)))) p2 = some (.lst (cutV (tr.map V.bl) none (some (t : Int)))) := upd_same
    generalize upd H3 p2 (.lst (cutV (tr.map V.bl) none (some (t : Int)))) = H4 at s4 hp2 ⊢
    rw [cut_from] at hp1
    rw [cut_to tl] at hp2
    have d4 := (d2.keep s3).keep s4
    have kp04 := ((kp1.trans kp2).trans (Kp.of s3)).trans (Kp.of s4)
    refine cat_lstN (s4 _ _ hp1) hp2 ?_ fun rp H5 nrp s5 hrp => ?_
    · rw [List.length_drop, List.length_take]
      exact Nat.le_of_lt (small1000 (by rw [List.length_map]; omega))
    have hrk : ∃ rk : List Bool, H5 rp = some (.lst (rk.map V.bl)) ∧ true ∈ rk ∧ false ∈ rk ∧ rk.length ≤ 4 ∧ 1 ≤ rk.length := by
      refine ⟨tr.drop t ++ tr.take t, by rw [hrp, List.map_append, List.map_drop, List.map_take], ?_, ?_, ?_, ?_⟩
      · rw [← List.take_append_drop t tr, List.mem_append] at t1
        exact List.mem_append.mpr t1.symm
      · rw [← List.take_append_drop t tr, List.mem_append] at t2
        exact List.mem_append.mpr t2.symm
      · rw [List.length_append, List.length_drop, List.length_take]
        omega
      · rw [List.length_append, List.length_drop, List.length_take]
        omega
    have rpm := d4.ne_m nrp
    have rpg := d4.ne_g nrp
    have d5 := d4.keep s5
    have kp05 := kp04.trans (Kp.of s5)
    clear hrp hp1 hp2 tl htp2 htp np1 np2 s3 s4 nrp
    obtain ⟨rk, hrk, rt, rf, rl, rl1⟩ := hrk
    refine truths_ok d5 (by omega) (by decide) (by decide) fun sp_ H6 nb st kp6 d6 a6 hsp spm spg st1 st2 st3 st4 st5 => ?_
    refine ⟨Nat.zero_le _, fun R nR => ?_⟩
    have Rm := d6.ne_m nR
    have Rg := d6.ne_g nR
    have RH : H R = none := (kp05.trans kp6).free Rm Rg nR
    have spR : sp_ ≠ R := fun z => by rw [z, nR] at hsp; cases hsp
    have rpR : rp ≠ R := fun z => by rw [← z, kp6 _ _ hrk rpm rpg] at nR; cases nR
    have s7 := same_upd (o := .lst []) nR
    have hR0 : upd H6 R (.lst []) R = some (.lst []) := upd_same
    generalize upd H6 R (.lst []) = H7 at s7 hR0 ⊢
    have d7 := d6.keep s7
    have kp07 := (kp05.trans kp6).trans (Kp.of s7)
    have hrk7 := (kp6.trans (Kp.of s7)) _ _ hrk rpm rpg
    have hsp7 := s7 _ _ hsp
    clear nR s7 hsp kp6 d6 d5
    refine ⟨_, rfl, sp_, _, rfl, .inl (SqL.of hsp7), (st.length : Int), by rw [List.length_map], by omega, by omega, ?_⟩
    rw [show ((st.length : Int)).toNat = st.length by omega]
    refine for_it (walk_range (lo := 0) (n := st.length)) (fun i σ H' => (Kp m g H H' ∧ H' sp_ = some (.lst (st.map V.bl)) ∧ H' rp = some (.lst (rk.map V.bl))) ∧ (∃ v7 v8 v9 v10 v11 v12 v13, σ = [some (.ref m), some (.int marks), some (.ref tp), some (.int (t : Nat)), some (.ref rp), some (.ref sp_), some (.ref R), v7, v8, v9, v10, v11, v12, v13]) ∧ ∃ n' ds, Dr H' m c g n' ∧ nb ≤ n' ∧ n' ≤ nb + 12 * (i : Int) ∧ Grow H' m g R i (fun s d => isRowOf rk.length (fun r => isCell st (oldW st "old" s ++ oldW rk "new" r)) d = true) ds)
      ⟨⟨kp07, hsp7, hrk7⟩, ⟨_, _, _, _, _, _, _, rfl⟩, nb, [], d7, by omega, by simp, ⟨⟨[], hR0, .nil⟩, rfl, rfl, fun j d h => by simp at h⟩⟩ (fun i σ H' _ p => trivial) ?_ ?_
    · rintro i x σ H8 H9 hi ⟨⟨kp8, hsp8, hrk8⟩, ⟨v7, v8, v9, v10, v11, v12, v13, rfl⟩, n8, ds, d8, e1, e2, gr⟩ ⟨rfl, hy⟩
      obtain rfl : x = .int (i : Nat) := hy.trans (by simp)
      obtain ⟨acc, hR, da⟩ := gr.ex
      refine ⟨_, rfl, .inl ⟨rfl, acc, SqL.of hR⟩, ?_⟩
      refine ⟨_, rfl, rp, rfl, ⟨_, SqL.of hrk8⟩, fun D nD => ?_⟩
      refine lc_draw (walk_list (xs := rk.map V.bl)) (k := 3) (fun r d => isCell st (oldW st "old" i ++ oldW rk "new" r) d = true) (by decide) d8 (fun _ kp' => SqL.of (kp' _ _ hrk8 rpm rpg)) (fun i H x H' y => y.1) nD (by rw [List.length_map]; exact small_of (k := 8) (by omega) (by decide)) (fun r x H10 n10 Q' hr' y kp10 d10 h1 h2 q' => ?_) (fun H10 n10 es kp10 d10 h1 h2 gr2 => ?_)
      · obtain ⟨_, hx⟩ := y
        obtain ⟨b, hb, rfl⟩ : ∃ b, rk[r]? = some b ∧ x = .bl b := by
          rw [List.getElem?_map] at hx
          cases e : rk[r]? with
          | none => rw [e] at hx; cases hx
          | some z => rw [e] at hx; exact ⟨z, rfl, (Option.some.inj hx).symm⟩
        have en : oldW rk "new" r = newW "new" b := by simp [oldW, newW, hb]
        refine ⟨rfl, _, rfl, _, rfl, _, rfl, _, rfl, m, c, g, sp_, n10, i, b, st, rfl, d10, ?_, kp10 _ _ hsp8 spm spg, spm, spg, hi, by omega, st1, st2, fun H' n' v d kp d' g1 g2 dt hc => ?_⟩
        · rw [List.length_map] at hr'
          omega
        · exact q' H' n' v d kp d' g1 g2 dt (cell_noL hc) (by rw [en]; exact hc)
      · obtain ⟨acc2, hD, da2⟩ := gr2.ex
        have lrk : es.length = rk.length := by rw [gr2.len, List.length_map]
        refine ⟨D, acc2, rfl, .inl ⟨SqL.of hD, fun l nl => ?_⟩⟩
        have lm := d10.ne_m nl
        have lg := d10.ne_g nl
        have sl := same_upd (o := .tup acc2) nl
        have hl : upd H10 l (.tup acc2) l = some (.tup acc2) := upd_same
        generalize upd H10 l (.tup acc2) = H11 at sl hl ⊢
        have kp811 := kp10.trans (Kp.of sl)
        have gr3 := gr.keep kp811 Rm Rg
        have hR11 := kp811 _ _ hR Rm Rg
        refine ⟨R, acc, .ref l, rfl, rfl, hR11, ?_, ?_⟩
        · have := da.len
          have := gr.len
          exact small_of (k := 8) (by omega) (by decide)
        · have dR : Dr (upd H11 R (.lst (acc ++ [.ref l]))) m c g n10 := (d10.keep sl).set Rm (fun z => by
            obtain ⟨cs, hc, cl⟩ := (d10.keep sl).hc
            have := gr.len
            have := da.len
            rw [← z, hR11] at hc
            have e : acc.length = (cs.map V.int).length := by cases hc; rfl
            rw [List.length_map] at e
            omega) Rg
          refine ⟨⟨kp_set (kp8.trans kp811) RH, by rw [upd_ne spR]; exact kp811 _ _ hsp8 spm spg, by rw [upd_ne rpR]; exact kp811 _ _ hrk8 rpm rpg⟩, ⟨_, _, _, _, _, _, _, rfl⟩, n10, ds ++ [.tuple es], dR, by omega, ?_, gr3.put (.tup hl lm lg (da2.same sl)) (by simpa [noL] using gr2.nl) (row_all.mpr ⟨lrk, fun j d hd => gr2.ok j d hd⟩) acc hR11⟩
          rw [List.length_map] at h2
          omega
    · rintro σ H8 ⟨⟨kp8, hsp8, hrk8⟩, ⟨v7, v8, v9, v10, v11, v12, v13, rfl⟩, n8, rs, d8, e1, e2, grR⟩
      have e3 : n8 ≤ nb + 48 := by omega
      clear e2 hR0 hrk7 hsp7 d7 kp07
      refine ⟨Nat.zero_le _, fun C nC => ?_⟩
      have Cm := d8.ne_m nC
      have Cg := d8.ne_g nC
      have CH : H C = none := kp8.free Cm Cg nC
      have spC : sp_ ≠ C := fun z => by rw [z, nC] at hsp8; cases hsp8
      have rpC : rp ≠ C := fun z => by rw [z, nC] at hrk8; cases hrk8
      have RC : R ≠ C := fun z => by
        obtain ⟨acc, hR, _⟩ := grR.ex
        rw [z, nC] at hR
        cases hR
      have s9 := same_upd (o := .lst []) nC
      have hC0 : upd H8 C (.lst []) C = some (.lst []) := upd_same
      have gr9 := grR.keep (Kp.of s9) Rm Rg
      generalize upd H8 C (.lst []) = H9 at s9 hC0 gr9 ⊢
      have d9 := d8.keep s9
      have kp9 := kp8.trans (Kp.of s9)
      have hsp9 := s9 _ _ hsp8
      have hrk9 := s9 _ _ hrk8
      clear s9 hsp8 hrk8 kp8 d8 nC grR
      refine ⟨_, rfl, marks, rfl, by omega, by omega, ?_⟩
      obtain ⟨mk, rfl⟩ : ∃ mk : Nat, marks = (mk : Int) := ⟨marks.toNat, by omega⟩
      rw [show ((mk : Int)).toNat = mk by omega]
      refine for_it (walk_range (lo := 0) (n := mk)) (fun i σ H' => (Kp m g H H' ∧ H' sp_ = some (.lst (st.map V.bl)) ∧ H' rp = some (.lst (rk.map V.bl))) ∧ (∃ v7 v9 v10 v11 v12 v13, σ = [some (.ref m), some (.int mk), some (.ref tp), some (.int (t : Nat)), some (.ref rp), some (.ref sp_), some (.ref R), v7, some (.ref C), v9, v10, v11, v12, v13]) ∧
          ∃ n' ds, Dr H' m c g n' ∧ n8 ≤ n' ∧ n' ≤ n8 + 24 * (i : Int) ∧ Grow H' m g C i (fun _ d => isBoth st rk d = true) ds ∧ Grow H' m g R st.length (fun s d => isRowOf rk.length (fun r => isCell st (oldW st "old" s ++ oldW rk "new" r)) d = true) rs)
        ⟨⟨kp9, hsp9, hrk9⟩, ⟨_, _, _, _, _, _, rfl⟩, n8, [], d9, by omega, by simp, ⟨⟨[], hC0, .nil⟩, rfl, rfl, fun j d h => by simp at h⟩, gr9⟩ (fun i σ H' _ p => trivial) ?_ ?_
      · rintro i x σ H10 H11 hi ⟨⟨kp10, hsp10, hrk10⟩, ⟨v7, v9, v10, v11, v12, v13, rfl⟩, n10, ds, d10, e1, e2, gr, grR⟩ ⟨rfl, hy⟩
        obtain rfl : x = .int (i : Nat) := hy.trans (by simp)
        -- dead
        refine ⟨_, rfl, sp_, rfl, ⟨_, SqL.of hsp10⟩, fun D nD => ?_⟩
        refine lc_draw (walk_list (xs := st.map V.bl)) (k := 3) (fun s d => isCell rk (oldW st "line" s ++ []) d = true) (by decide) d10 (fun _ kp' => SqL.of (kp' _ _ hsp10 spm spg)) (fun i H x H' y => y.1) nD (by rw [List.length_map]; exact small_of (k := 8) (by omega) (by decide)) (fun r x H12 n12 Q' hr' y kp12 d12 h1 h2 q' => ?_) (fun H12 n12 es kp12 d12 h1 h2 gr2 => ?_)
        · obtain ⟨_, hx⟩ := y
          obtain ⟨b, hb, rfl⟩ : ∃ b, st[r]? = some b ∧ x = .bl b := by
            rw [List.getElem?_map] at hx
            cases e : st[r]? with
            | none => rw [e] at hx; cases hx
            | some z => rw [e] at hx; exact ⟨z, rfl, (Option.some.inj hx).symm⟩
          have en : oldW st "line" r = newW "line" b := by simp [oldW, newW, hb]
          refine ⟨rfl, _, rfl, _, rfl, _, rfl, m, c, g, rp, n12, b, false, rk, rfl, d12, ?_, kp12 _ _ hrk10 rpm rpg, rpm, rpg, by omega, rt, rf, fun H' n' v d kp d' g1 g2 dt hc => ?_⟩
          · rw [List.length_map] at hr'
            omega
          · exact q' H' n' v d kp d' g1 g2 dt (cell_noL hc) (by rw [en]; exact hc)
        · obtain ⟨acc2, hD, da2⟩ := gr2.ex
          have lst2 : es.length = st.length := by rw [gr2.len, List.length_map]
          refine ⟨D, acc2, rfl, .inl ⟨SqL.of hD, fun l nl => ?_⟩⟩
          have lm := d12.ne_m nl
          have lg := d12.ne_g nl
          have sl := same_upd (o := .tup acc2) nl
          have hl : upd H12 l (.tup acc2) l = some (.tup acc2) := upd_same
          have dt1 : Dt (upd H12 l (.tup acc2)) m g (.ref l) (.tuple es) := .tup upd_same lm lg (da2.same sl)
          have nl1 : noL (.tuple es) = true := by simpa [noL] using gr2.nl
          have row1 : isCloseRow st rk [] (.tuple es) = true := row_all.mpr ⟨lst2, fun j d hd => gr2.ok j d hd⟩
          generalize upd H12 l (.tup acc2) = H13 at sl hl dt1 ⊢
          have kp13 := kp12.trans (Kp.of sl)
          have d13 := d12.keep sl
          have hsp13 := kp13 _ _ hsp10 spm spg
          have hrk13 := kp13 _ _ hrk10 rpm rpg
          rw [List.length_map] at h2
          have e4 : n12 ≤ n10 + 12 := by omega
          clear h2 gr2 hD da2 hl nl
          -- living
          refine ⟨_, rfl, sp_, rfl, ⟨_, SqL.of hsp13⟩, fun D2 nD2 => ?_⟩
          refine lc_draw (walk_list (xs := st.map V.bl)) (k := 3) (fun s d => isCell rk (oldW st "line" s ++ [("self" : Str)]) d = true) (by decide) d13 (fun _ kp' => SqL.of (kp' _ _ hsp13 spm spg)) (fun i H x H' y => y.1) nD2 (by rw [List.length_map]; exact small_of (k := 8) (by omega) (by decide)) (fun r x H14 n14 Q' hr' y kp14 d14 h1 h2 q' => ?_) (fun H14 n14 fs kp14 d14 h1 h2 gr2 => ?_)
          · obtain ⟨_, hx⟩ := y
            obtain ⟨b, hb, rfl⟩ : ∃ b, st[r]? = some b ∧ x = .bl b := by
              rw [List.getElem?_map] at hx
              cases e : st[r]? with
              | none => rw [e] at hx; cases hx
              | some z => rw [e] at hx; exact ⟨z, rfl, (Option.some.inj hx).symm⟩
            have en : oldW st "line" r = newW "line" b := by simp [oldW, newW, hb]
            refine ⟨rfl, _, rfl, _, rfl, _, rfl, m, c, g, rp, n14, b, true, rk, rfl, d14, ?_, kp14 _ _ hrk13 rpm rpg, rpm, rpg, by omega, rt, rf, fun H' n' v d kp d' g1 g2 dt hc => ?_⟩
            · rw [List.length_map] at hr'
              omega
            · exact q' H' n' v d kp d' g1 g2 dt (cell_noL hc) (by rw [en]; exact hc)
          · obtain ⟨acc3, hD2, da3⟩ := gr2.ex
            have lst3 : fs.length = st.length := by rw [gr2.len, List.length_map]
            refine ⟨D2, acc3, rfl, .inl ⟨SqL.of hD2, fun l2 nl2 => ?_⟩⟩
            have lm2 := d14.ne_m nl2
            have lg2 := d14.ne_g nl2
            have sl2 := same_upd (o := .tup acc3) nl2
            have dt2 : Dt (upd H14 l2 (.tup acc3)) m g (.ref l2) (.tuple fs) := .tup upd_same lm2 lg2 (da3.same sl2)
            have nl2' : noL (.tuple fs) = true := by simpa [noL] using gr2.nl
            have row2 : isCloseRow st rk ["self"] (.tuple fs) = true := row_all.mpr ⟨lst3, fun j d hd => gr2.ok j d hd⟩
            generalize upd H14 l2 (.tup acc3) = H15 at sl2 dt2 ⊢
            have kp15 := kp14.trans (Kp.of sl2)
            have d15 := d14.keep sl2
            have dt1' := dt1.keep kp15
            rw [List.length_map] at h2
            have e5 : n14 ≤ n12 + 12 := by omega
            clear h2 gr2 hD2 da3 nl2
            have gr15 := (gr.keep kp13 Cm Cg).keep kp15 Cm Cg
            have grR15 := (grR.keep kp13 Rm Rg).keep kp15 Rm Rg
            obtain ⟨acc, hC, da⟩ := gr15.ex
            refine ⟨_, rfl, .inl ⟨rfl, acc, SqL.of hC⟩, ?_⟩
            refine ⟨_, rfl, _, rfl, by show 2 ≤ sizeLine; decide, fun pr npr => ?_⟩
            have prm := d15.ne_m npr
            have prg := d15.ne_g npr
            have spr := same_upd (o := .tup [.ref l, .ref l2]) npr
            have dtP : Dt (upd H15 pr (.tup [.ref l, .ref l2])) m g (.ref pr) (.tuple [.tuple es, .tuple fs]) := .tup upd_same prm prg (.cons (dt1'.same spr) (.cons (dt2.same spr) .nil))
            generalize upd H15 pr (.tup [.ref l, .ref l2]) = H16 at spr dtP ⊢
            have hC16 := spr _ _ hC
            have d16 := d15.keep spr
            have gr16 := gr15.keep (Kp.of spr) Cm Cg
            have grR16 := grR15.keep (Kp.of spr) Rm Rg
            have kp1016 := (kp13.trans kp15).trans (Kp.of spr)
            have nlP : noL (.tuple [.tuple es, .tuple fs]) = true := by
              show (noL (.tuple es) && (noL (.tuple fs) && true)) = true
              rw [nl1, nl2']
              rfl
            refine ⟨C, acc, .ref pr, rfl, rfl, hC16, ?_, ?_⟩
            · have := da.len
              have := gr15.len
              exact small_of (k := 8) (by omega) (by decide)
            · have dC : Dr (upd H16 C (.lst (acc ++ [.ref pr]))) m c g n14 := d16.set Cm (fun z => by
                obtain ⟨cs, hc, cl⟩ := d16.hc
                have := gr15.len
                have := da.len
                rw [← z, hC16] at hc
                have e : acc.length = (cs.map V.int).length := by cases hc; rfl
                rw [List.length_map] at e
                omega) Cg
              refine ⟨⟨kp_set (kp10.trans kp1016) CH, by rw [upd_ne spC]; exact kp1016 _ _ hsp10 spm spg, by rw [upd_ne rpC]; exact kp1016 _ _ hrk10 rpm rpg⟩, ⟨_, _, _, _, _, _, rfl⟩, n14, ds ++ [.tuple [.tuple es, .tuple fs]], dC, by omega, by omega, gr16.put dtP nlP (by show (isCloseRow st rk [] (.tuple es) && isCloseRow st rk ["self"] (.tuple fs)) = true; rw [row1, row2]; rfl) acc hC16, grR16.other RC hC16⟩
      · rintro σ H10 ⟨⟨kp10, hsp10, hrk10⟩, ⟨v7, v9, v10, v11, v12, v13, rfl⟩, n10, cs, d10, e1, e2, gr, grR⟩
        obtain ⟨accC, hC, daC⟩ := gr.ex
        obtain ⟨accR, hR, daR⟩ := grR.ex
        have e4 : n10 ≤ n8 + 72 := by omega
        refine ⟨_, rfl, _, rfl, sp_, _, rfl, .inl ⟨SqL.of hsp10, fun a1 na1 => ?_⟩⟩
        have a1m := d10.ne_m na1
        have a1g := d10.ne_g na1
        have s1 := same_upd (o := .tup (st.map V.bl)) na1
        have h1 : upd H10 a1 (.tup (st.map V.bl)) a1 = some (.tup (st.map V.bl)) := upd_same
        generalize upd H10 a1 (.tup (st.map V.bl)) = H11 at s1 h1 ⊢
        have d11 := d10.keep s1
        refine ⟨_, rfl, rp, _, rfl, .inl ⟨SqL.of (s1 _ _ hrk10), fun a2 na2 => ?_⟩⟩
        have a2m := d11.ne_m na2
        have a2g := d11.ne_g na2
        have s2 := same_upd (o := .tup (rk.map V.bl)) na2
        have h2 : upd H11 a2 (.tup (rk.map V.bl)) a2 = some (.tup (rk.map V.bl)) := upd_same
        generalize upd H11 a2 (.tup (rk.map V.bl)) = H12 at s2 h2 ⊢
        have d12 := d11.keep s2
        have s12 := s1.trans s2
        refine ⟨_, rfl, R, _, rfl, .inl ⟨SqL.of (s12 _ _ hR), fun a3 na3 => ?_⟩⟩
        have a3m := d12.ne_m na3
        have a3g := d12.ne_g na3
        have s3 := same_upd (o := .tup accR) na3
        have h3 : upd H12 a3 (.tup accR) a3 = some (.tup accR) := upd_same
        generalize upd H12 a3 (.tup accR) = H13 at s3 h3 ⊢
        have d13 := d12.keep s3
        have s13 := s12.trans s3
        refine ⟨_, rfl, C, _, rfl, .inl ⟨SqL.of (s13 _ _ hC), fun a4 na4 => ?_⟩⟩
        have a4m := d13.ne_m na4
        have a4g := d13.ne_g na4
        have s4 := same_upd (o := .tup accC) na4
        have h4 : upd H13 a4 (.tup accC) a4 = some (.tup accC) := upd_same
        generalize upd H13 a4 (.tup accC) = H14 at s4 h4 ⊢
        have d14 := d13.keep s4
        have s14 := s13.trans s4
        refine ⟨by show 5 ≤ sizeLine; decide, fun a5 na5 => ?_⟩
        have a5m := d14.ne_m na5
        have a5g := d14.ne_g na5
        have s5 := same_upd (o := .tup [.int (mk : Int), .ref a1, .ref a2, .ref a3, .ref a4]) na5
        have h5 : upd H14 a5 (.tup [.int (mk : Int), .ref a1, .ref a2, .ref a3, .ref a4]) a5 = some (.tup [.int (mk : Int), .ref a1, .ref a2, .ref a3, .ref a4]) := upd_same
        show Q (.ref a5) (upd H14 a5 (.tup [.int (mk : Int), .ref a1, .ref a2, .ref a3, .ref a4]))
        generalize upd H14 a5 (.tup [.int (mk : Int), .ref a1, .ref a2, .ref a3, .ref a4]) = H15 at s5 h5 ⊢
        have s15 := s14.trans s5
        refine k H15 n10 (.ref a5) (.tuple [.int (mk : Int), .tuple (st.map PyData.bool), .tuple (rk.map PyData.bool), .tuple rs, .tuple cs]) (kp10.trans (Kp.of s15)) (d14.keep s5) (by omega) ?_ ?_ ?_
        · refine .tup h5 a5m a5g (.cons (.int _) (.cons (.tup (s5 _ _ (s4 _ _ (s3 _ _ (s2 _ _ h1)))) a1m a1g (dt_bools st)) (.cons (.tup (s5 _ _ (s4 _ _ (s3 _ _ h2))) a2m a2g (dt_bools rk)) (.cons (.tup (s5 _ _ (s4 _ _ h3)) a3m a3g (daR.same s15)) (.cons (.tup (s5 _ _ h4) a4m a4g (daC.same s15)) .nil)))))
        · show (true && (noLA (st.map PyData.bool) && (noLA (rk.map PyData.bool) && (noLA rs && (noLA cs && true))))) = true
          rw [nl_bools, nl_bools, gr.nl, grR.nl]
          rfl
        · have b1 : isBt 1 3 (.int (mk : Int)) = true := by
            show (decide (1 ≤ (mk : Int)) && decide ((mk : Int) ≤ 3)) = true
            rw [decide_eq_true m1, decide_eq_true m3]
            rfl
          have b2 : isTRow (.tuple (st.map PyData.bool)) = true := trow_bools (by omega) (by omega)
          have b3 : isTRow (.tuple (rk.map PyData.bool)) = true := trow_bools (by omega) (by omega)
          have b4 : isRead st rk (.tuple rs) = true := row_all.mpr ⟨grR.len, fun j d hd => grR.ok j d hd⟩
          have b5 : isClose (mk : Int) st rk (.tuple cs) = true := by
            show (decide ((cs.length : Int) = (mk : Int)) && cs.all (isBoth st rk)) = true
            rw [gr.len, decide_eq_true rfl, Bool.true_and, List.all_eq_true]
            intro d hd
            obtain ⟨j, hj, e⟩ := List.mem_iff_getElem.mp hd
            exact gr.ok j d (by rw [List.getElem?_eq_getElem hj, e])
          simp only [fault, b1, b2, b3, bools_bools, b4, b5, st5]
          rfl
end
end Hk
set_option Elab.async false
set_option linter.all false
set_option maxRecDepth 100000
set_option maxHeartbeats 4000000
namespace Hk
open PySem PySem.Spec PyProof.Rows L2
/-- data that == may look at, at most so deep -/
def OkN (k : Nat) (d : PyData) : Prop := d.canLay0 = true ∧ d.depth ≤ k
theorem OkN.okd {k : Nat} {d : PyData} (h : OkN k d) (hk : k ≤ 64) : Okd d := okd_iff.mpr ⟨h.1, by have := h.2; omega⟩
theorem OkN.mono {j k : Nat} {d : PyData} (h : OkN j d) (hk : j ≤ k) : OkN k d := ⟨h.1, by have := h.2; omega⟩
def spOther : Sp := fun vs H Q _ => ∃ (m c g : Addr) (n : Int) (v : V) (d : PyData) (k : Nat), vs = [.ref m, v] ∧ Dr H m c g n ∧ n < 10000 ∧ Dt H m g v d ∧ OkN k d ∧ (∀ ds, d = .tuple ds → ds.length ≤ 100) ∧
  ∀ (H' : Hp) (n' : Int) (v' : V) (d' : PyData), Kp m g H H' → Dr H' m c g n' → n' ≤ n + 2 → Dt H' m g v' d' → OkN (k + 1) d' → Q v' H'
theorem Dt.ofTup {H : Hp} {m c g p : Addr} {n : Int} {xs : List V} (d : Dr H m c g n) (h : H p = some (.tup xs)) : p ≠ m ∧ p ≠ g := by
  refine ⟨fun z => ?_, fun z => ?_⟩
  · rw [z, d.hm] at h
    cases h
  · obtain ⟨gs, hg, _⟩ := d.hg
    rw [z, hg] at h
    cases h
theorem pick_ok {H1 : Hp} {m c g : Addr} {n1 : Int} {xs : List V} {k : Nat} {Q : VK} (dr : Dr H1 m c g n1) (n2 : n1 < 100000) (l1 : 1 ≤ xs.length) (l2 : xs.length < 1000) (all : ∀ x ∈ xs, ∃ d, Dt H1 m g x d ∧ OkN k d)
    (q : ∀ H' v' d', Kp m g H1 H' → Dr H' m c g (n1 + 1) → Dt H' m g v' d' → OkN k d' → Q v' H') : xs.length ≤ sizeLine ∧ ∀ D, H1 D = none → spOf ([.ref m, .ref D] ++ []) (upd H1 D (.lst xs)) Q E0 := by
  refine ⟨Nat.le_of_lt (small1000 (by omega)), fun D nD => ?_⟩
  have s := same_upd (o := .lst xs) nD
  refine ⟨m, c, g, D, n1, xs, rfl, dr.keep s, by omega, upd_same, dr.ne_m nD, dr.ne_g nD, l1, l2, fun H' x kp d' hx => ?_⟩
  obtain ⟨d, dt, od⟩ := all x hx
  exact q H' x d ((Kp.of s).trans kp) d' ((dt.same s).keep kp) od
theorem okn_str (w : Str) (h : (PyData.str w).canLay0 = true) (k : Nat) : OkN k (.str w) := ⟨h, Nat.zero_le _⟩
theorem okn_int (i : Int) (k : Nat) : OkN k (.int i) := ⟨rfl, Nat.zero_le _⟩
theorem okn_bl (i : Bool) (k : Nat) : OkN k (.bool i) := ⟨rfl, Nat.zero_le _⟩
theorem okn_non (k : Nat) : OkN k .none := ⟨rfl, Nat.zero_le _⟩
theorem digit_ok (i : Int) : (PyData.str (toString (i.fmod 10))).canLay0 = true ∧ (i.fmod 10).natAbs.log2 < 1920 := by
  have h : 0 ≤ i.fmod 10 ∧ i.fmod 10 < 10 := by
    rw [Int.fmod_eq_emod_of_nonneg _ (by decide)]
    omega
  generalize i.fmod 10 = r at h
  obtain ⟨h1, h2⟩ := h
  have : r = 0 ∨ r = 1 ∨ r = 2 ∨ r = 3 ∨ r = 4 ∨ r = 5 ∨ r = 6 ∨ r = 7 ∨ r = 8 ∨ r = 9 := by omega
  rcases this with e | e | e | e | e | e | e | e | e | e <;> subst e <;> decide +kernel
theorem okn_mem {k : Nat} {ds : List PyData} {e : PyData} (h : OkN k (.tuple ds)) (he : e ∈ ds) : OkN (k - 1) e := by
  obtain ⟨h1, h2⟩ := h
  simp [PyData.canLay0, PyData.depth] at h1 h2
  have := depth_mem he
  exact ⟨lay_mem h1 he, by omega⟩
theorem okn_pos {k : Nat} {ds : List PyData} (h : OkN k (.tuple ds)) : 1 ≤ k := by
  have := h.2
  simp [PyData.depth] at this
  omega
theorem okn_all {j : Nat} : ∀ {es : List PyData}, (∀ e ∈ es, OkN j e) → PyData.canLayAll0 es = true ∧ PyData.depthAll es ≤ j
  | [], _ => ⟨rfl, Nat.zero_le _⟩
  | e :: es, h => by
    have h1 := h e (by simp)
    have h2 := okn_all (es := es) fun x hx => h x (by simp [hx])
    exact ⟨by simp [PyData.canLayAll0, h1.1, h2.1], by have := h1.2; have := h2.2; simp [PyData.depthAll]; omega⟩
theorem okn_tup {j : Nat} {es : List PyData} (h : ∀ e ∈ es, OkN j e) : OkN (j + 1) (.tuple es) := by
  have := okn_all h
  exact ⟨by simp [PyData.canLay0, this.1], by simp [PyData.depth]; omega⟩
theorem okn_lst {j : Nat} {es : List PyData} (h : ∀ e ∈ es, OkN j e) : OkN (j + 1) (.list es) := by
  have := okn_all h
  exact ⟨by simp [PyData.canLay0, this.1], by simp [PyData.depth]; omega⟩
theorem DtA.drop {H : Hp} {m g : Addr} : ∀ {vs : List V} {ds : List PyData} (i : Nat), DtA H m g vs ds → DtA H m g (vs.drop i) (ds.drop i)
  | _, _, 0, a => a
  | _, _, i + 1, .nil => .nil
  | _, _, i + 1, .cons _ t => DtA.drop i t
theorem DtA.take {H : Hp} {m g : Addr} : ∀ {vs : List V} {ds : List PyData} (i : Nat), DtA H m g vs ds → DtA H m g (vs.take i) (ds.take i)
  | _, _, 0, a => .nil
  | _, _, i + 1, .nil => .nil
  | _, _, i + 1, .cons h t => .cons h (DtA.take i t)
theorem DtA.app {H : Hp} {m g : Addr} : ∀ {vs us : List V} {ds es : List PyData}, DtA H m g vs ds → DtA H m g us es → DtA H m g (vs ++ us) (ds ++ es)
  | _, _, _, _, .nil, h => h
  | _, _, _, _, .cons a t, h => .cons a (DtA.app t h)
/-- a slice of a tuple -/
theorem sl_ok {K : PySem.W.Frag} {H : Hp} {a : Addr} {xs : List V} {lo hi : Option Int} {Q : VK} (ha : H a = some (.tup xs)) (k : ∀ p H', Same H H' → H' p = some (.tup (cutV xs lo hi)) → Q (.ref p) H') : rSlA K (.ref a) lo hi H Q := by
  refine ⟨a, xs, rfl, SqT.of ha, fun e => k a H (Same.refl _) ?_, fun _ p hp => k p _ (same_upd hp) upd_same⟩
  unfold cutV
  rw [e.1, e.2]
  simpa using ha
theorem no_hi {σ : L2.St} {H : Hp} {R : Option Int → Hp → Prop} (h : R none H) : tNoPart σ H R := h
/-- what a slice holds -/
def cutD (n : Nat) (ds : List PyData) (lo hi : Option Int) : List PyData := (ds.drop (HT.sIx n 0 lo)).take (HT.sIx n n hi - HT.sIx n 0 lo)
theorem DtA.cut {H : Hp} {m g : Addr} {vs : List V} {ds : List PyData} (lo hi : Option Int) (h : DtA H m g vs ds) : DtA H m g (cutV vs lo hi) (cutD vs.length ds lo hi) := (h.drop _).take _
theorem cutD_mem {n : Nat} {ds : List PyData} {lo hi : Option Int} {e : PyData} (h : e ∈ cutD n ds lo hi) : e ∈ ds := List.mem_of_mem_drop (List.mem_of_mem_take h)
theorem cutV_len {xs : List V} {lo hi : Option Int} : (cutV xs lo hi).length ≤ xs.length := cutV_length xs lo hi
def tOtherB (K : PySem.W.Frag) : TS := tSeq (tIfS (tB (tCB (rIsi K) (tCons (tVar 1) (tCons (tC (.ty "bool")) tNil)))) (tRet (tCall spOf [] E0 (tCons (tVar 0) (tCons (tLst (tCons (tNotV (tVar 1)) (tCons (tC (.int 1)) (tCons (tC (.int 0)) (tCons (tC .non) (tCons (tC (.str "True")) tNil)))))) tNil)))) tNext)
  (tSeq (tIfS (tB (tCB (rIsi K) (tCons (tVar 1) (tCons (tC (.ty "int")) tNil)))) (tRet (tCall spOf [] E0 (tCons (tVar 0) (tCons (tLst (tCons (tOp (rI0 fun i j => .int (i + j)) (tVar 1) (tC (.int 1))) (tCons (tOp (rI0 fun i j => .int (i - j)) (tVar 1) (tC (.int 1))) (tCons (tUn (rU fun i => .int (-i)) (tC (.int 1))) (tCons (tC (.int 0)) (tCons (tC (.int 7)) (tCons (tC (.int 8)) (tCons (tC (.bl true)) (tCons (tC (.bl false)) (tCons (tC .non)
      (tCons (tCB (fun xs H Q => ∃ i, xs = [V.int i] ∧ i.natAbs.log2 < 1920 ∧ Q (.str (toString i)) H) (tCons (tOp (rI (fun x j => j ≠ 0) fun i j => .int (i.fmod j)) (tVar 1) (tC (.int 10))) tNil)) tNil))))))))))) tNil)))) tNext)
    (tRet (tCall spOf [] E0 (tCons (tVar 0) (tCons (tLst (tCons (tC (.str "old")) (tCons (tC (.str "new")) (tCons (tC (.str "none")) (tCons (tC (.str "line")) (tCons (tC (.str "self")) (tCons (tC (.str "")) (tCons (tC .non) (tCons (tC (.int 0)) (tCons (tTup tNil) (tCons (tTup (tCons (tC (.str "none")) tNil)) (tCons (tOp (rI CPow fun i j => .int (i ^ j.toNat)) (tC (.int 10)) (tC (.int 40))) tNil)))))))))))) tNil)))))
theorem other_ok {K : PySem.W.Frag} {R : Ends} {H : Hp} {m c g : Addr} {n : Int} {v : V} {d : PyData} {k : Nat} (dr : Dr H m c g n) (n1 : n < 20000) (dt : Dt H m g v d)
    (q : ∀ (H' : Hp) (v' : V) (d' : PyData), Kp m g H H' → Dr H' m c g (n + 1) → Dt H' m g v' d' → OkN (k + 1) d' → R.rt v' H') : tOtherB K R [some (.ref m), some v] H := by
  refine ⟨_, rfl, v, .ty "bool", .type (tyN d), .type "bool", isB d, rfl, .ty _, dt.ty, kit_B dt, _, rfl, ?_⟩
  cases hB : isB d with
  | true =>
    obtain ⟨b, rfl⟩ : ∃ b, d = .bool b := by cases d <;> simp_all [isB]
    cases dt
    refine iteT ⟨_, rfl, _, rfl, _, rfl, ?_⟩
    refine pick_ok (k := k + 1) (xs := [.bl (!b), .int 1, .int 0, .non, .str "True"]) dr (by omega) (by simp) (by simp) (fun x hx => ?_) q
    simp only [List.mem_cons, List.not_mem_nil, or_false] at hx
    rcases hx with e | e | e | e | e <;> subst e
    · exact ⟨_, .bl _, okn_bl _ _⟩
    · exact ⟨_, .int _, okn_int _ _⟩
    · exact ⟨_, .int _, okn_int _ _⟩
    · exact ⟨_, .non, okn_non _⟩
    · exact ⟨_, .str _, okn_str _ (by decide +kernel) _⟩
  | false =>
    refine iteF ⟨_, rfl, v, .ty "int", .type (tyN d), .type "int", isI d, rfl, .ty _, dt.ty, kit_I dt, _, rfl, ?_⟩
    cases hI : isI d with
    | true =>
      obtain ⟨i, rfl⟩ : ∃ i, d = .int i := by cases d <;> simp_all [isI, isB]
      cases dt
      have dg := digit_ok i
      refine iteT ⟨_, rfl, _, rfl, _, _, rfl, rfl, _, rfl, _, _, rfl, rfl, _, rfl, _, rfl, _, _, rfl, rfl, (by show (10 : Int) ≠ 0; decide), _, rfl, dg.2, ?_⟩
      refine pick_ok (k := k + 1) (xs := [.int (i + 1), .int (i - 1), .int (-1), .int 0, .int 7, .int 8, .bl true, .bl false, .non, .str (toString (i.fmod 10))]) dr (by omega) (by simp) (by simp) (fun x hx => ?_) q
      simp only [List.mem_cons, List.not_mem_nil, or_false] at hx
      rcases hx with e | e | e | e | e | e | e | e | e | e <;> subst e
      · exact ⟨_, .int _, okn_int _ _⟩
      · exact ⟨_, .int _, okn_int _ _⟩
      · exact ⟨_, .int _, okn_int _ _⟩
      · exact ⟨_, .int _, okn_int _ _⟩
      · exact ⟨_, .int _, okn_int _ _⟩
      · exact ⟨_, .int _, okn_int _ _⟩
      · exact ⟨_, .bl _, okn_bl _ _⟩
      · exact ⟨_, .bl _, okn_bl _ _⟩
      · exact ⟨_, .non, okn_non _⟩
      · exact ⟨_, .str _, okn_str _ dg.1 _⟩
    | false =>
      refine iteF ⟨_, rfl, Nat.zero_le _, fun a na => ?_⟩
      have am := dr.ne_m na
      have ag := dr.ne_g na
      have s1 := same_upd (o := .tup []) na
      have ha : upd H a (.tup []) a = some (.tup []) := upd_same
      generalize upd H a (.tup []) = H1 at s1 ha ⊢
      have d1 := dr.keep s1
      refine ⟨by show 1 ≤ sizeLine; decide, fun b nb => ?_⟩
      have bm := d1.ne_m nb
      have bg := d1.ne_g nb
      have s2 := same_upd (o := .tup [.str "none"]) nb
      have hb : upd H1 b (.tup [.str "none"]) b = some (.tup [.str "none"]) := upd_same
      generalize upd H1 b (.tup [.str "none"]) = H2 at s2 hb ⊢
      have d2 := d1.keep s2
      refine ⟨_, _, rfl, rfl, by unfold CPow; decide, ?_⟩
      refine pick_ok (k := k + 1) (xs := [.str "old", .str "new", .str "none", .str "line", .str "self", .str "", .non, .int 0, .ref a, .ref b, .int (10 ^ 40)]) d2 (by omega) (by simp) (by simp) (fun x hx => ?_) (fun H' v' d' kp => q H' v' d' ((Kp.of (s1.trans s2)).trans kp))
      simp only [List.mem_cons, List.not_mem_nil, or_false] at hx
      rcases hx with e | e | e | e | e | e | e | e | e | e | e <;> subst e
      · exact ⟨_, .str _, okn_str _ (by decide +kernel) _⟩
      · exact ⟨_, .str _, okn_str _ (by decide +kernel) _⟩
      · exact ⟨_, .str _, okn_str _ (by decide +kernel) _⟩
      · exact ⟨_, .str _, okn_str _ (by decide +kernel) _⟩
      · exact ⟨_, .str _, okn_str _ (by decide +kernel) _⟩
      · exact ⟨_, .str _, okn_str _ (by decide +kernel) _⟩
      · exact ⟨_, .non, okn_non _⟩
      · exact ⟨_, .int _, okn_int _ _⟩
      · exact ⟨.tuple [], .tup (s2 _ _ ha) am ag .nil, rfl, by show 0 + 1 ≤ k + 1; omega⟩
      · exact ⟨.tuple [.str "none"], .tup hb bm bg (.cons (.str _) .nil), by decide +kernel, by show max 0 0 + 1 ≤ k + 1; omega⟩
      · exact ⟨_, .int _, okn_int _ _⟩
section
variable {P : Program} {w : World} {K : PySem.W.Frag} {mg : Str → Option Value} {base : Heap}
abbrev s_law_other : Stmt := top 68
theorem sc_law_other : FnScope ["m", "thing"] ["m", "thing"] (defScope s_law_other) := ⟨rfl, rfl, rfl, by decide +kernel, rfl, by decide +kernel, by decide +kernel⟩
theorem ok_law_other (T : Txt K mg) (k_law_draw : Kn P w K mg base 2 "_law_draw" ["m", "limit"] sp_draw) (k_law_of : Kn P w K mg base 3 "_law_of" ["m", "some"] spOf) (at_ : At K mg "_law_other" s_law_other ["m", "thing"]) : Kn P w K mg base 4 "_law_other" ["m", "thing"] spOther := by
  refine Kn.mkN (st := s_law_other) (N := ["m", "thing"]) at_ sc_law_other (fun vs H Q E h => ?_) (fun f cdv A outer s_ H vs Q E hr free h => ?_)
  · obtain ⟨m, c, g, n, v, d, k, rfl, _⟩ := h
    rfl
  · obtain ⟨m, c, g, n, v, d, k, rfl, dr, n1, dt, od, short, q⟩ := h
    refine ⟨_, (pss_cons (ps_if (PW.pt (pw_and (pt_val (pe_callB (id := "isinstance") (show CallR _ (.builtin "isinstance") (rIsi K) from call_isi) (by rfl) T.b_isinstance (by decide +kernel) (pa_cons (pv 1) (pa_cons (pe_bltn (v := .ty "tuple") (by rfl) T.b_tuple (by decide +kernel) rfl) pa_nil)))) (pw_and1 (pt_cmpR op_eq (pe_callN k_law_draw free (hr.mono (by decide)) rfl passL (pa_cons (pv 0) (pa_cons pe_int pa_nil))) pe_int (nomark _))))) (pss_one (ps_ret (pe_callN k_law_of free (hr.mono (by decide)) rfl passL (pa_cons (pv 0) (pa_cons (pe_lst (pa_cons (pe_op op_catA (pv 1) (pe_slice sl_tupA (pv 1) po_none (po_some pe_int))) (pa_cons (pe_slice sl_tupA (pv 1) (po_some pe_int) po_none) (pa_cons (pe_op op_catA (pv 1) (pe_tup (pa_cons pe_int pa_nil))) (pa_cons (pe_callTy call_list_of (by rfl) T.b_list (by decide +kernel) (pa_cons (pv 1) pa_nil)) (pa_cons (pe_tup pa_nil) pa_nil)))))) pa_nil))))) pss_nil) (pss_cons (ps_if (pt_val (pe_callB (id := "isinstance") (show CallR _ (.builtin "isinstance") (rIsi K) from call_isi) (by rfl) T.b_isinstance (by decide +kernel) (pa_cons (pv 1) (pa_cons (pe_bltn (v := .ty "bool") (by rfl) T.b_bool (by decide +kernel) rfl) pa_nil)))) (pss_one (ps_ret (pe_callN k_law_of free (hr.mono (by decide)) rfl passL (pa_cons (pv 0) (pa_cons (pe_lst (pa_cons (pe_not (pv 1)) (pa_cons pe_int (pa_cons pe_int (pa_cons pe_non (pa_cons pe_str pa_nil)))))) pa_nil))))) pss_nil) (pss_cons (ps_if (pt_val (pe_callB (id := "isinstance") (show CallR _ (.builtin "isinstance") (rIsi K) from call_isi) (by rfl) T.b_isinstance (by decide +kernel) (pa_cons (pv 1) (pa_cons (pe_bltn (v := .ty "int") (by rfl) T.b_int (by decide +kernel) rfl) pa_nil)))) (pss_one (ps_ret (pe_callN k_law_of free (hr.mono (by decide)) rfl passL (pa_cons (pv 0) (pa_cons (pe_lst (pa_cons (pe_op op_add (pv 1) pe_int) (pa_cons (pe_op op_sub (pv 1) pe_int) (pa_cons (pe_un un_neg pe_int) (pa_cons pe_int (pa_cons pe_int (pa_cons pe_int (pa_cons pe_bl (pa_cons pe_bl (pa_cons pe_non (pa_cons (pe_callTy call_str_int (by rfl) T.b_str (by decide +kernel) (pa_cons (pe_op op_modN (pv 1) pe_int) pa_nil)) pa_nil))))))))))) pa_nil))))) pss_nil) (pss_one (ps_ret (pe_callN k_law_of free (hr.mono (by decide)) rfl passL (pa_cons (pv 0) (pa_cons (pe_lst (pa_cons pe_str (pa_cons pe_str (pa_cons pe_str (pa_cons pe_str (pa_cons pe_str (pa_cons pe_str (pa_cons pe_non (pa_cons pe_int (pa_cons (pe_tup pa_nil) (pa_cons (pe_tup (pa_cons pe_str pa_nil)) (pa_cons (pe_op op_pow pe_int pe_int) pa_nil)))))))))))) pa_nil)))))))), ?_⟩
    refine ⟨_, rfl, v, .ty "tuple", .type (tyN d), .type "tuple", isT d, rfl, .ty _, dt.ty, kit_T dt, _, rfl, ?_⟩
    have rest : ∀ (H1 : Hp) (n2 : Int), Kp m g H H1 → Dr H1 m c g n2 → n2 ≤ n + 1 → tOtherB K { nx := fun x H' => Q V.non H', rt := Q } [some (.ref m), some v] H1 := fun H1 n2 kp d1 h1 => other_ok d1 (by omega) (dt.keep kp) fun H' v' d' kp' d2 dt' ok' => q H' (n2 + 1) v' d' (kp.trans kp') d2 (by omega) dt' ok'
    cases hT : isT d with
    | false => exact iteF (rest H n Kp.refl dr (by omega))
    | true =>
      obtain ⟨ds, rfl⟩ := isT_tup hT
      cases dt with
      | @tup a xs _ hx na1 na2 da =>
      have el := da.len
      have sh := short ds rfl
      refine iteT ⟨_, rfl, m, c, g, n, 2, rfl, dr, by omega, by decide, by decide, fun H1 r kp1 d1 r0 r1 => ⟨rfl, _, rfl, ?_⟩⟩
      by_cases c0 : V.int r = V.int 0
      · refine (if_pos (decide_eq_true c0)).mpr ?_
        have hx1 := kp1 _ _ hx na1 na2
        have k1 := okn_pos od
        have mem : ∀ e ∈ ds, OkN (k - 1) e := fun e he => okn_mem od he
        refine ⟨_, rfl, _, rfl, _, rfl, 1, rfl, sl_ok hx1 fun p1 H2 s2 hp1 => cat_tup (s2 _ _ hx1) hp1 ?_ fun p2 H3 s3 hp2 => ?_⟩
        · have := cutV_len (xs := xs) (lo := none) (hi := some 1)
          exact Nat.le_of_lt (small1000 (by omega))
        have hx3 := s3 _ _ (s2 _ _ hx1)
        refine ⟨_, rfl, 1, rfl, ?_⟩
        refine no_hi ?_
        refine sl_ok hx3 fun p3 H4 s4 hp3 => ?_
        refine ⟨_, rfl, by show 1 ≤ sizeLine; decide, fun z nz => ?_⟩
        have s5 := same_upd (o := .tup [.int 0]) nz
        have hz : upd H4 z (.tup [.int 0]) z = some (.tup [.int 0]) := upd_same
        generalize upd H4 z (.tup [.int 0]) = H5 at s5 hz ⊢
        have hx5 := s5 _ _ (s4 _ _ hx3)
        refine cat_tup hx5 hz ?_ fun p4 H6 s6 hp4 => ?_
        · exact Nat.le_of_lt (small1000 (by show xs.length + 1 ≤ 1000; omega))
        have hx6 := s6 _ _ hx5
        have d6 : Dr H6 m c g (n + 1) := ((((d1.keep s2).keep s3).keep s4).keep s5).keep s6
        refine ⟨_, rfl, a, xs, rfl, .inr (SqT.of hx6), fun l nl => ?_⟩
        have lm := d6.ne_m nl
        have lg := d6.ne_g nl
        have s7 := same_upd (o := .lst xs) nl
        have hl : upd H6 l (.lst xs) l = some (.lst xs) := upd_same
        generalize upd H6 l (.lst xs) = H7 at s7 hl ⊢
        have d7 := d6.keep s7
        refine ⟨Nat.zero_le _, fun e ne => ?_⟩
        have em := d7.ne_m ne
        have eg := d7.ne_g ne
        have s8 := same_upd (o := .tup []) ne
        have he : upd H7 e (.tup []) e = some (.tup []) := upd_same
        generalize upd H7 e (.tup []) = H8 at s8 he ⊢
        have d8 := d7.keep s8
        have s18 : Same H1 H8 := (((((s2.trans s3).trans s4).trans s5).trans s6).trans s7).trans s8
        have da8 : DtA H8 m g xs ds := (da.keep kp1).same s18
        have h2 := s8 _ _ (s7 _ _ (s6 _ _ (s5 _ _ (s4 _ _ hp2))))
        have h3 := s8 _ _ (s7 _ _ (s6 _ _ (s5 _ _ hp3)))
        have h4 := s8 _ _ (s7 _ _ hp4)
        have hl8 := s8 _ _ hl
        refine pick_ok (k := k + 1) (xs := [.ref p2, .ref p3, .ref p4, .ref l, .ref e]) d8 (by omega) (by simp) (by simp) (fun x hx => ?_) (fun H' v' d' kp d9 dt' ok' => q H' (n + 1 + 1) v' d' ((kp1.trans (Kp.of s18)).trans kp) d9 (by omega) dt' ok')
        simp only [List.mem_cons, List.not_mem_nil, or_false] at hx
        have kk : k - 1 + 1 ≤ k + 1 := by omega
        rcases hx with e | e | e | e | e <;> subst e
        · have nn := Dt.ofTup d8 h2
          exact ⟨_, .tup h2 nn.1 nn.2 (da8.app (da8.cut _ _)), (okn_tup fun e he => by
            rcases List.mem_append.mp he with h | h
            · exact mem e h
            · exact mem e (cutD_mem h)).mono kk⟩
        · have nn := Dt.ofTup d8 h3
          exact ⟨_, .tup h3 nn.1 nn.2 (da8.cut _ _), (okn_tup fun e he => mem e (cutD_mem he)).mono kk⟩
        · have nn := Dt.ofTup d8 h4
          exact ⟨_, .tup h4 nn.1 nn.2 (da8.app (.cons (.int 0) .nil)), (okn_tup fun e he => by
            rcases List.mem_append.mp he with h | h
            · exact mem e h
            · rw [List.mem_singleton.mp h]
              exact okn_int _ _).mono kk⟩
        · exact ⟨_, .lst hl8 lm lg da8, (okn_lst fun e he => mem e he).mono kk⟩
        · exact ⟨.tuple [], .tup he em eg .nil, rfl, by show 0 + 1 ≤ k + 1; omega⟩
      · refine (if_neg (by simpa using c0)).mpr ?_
        exact rest H1 (n + 1) kp1 d1 (by omega)
end
end Hk
set_option Elab.async false
set_option linter.all false
set_option maxRecDepth 100000
set_option maxHeartbeats 4000000
namespace Hk
open PySem PySem.Spec PyProof.Rows L2
/-- t[:at] + (x,) + t[at + 1:] -/
def tSplice (K : PySem.W.Frag) (i j : Nat) (tx : TE) : TE := tOp (rCatA K) (tOp (rCatA K) (tSl (rSlA K) (tVar i) tNoPart (tPart (tVar j))) (tTup (tCons tx tNil))) (tSl (rSlA K) (tVar i) (tPart (tOp (rI0 fun i j => .int (i + j)) (tVar j) (tC (.int 1)))) tNoPart)
theorem splice_ok {K : PySem.W.Frag} {i j : Nat} {tx : TE} {σ : L2.St} {H1 : Hp} {m c g a : Addr} {n N : Int} {at_ k : Nat} {xs : List V} {ds : List PyData} {Q : VK} (dr : Dr H1 m c g n) (hi : σ[i]? = some (some (.ref a))) (hj : σ[j]? = some (some (.int (at_ : Nat)))) (ha : H1 a = some (.tup xs)) (am : a ≠ m) (ag : a ≠ g) (da : DtA H1 m g xs ds)
    (short : xs.length ≤ 200) (ok : ∀ e ∈ ds, OkN k e)
    (hX : ∀ (H2 : Hp) (R : VK), Same H1 H2 → (∀ (H3 : Hp) (n' : Int) (v' : V) (d' : PyData), Kp m g H2 H3 → Dr H3 m c g n' → n' ≤ N → Dt H3 m g v' d' → OkN k d' → R v' H3) → tx σ H2 R)
    (q : ∀ (H' : Hp) (n' : Int) (p : Addr) (es : List PyData), Kp m g H1 H' → Dr H' m c g n' → n' ≤ N → Dt H' m g (.ref p) (.tuple es) → OkN (k + 1) (.tuple es) → Q (.ref p) H') : tSplice K i j tx σ H1 Q := by
  refine ⟨_, hi, _, hj, _, rfl, ?_⟩
  refine sl_ok ha fun p1 H2 s2 hp1 => ?_
  refine hX H2 _ s2 fun H3 n' v' d' kp3 d3 hn dt od => ?_
  refine ⟨by show 1 ≤ sizeLine; decide, fun y ny => ?_⟩
  have p1n := Dt.ofTup (dr.keep s2) hp1
  have ym := d3.ne_m ny
  have yg := d3.ne_g ny
  have s4 := same_upd (o := .tup [v']) ny
  have hy : upd H3 y (.tup [v']) y = some (.tup [v']) := upd_same
  generalize upd H3 y (.tup [v']) = H4 at s4 hy ⊢
  have kp14 : Kp m g H1 H4 := ((Kp.of s2).trans kp3).trans (Kp.of s4)
  have hp14 : H4 p1 = some (.tup (cutV xs none (some (at_ : Int)))) := s4 _ _ (kp3 _ _ hp1 p1n.1 p1n.2)
  have l1 := cutV_len (xs := xs) (lo := none) (hi := some (at_ : Int))
  refine cat_tup hp14 hy (Nat.le_of_lt (small1000 (by show _ + 1 ≤ 1000; omega))) fun p2 H5 s5 hp2 => ?_
  have ha5 := s5 _ _ (kp14 _ _ ha am ag)
  refine ⟨_, hi, _, hj, _, _, rfl, rfl, _, rfl, ?_⟩
  refine no_hi ?_
  refine sl_ok ha5 fun p3 H6 s6 hp3 => ?_
  have l2 := cutV_len (xs := xs) (lo := some ((at_ : Int) + 1)) (hi := none)
  refine cat_tup (s6 _ _ hp2) hp3 (Nat.le_of_lt (small1000 (by rw [List.length_append]; show _ + 1 + _ ≤ 1000; omega))) fun p4 H7 s7 hp4 => ?_
  have s47 := (s5.trans s6).trans s7
  have d7 := (d3.keep s4).keep s47
  have pn := Dt.ofTup d7 hp4
  have da7 := da.keep (kp14.trans (Kp.of s47))
  refine q H7 n' p4 _ (kp14.trans (Kp.of s47)) d7 hn (.tup hp4 pn.1 pn.2 (((da7.cut _ _).app (.cons ((dt.same s4).same s47) .nil)).app (da7.cut _ _))) (okn_tup fun e he => ?_)
  rcases List.mem_append.mp he with h | h
  · rcases List.mem_append.mp h with h | h
    · exact ok e (cutD_mem h)
    · rw [List.mem_singleton.mp h]
      exact od
  · exact ok e (cutD_mem h)
theorem eqv_tuple {xs : List PyData} : PyData.eqv (.tuple xs) (.tuple []) = xs.isEmpty := by
  cases xs <;> simp [PyData.eqv, PyData.eqvAll]
/-- short data: each tuple in it has at most a hundred items -/
def Shr (d : PyData) : Prop := ∀ ds, d = .tuple ds → ds.length ≤ 100
def spDeeper : Sp := fun vs H Q _ => ∃ (m c g : Addr) (n : Int) (v : V) (d : PyData) (k : Nat), vs = [.ref m, v] ∧ Dr H m c g n ∧ n < 9000 ∧ Dt H m g v d ∧ OkN k d ∧ k ≤ 60 ∧ Shr d ∧ (∀ ds, d = .tuple ds → ∀ e ∈ ds, Shr e ∧ ∀ es, e = .tuple es → ∀ e2 ∈ es, Shr e2) ∧
  ∀ (H' : Hp) (n' : Int) (v' : V) (d' : PyData), Kp m g H H' → Dr H' m c g n' → n' ≤ n + 7 → Dt H' m g v' d' → OkN (k + 3) d' → Q v' H'
section
variable {P : Program} {w : World} {K : PySem.W.Frag} {mg : Str → Option Value} {base : Heap}
abbrev s_law_deeper : Stmt := top 67
theorem sc_law_deeper : FnScope ["m", "thing", "at", "inner", "deep", "near"] ["m", "thing"] (defScope s_law_deeper) := ⟨rfl, rfl, rfl, by decide +kernel, rfl, by decide +kernel, by decide +kernel⟩
theorem ok_law_deeper (T : Txt K mg) (k_law_draw : Kn P w K mg base 2 "_law_draw" ["m", "limit"] sp_draw) (k_law_other : Kn P w K mg base 4 "_law_other" ["m", "thing"] spOther) (at_ : At K mg "_law_deeper" s_law_deeper ["m", "thing"]) : Kn P w K mg base 5 "_law_deeper" ["m", "thing"] spDeeper := by
  refine Kn.mkN (st := s_law_deeper) (N := ["m", "thing", "at", "inner", "deep", "near"]) at_ sc_law_deeper (fun vs H Q E h => ?_) (fun f cdv A outer s_ H vs Q E hr free h => ?_)
  · obtain ⟨m, c, g, n, v, d, k, rfl, _⟩ := h
    rfl
  · obtain ⟨m, c, g, n, v, d, k, rfl, dr, n1, dt, od, k60, short, short2, q⟩ := h
    refine ⟨_, (pss_cons (ps_if (PW.pt (pw_or (pt_not (pt_val (pe_callB (id := "isinstance") (show CallR _ (.builtin "isinstance") (rIsi K) from call_isi) (by rfl) T.b_isinstance (by decide +kernel) (pa_cons (pv 1) (pa_cons (pe_bltn (v := .ty "tuple") (by rfl) T.b_tuple (by decide +kernel) rfl) pa_nil))))) (pw_or (pt_cmpR (op_eqD hr.units) (pv 1) (pe_tup pa_nil) (nomark _)) (pw_or1 (pt_cmpR op_eq (pe_callN k_law_draw free (hr.mono (by decide)) rfl passL (pa_cons (pv 0) (pa_cons pe_int pa_nil))) pe_int (nomark _)))))) (pss_one (ps_ret (pe_callN k_law_other free (hr.mono (by decide)) rfl passL (pa_cons (pv 0) (pa_cons (pv 1) pa_nil))))) pss_nil) (pss_cons (ps_set (i := 2) sc_law_deeper.nd rfl (Or.inl rfl) (pe_callN k_law_draw free (hr.mono (by decide)) rfl passL (pa_cons (pv 0) (pa_cons (pe_callB (id := "len") call_len_seq (by rfl) T.b_len (by decide +kernel) (pa_cons (pv 1) pa_nil)) pa_nil)))) (pss_cons (ps_set (i := 3) sc_law_deeper.nd rfl (Or.inl rfl) (pe_ix ix_tup (pv 1) (pv 2) (fun _ _ => rfl))) (pss_cons (ps_if (PW.pt (pw_and (pt_val (pe_callB (id := "isinstance") (show CallR _ (.builtin "isinstance") (rIsi K) from call_isi) (by rfl) T.b_isinstance (by decide +kernel) (pa_cons (pv 3) (pa_cons (pe_bltn (v := .ty "tuple") (by rfl) T.b_tuple (by decide +kernel) rfl) pa_nil)))) (pw_and (pt_cmpR (op_neD hr.units) (pv 3) (pe_tup pa_nil) (nomark _)) (pw_and1 (pt_cmpR op_gt (pe_callN k_law_draw free (hr.mono (by decide)) rfl passL (pa_cons (pv 0) (pa_cons pe_int pa_nil))) pe_int (nomark _)))))) (pss_cons (ps_set (i := 4) sc_law_deeper.nd rfl (Or.inl rfl) (pe_callN k_law_draw free (hr.mono (by decide)) rfl passL (pa_cons (pv 0) (pa_cons (pe_callB (id := "len") call_len_seq (by rfl) T.b_len (by decide +kernel) (pa_cons (pv 3) pa_nil)) pa_nil)))) (pss_cons (ps_set (i := 5) sc_law_deeper.nd rfl (Or.inl rfl) (pe_op op_catA (pe_op op_catA (pe_slice sl_tupA (pv 3) po_none (po_some (pv 4))) (pe_tup (pa_cons (pe_callN k_law_other free (hr.mono (by decide)) rfl passL (pa_cons (pv 0) (pa_cons (pe_ix ix_tup (pv 3) (pv 4) (fun _ _ => rfl)) pa_nil))) pa_nil))) (pe_slice sl_tupA (pv 3) (po_some (pe_op op_add (pv 4) pe_int)) po_none))) (pss_one (ps_ret (pe_op op_catA (pe_op op_catA (pe_slice sl_tupA (pv 1) po_none (po_some (pv 2))) (pe_tup (pa_cons (pv 5) pa_nil))) (pe_slice sl_tupA (pv 1) (po_some (pe_op op_add (pv 2) pe_int)) po_none)))))) pss_nil) (pss_one (ps_ret (pe_op op_catA (pe_op op_catA (pe_slice sl_tupA (pv 1) po_none (po_some (pv 2))) (pe_tup (pa_cons (pe_callN k_law_other free (hr.mono (by decide)) rfl passL (pa_cons (pv 0) (pa_cons (pv 3) pa_nil))) pa_nil))) (pe_slice sl_tupA (pv 1) (po_some (pe_op op_add (pv 2) pe_int)) po_none)))))))), ?_⟩
    refine ⟨_, rfl, v, .ty "tuple", .type (tyN d), .type "tuple", isT d, rfl, .ty _, dt.ty, kit_T dt, _, rfl, ?_⟩
    have other : ∀ (H1 : Hp) (n2 : Int), Kp m g H H1 → Dr H1 m c g n2 → n2 ≤ n + 1 → tRet (tCall spOther [] E0 (tCons (tVar 0) (tCons (tVar 1) tNil))) { nx := fun x H' => Q V.non H', rt := Q } [some (.ref m), some v, none, none, none, none] H1 := fun H1 n2 kp d1 h1 =>
      ⟨_, rfl, _, rfl, m, c, g, n2, v, d, k, rfl, d1, by omega, dt.keep kp, od, short, fun H' n' v' d' kp' d2 hn dt' ok' => q H' n' v' d' (kp.trans kp') d2 (by omega) dt' (ok'.mono (by omega))⟩
    cases hT : isT d with
    | false => exact iteT (iteT (other H n Kp.refl dr (by omega)))
    | true =>
      obtain ⟨ds, rfl⟩ := isT_tup hT
      have dt0 := dt
      cases dt with
      | @tup a xs _ hx na1 na2 da =>
      have el := da.len
      have sh := short ds rfl
      refine iteF ⟨_, rfl, Nat.zero_le _, fun e ne => ?_⟩
      have se := same_upd (o := .tup []) ne
      have hee : upd H e (.tup []) e = some (.tup []) := upd_same
      generalize upd H e (.tup []) = H0 at se hee ⊢
      refine ⟨.tuple ds, .tuple [], (dt0.same se).dp, .tup (SqT.of hee) .nil, od.okd (by omega), rfl, _, rfl, ?_⟩
      rw [eqv_tuple]
      by_cases hds : ds = []
      · refine (if_pos (by rw [hds]; rfl)).mpr (iteT ?_)
        exact other H0 n (Kp.of se) (dr.keep se) (by omega)
      · have e0 : ds.isEmpty = false := by
          cases ds with
          | nil => exact absurd rfl hds
          | cons _ _ => rfl
        have l1 : 1 ≤ ds.length := List.length_pos_iff.mpr hds
        refine (if_neg (by rw [e0]; exact Bool.false_ne_true)).mpr ?_
        refine ⟨_, rfl, m, c, g, n, 4, rfl, dr.keep se, by omega, by decide, by decide, fun H1 r kp1 d1 _ _ => ⟨rfl, _, rfl, ?_⟩⟩
        have kp01 := (Kp.of se).trans kp1
        by_cases c0 : V.int r = V.int 0
        · refine (if_pos (decide_eq_true c0)).mpr ?_
          exact other H1 (n + 1) kp01 d1 (by omega)
        · refine (if_neg (by simpa using c0)).mpr ?_
          have hx1 := kp01 _ _ hx na1 na2
          refine ⟨_, rfl, _, rfl, a, xs, rfl, .inr (SqT.of hx1), m, c, g, n + 1, _, rfl, d1, by omega, by omega, by omega, fun H2 r2 kp2 d2 r0 r1 => ?_⟩
          obtain ⟨j, rfl⟩ : ∃ j : Nat, r2 = (j : Int) := ⟨r2.toNat, by omega⟩
          have hj : j < xs.length := by omega
          have kp02 := kp01.trans kp2
          have hx2 := kp2 _ _ hx1 na1 na2
          obtain ⟨dj, hdj, dtj⟩ := da.at' (i := j) (v := xs[j]) (List.getElem?_eq_getElem hj)
          have dtj2 := dtj.keep kp02
          have okj : OkN (k - 1) dj := okn_mem od (List.mem_of_getElem? hdj)
          have k1 := okn_pos od
          have shj := short2 ds rfl dj (List.mem_of_getElem? hdj)
          have mem : ∀ e ∈ ds, OkN (k + 2) e := fun e he => (okn_mem od he).mono (by omega)
          refine ⟨_, rfl, _, rfl, a, xs, _, xs[j], rfl, rfl, SqT.of hx2, atI_nat (List.getElem?_eq_getElem hj), ?_⟩
          generalize xs[j] = w0 at dtj dtj2 ⊢
          have last : ∀ (H3 : Hp) (n3 : Int), Kp m g H H3 → Dr H3 m c g n3 → n3 ≤ n + 3 → tRet (tSplice K 1 2 (tCall spOther [] E0 (tCons (tVar 0) (tCons (tVar 3) tNil)))) { nx := fun x H' => Q V.non H', rt := Q } [some (.ref m), some (.ref a), some (.int (j : Nat)), some w0, none, none] H3 := by
            intro H3 n3 kp3 d3 h3
            refine splice_ok (k := k + 2) (N := n + 5) d3 rfl rfl (kp3 _ _ hx na1 na2) na1 na2 (da.keep kp3) (by omega) mem (fun H4 R s4 hR => ?_) (fun H' n' p es kp' d' hn dt' ok' => q H' n' _ _ (kp3.trans kp') d' (by omega) dt' ok')
            refine ⟨_, rfl, _, rfl, m, c, g, n3, w0, dj, k - 1, rfl, d3.keep s4, by omega, (dtj.keep kp3).same s4, okj, shj.1, fun H' n' v' d' kp' d4 hn dt' ok' => hR H' n' v' d' kp' d4 (by omega) dt' (ok'.mono (by omega))⟩
          refine ⟨_, rfl, w0, .ty "tuple", .type (tyN dj), .type "tuple", isT dj, rfl, .ty _, dtj2.ty, kit_T dtj2, _, rfl, ?_⟩
          cases hT2 : isT dj with
          | false => exact iteF (iteF (last H2 (n + 1 + 1) kp02 d2 (by omega)))
          | true =>
            obtain ⟨es, rfl⟩ := isT_tup hT2
            have dtj2' := dtj2
            cases dtj2 with
            | @tup b ys _ hy nb1 nb2 ea =>
            have el2 := ea.len
            have sh2 := shj.1 es rfl
            refine iteT ⟨_, rfl, Nat.zero_le _, fun e ne => ?_⟩
            have se2 := same_upd (o := .tup []) ne
            have hee2 : upd H2 e (.tup []) e = some (.tup []) := upd_same
            generalize upd H2 e (.tup []) = H3 at se2 hee2 ⊢
            have d3 := d2.keep se2
            have kp03 := kp02.trans (Kp.of se2)
            refine ⟨.tuple es, .tuple [], (dtj2'.same se2).dp, .tup (SqT.of hee2) .nil, okj.okd (by omega), rfl, _, rfl, ?_⟩
            rw [eqv_tuple]
            by_cases hes : es = []
            · refine (if_neg (by rw [hes]; simp)).mpr (iteF ?_)
              exact last H3 (n + 1 + 1) kp03 d3 (by omega)
            · have e1 : es.isEmpty = false := by
                cases es with
                | nil => exact absurd rfl hes
                | cons _ _ => rfl
              have l2 : 1 ≤ es.length := List.length_pos_iff.mpr hes
              refine (if_pos (by rw [e1]; rfl)).mpr ?_
              refine ⟨_, rfl, m, c, g, n + 1 + 1, 4, rfl, d3, by omega, by decide, by decide, fun H4 r3 kp4 d4 _ _ => ⟨_, _, rfl, rfl, _, rfl, ?_⟩⟩
              have kp04 := kp03.trans kp4
              by_cases rp : 0 < r3
              · refine (if_pos (decide_eq_true rp)).mpr ?_
                have hy4 := kp4 _ _ (se2 _ _ hy) nb1 nb2
                refine ⟨_, rfl, _, rfl, b, ys, rfl, .inr (SqT.of hy4), m, c, g, n + 1 + 1 + 1, _, rfl, d4, by omega, by omega, by omega, fun H5 r5 kp5 d5 r50 r51 => ?_⟩
                obtain ⟨i, rfl⟩ : ∃ i : Nat, r5 = (i : Int) := ⟨r5.toNat, by omega⟩
                have hi : i < ys.length := by omega
                obtain ⟨di, hdi, dti⟩ := ea.at' (i := i) (v := ys[i]) (List.getElem?_eq_getElem hi)
                have kp25 : Kp m g H2 H5 := ((Kp.of se2).trans kp4).trans kp5
                have hy5 := kp5 _ _ hy4 nb1 nb2
                have oki : OkN (k - 1 - 1) di := okn_mem okj (List.mem_of_getElem? hdi)
                have shi := shj.2 es rfl di (List.mem_of_getElem? hdi)
                have k2 := okn_pos okj
                refine splice_ok (i := 3) (j := 4) (k := k + 1) (N := n + 6) d5 rfl rfl hy5 nb1 nb2 (ea.keep kp25) (by omega) (fun e he => (okn_mem okj he).mono (by omega)) (fun H6 R s6 hR => ?_) (fun H6 n6 p fs kp6 d6 hn6 dt6 ok6 => ?_)
                · refine ⟨_, rfl, _, rfl, _, rfl, b, ys, _, ys[i], rfl, rfl, SqT.of (s6 _ _ hy5), atI_nat (List.getElem?_eq_getElem hi), m, c, g, n + 1 + 1 + 1 + 1, _, di, k - 1 - 1, rfl, d5.keep s6, by omega, (dti.keep kp25).same s6, oki, shi, fun H' n' v' d' kp' d7 hn dt' ok' => hR H' n' v' d' kp' d7 (by omega) dt' (ok'.mono (by omega))⟩
                · have kp06 := ((kp02.trans kp25).trans kp6)
                  refine splice_ok (i := 1) (j := 2) (k := k + 2) (N := n + 6) d6 rfl rfl (kp06 _ _ hx na1 na2) na1 na2 (da.keep kp06) (by omega) mem (fun H7 R s7 hR => ?_) (fun H' n' p es kp' d' hn dt' ok' => q H' n' _ _ (kp06.trans kp') d' (by omega) dt' ok')
                  exact ⟨_, rfl, hR H7 n6 _ _ Kp.refl (d6.keep s7) hn6 (dt6.same s7) ok6⟩
              · refine (if_neg (by simpa using rp)).mpr ?_
                exact last H4 (n + 1 + 1 + 1) kp04 d4 (by omega)
end
end Hk
set_option Elab.async false
set_option linter.all false
set_option maxRecDepth 100000
set_option maxHeartbeats 4000000
namespace Hk
open PySem PySem.Spec PyProof.Rows L2
mutual
/-- no tuple in it has more than a hundred items -/
def smB : PyData → Bool
  | .tuple ds => decide (ds.length ≤ 100) && smA ds
  | _ => true
def smA : List PyData → Bool
  | [] => true
  | d :: ds => smB d && smA ds
end
theorem smA_all {ds : List PyData} : smA ds = ds.all smB := by
  induction ds with
  | nil => rfl
  | cons d ds ih => simp [smA, ih]
theorem sm_tup {ds : List PyData} (h : smB (.tuple ds) = true) : ds.length ≤ 100 ∧ ∀ e ∈ ds, smB e = true := by
  simp only [smB, smA_all, Bool.and_eq_true, decide_eq_true_eq, List.all_eq_true] at h
  exact h
theorem sm_shr {d : PyData} (h : smB d = true) : Shr d := fun ds e => by
  subst e
  exact (sm_tup h).1
def spSpoilt : Sp := fun vs H Q _ => ∃ (m c g : Addr) (n : Int) (v : V) (ds : List PyData) (k : Nat), vs = [.ref m, v] ∧ Dr H m c g n ∧ n < 8000 ∧ Dt H m g v (.tuple ds) ∧ OkN k (.tuple ds) ∧ k ≤ 50 ∧ smB (.tuple ds) = true ∧ 1 ≤ ds.length ∧ (∀ e ∈ ds, ∀ es, e = .tuple es → 1 ≤ es.length) ∧
  ∀ (H' : Hp) (n' : Int) (v' : V) (d' : PyData), Kp m g H H' → Dr H' m c g n' → n' ≤ n + 12 → Dt H' m g v' d' → OkN (k + 5) d' → Q v' H'
section
variable {P : Program} {w : World} {K : PySem.W.Frag} {mg : Str → Option Value} {base : Heap}
abbrev s_law_spoilt : Stmt := top 66
theorem sc_law_spoilt : FnScope ["m", "thing", "at", "inner", "deep", "near"] ["m", "thing"] (defScope s_law_spoilt) := ⟨rfl, rfl, rfl, by decide +kernel, rfl, by decide +kernel, by decide +kernel⟩
theorem ok_law_spoilt (T : Txt K mg) (k_law_draw : Kn P w K mg base 2 "_law_draw" ["m", "limit"] sp_draw) (k_law_other : Kn P w K mg base 4 "_law_other" ["m", "thing"] spOther) (k_law_deeper : Kn P w K mg base 5 "_law_deeper" ["m", "thing"] spDeeper) (at_ : At K mg "_law_spoilt" s_law_spoilt ["m", "thing"]) : Kn P w K mg base 6 "_law_spoilt" ["m", "thing"] spSpoilt := by
  refine Kn.mkN (st := s_law_spoilt) (N := ["m", "thing", "at", "inner", "deep", "near"]) at_ sc_law_spoilt (fun vs H Q E h => ?_) (fun f cdv A outer s_ H vs Q E hr free h => ?_)
  · obtain ⟨m, c, g, n, v, ds, k, rfl, _⟩ := h
    rfl
  · obtain ⟨m, c, g, n, v, ds, k, rfl, dr, n1, dt, od, k60, sm, l1, ne, q⟩ := h
    refine ⟨_, (pss_cons (ps_if (pt_cmpR op_eq (pe_callN k_law_draw free (hr.mono (by decide)) rfl passL (pa_cons (pv 0) (pa_cons pe_int pa_nil))) pe_int (nomark _)) (pss_one (ps_ret (pe_callN k_law_other free (hr.mono (by decide)) rfl passL (pa_cons (pv 0) (pa_cons (pv 1) pa_nil))))) pss_nil) (pss_cons (ps_set (i := 2) sc_law_spoilt.nd rfl (Or.inl rfl) (pe_callN k_law_draw free (hr.mono (by decide)) rfl passL (pa_cons (pv 0) (pa_cons (pe_callB (id := "len") call_len_seq (by rfl) T.b_len (by decide +kernel) (pa_cons (pv 1) pa_nil)) pa_nil)))) (pss_cons (ps_set (i := 3) sc_law_spoilt.nd rfl (Or.inl rfl) (pe_ix ix_tup (pv 1) (pv 2) (fun _ _ => rfl))) (pss_cons (ps_if (PW.pt (pw_or (pt_not (pt_val (pe_callB (id := "isinstance") (show CallR _ (.builtin "isinstance") (rIsi K) from call_isi) (by rfl) T.b_isinstance (by decide +kernel) (pa_cons (pv 3) (pa_cons (pe_bltn (v := .ty "tuple") (by rfl) T.b_tuple (by decide +kernel) rfl) pa_nil))))) (pw_or1 (pt_cmpR op_eq (pe_callN k_law_draw free (hr.mono (by decide)) rfl passL (pa_cons (pv 0) (pa_cons pe_int pa_nil))) pe_int (nomark _))))) (pss_one (ps_ret (pe_op op_catA (pe_op op_catA (pe_slice sl_tupA (pv 1) po_none (po_some (pv 2))) (pe_tup (pa_cons (pe_callN k_law_other free (hr.mono (by decide)) rfl passL (pa_cons (pv 0) (pa_cons (pv 3) pa_nil))) pa_nil))) (pe_slice sl_tupA (pv 1) (po_some (pe_op op_add (pv 2) pe_int)) po_none)))) pss_nil) (pss_cons (ps_set (i := 4) sc_law_spoilt.nd rfl (Or.inl rfl) (pe_callN k_law_draw free (hr.mono (by decide)) rfl passL (pa_cons (pv 0) (pa_cons (pe_callB (id := "len") call_len_seq (by rfl) T.b_len (by decide +kernel) (pa_cons (pv 3) pa_nil)) pa_nil)))) (pss_cons (ps_set (i := 5) sc_law_spoilt.nd rfl (Or.inl rfl) (pe_op op_catA (pe_op op_catA (pe_slice sl_tupA (pv 3) po_none (po_some (pv 4))) (pe_tup (pa_cons (pe_callN k_law_deeper free (hr.mono (by decide)) rfl passL (pa_cons (pv 0) (pa_cons (pe_ix ix_tup (pv 3) (pv 4) (fun _ _ => rfl)) pa_nil))) pa_nil))) (pe_slice sl_tupA (pv 3) (po_some (pe_op op_add (pv 4) pe_int)) po_none))) (pss_one (ps_ret (pe_op op_catA (pe_op op_catA (pe_slice sl_tupA (pv 1) po_none (po_some (pv 2))) (pe_tup (pa_cons (pv 5) pa_nil))) (pe_slice sl_tupA (pv 1) (po_some (pe_op op_add (pv 2) pe_int)) po_none)))))))))), ?_⟩
    have sm2 := sm_tup sm
    refine ⟨_, rfl, m, c, g, n, 8, rfl, dr, by omega, by decide, by decide, fun H1 r kp1 d1 _ _ => ⟨rfl, _, rfl, ?_⟩⟩
    by_cases c0 : V.int r = V.int 0
    · refine (if_pos (decide_eq_true c0)).mpr ?_
      exact ⟨_, rfl, _, rfl, m, c, g, n + 1, v, .tuple ds, k, rfl, d1, by omega, dt.keep kp1, od, sm_shr sm, fun H' n' v' d' kp' d2 hn dt' ok' => q H' n' v' d' (kp1.trans kp') d2 (by omega) dt' (ok'.mono (by omega))⟩
    · refine (if_neg (by simpa using c0)).mpr ?_
      cases dt with
      | @tup a xs _ hx na1 na2 da =>
      have el := da.len
      have hx1 := kp1 _ _ hx na1 na2
      refine ⟨_, rfl, _, rfl, a, xs, rfl, .inr (SqT.of hx1), m, c, g, n + 1, _, rfl, d1, by omega, by omega, by omega, fun H2 r2 kp2 d2 r0 r1 => ?_⟩
      obtain ⟨j, rfl⟩ : ∃ j : Nat, r2 = (j : Int) := ⟨r2.toNat, by omega⟩
      have hj : j < xs.length := by omega
      have kp02 := kp1.trans kp2
      have hx2 := kp2 _ _ hx1 na1 na2
      obtain ⟨dj, hdj, dtj⟩ := da.at' (i := j) (v := xs[j]) (List.getElem?_eq_getElem hj)
      have dtj2 := dtj.keep kp02
      have mj := List.mem_of_getElem? hdj
      have okj : OkN (k - 1) dj := okn_mem od mj
      have k1 := okn_pos od
      have smj := sm2.2 dj mj
      have mem : ∀ e ∈ ds, OkN (k + 4) e := fun e he => (okn_mem od he).mono (by omega)
      refine ⟨_, rfl, _, rfl, a, xs, _, xs[j], rfl, rfl, SqT.of hx2, atI_nat (List.getElem?_eq_getElem hj), ?_⟩
      generalize xs[j] = w0 at dtj dtj2 ⊢
      have last : ∀ (H3 : Hp) (n3 : Int), Kp m g H H3 → Dr H3 m c g n3 → n3 ≤ n + 3 → tRet (tSplice K 1 2 (tCall spOther [] E0 (tCons (tVar 0) (tCons (tVar 3) tNil)))) { nx := fun x H' => Q V.non H', rt := Q } [some (.ref m), some (.ref a), some (.int (j : Nat)), some w0, none, none] H3 := by
        intro H3 n3 kp3 d3 h3
        refine splice_ok (k := k + 4) (N := n + 5) d3 rfl rfl (kp3 _ _ hx na1 na2) na1 na2 (da.keep kp3) (by omega) mem (fun H4 R s4 hR => ?_) (fun H' n' p es kp' d' hn dt' ok' => q H' n' _ _ (kp3.trans kp') d' (by omega) dt' ok')
        refine ⟨_, rfl, _, rfl, m, c, g, n3, w0, dj, k - 1, rfl, d3.keep s4, by omega, (dtj.keep kp3).same s4, okj, sm_shr smj, fun H' n' v' d' kp' d4 hn dt' ok' => hR H' n' v' d' kp' d4 (by omega) dt' (ok'.mono (by omega))⟩
      refine ⟨_, rfl, w0, .ty "tuple", .type (tyN dj), .type "tuple", isT dj, rfl, .ty _, dtj2.ty, kit_T dtj2, _, rfl, ?_⟩
      cases hT2 : isT dj with
      | false => exact iteT (iteT (last H2 (n + 1 + 1) kp02 d2 (by omega)))
      | true =>
        obtain ⟨es, rfl⟩ := isT_tup hT2
        cases dtj2 with
        | @tup b ys _ hy nb1 nb2 ea =>
        have el2 := ea.len
        have sh2 := sm_tup smj
        have l2 := ne _ mj es rfl
        refine iteF ⟨_, rfl, m, c, g, n + 1 + 1, 5, rfl, d2, by omega, by decide, by decide, fun H4 r3 kp4 d4 _ _ => ⟨rfl, _, rfl, ?_⟩⟩
        have kp04 := kp02.trans kp4
        by_cases c1 : V.int r3 = V.int 0
        · refine (if_pos (decide_eq_true c1)).mpr ?_
          exact last H4 (n + 1 + 1 + 1) kp04 d4 (by omega)
        · refine (if_neg (by simpa using c1)).mpr ?_
          have hy4 := kp4 _ _ hy nb1 nb2
          refine ⟨_, rfl, _, rfl, b, ys, rfl, .inr (SqT.of hy4), m, c, g, n + 1 + 1 + 1, _, rfl, d4, by omega, by omega, by omega, fun H5 r5 kp5 d5 r50 r51 => ?_⟩
          obtain ⟨i, rfl⟩ : ∃ i : Nat, r5 = (i : Int) := ⟨r5.toNat, by omega⟩
          have hi : i < ys.length := by omega
          obtain ⟨di, hdi, dti⟩ := ea.at' (i := i) (v := ys[i]) (List.getElem?_eq_getElem hi)
          have kp25 : Kp m g H2 H5 := kp4.trans kp5
          have hy5 := kp5 _ _ hy4 nb1 nb2
          have mi := List.mem_of_getElem? hdi
          have oki : OkN (k - 1 - 1) di := okn_mem okj mi
          have smi := sh2.2 di mi
          have k2 := okn_pos okj
          refine splice_ok (i := 3) (j := 4) (k := k + 3) (N := n + 11) d5 rfl rfl hy5 nb1 nb2 (ea.keep kp25) (by omega) (fun e he => (okn_mem okj he).mono (by omega)) (fun H6 R s6 hR => ?_) (fun H6 n6 p fs kp6 d6 hn6 dt6 ok6 => ?_)
          · refine ⟨_, rfl, _, rfl, _, rfl, b, ys, _, ys[i], rfl, rfl, SqT.of (s6 _ _ hy5), atI_nat (List.getElem?_eq_getElem hi), m, c, g, n + 1 + 1 + 1 + 1, _, di, k - 1 - 1, rfl, d5.keep s6, by omega, (dti.keep kp25).same s6, oki, by omega, sm_shr smi, fun fs ef e he => ?_, fun H' n' v' d' kp' d7 hn dt' ok' => hR H' n' v' d' kp' d7 (by omega) dt' (ok'.mono (by omega))⟩
            subst ef
            have q1 := (sm_tup smi).2 e he
            exact ⟨sm_shr q1, fun gs eg e2 h2 => by
              subst eg
              exact sm_shr ((sm_tup q1).2 e2 h2)⟩
          · have kp06 := ((kp02.trans kp25).trans kp6)
            refine splice_ok (i := 1) (j := 2) (k := k + 4) (N := n + 11) d6 rfl rfl (kp06 _ _ hx na1 na2) na1 na2 (da.keep kp06) (by omega) mem (fun H7 R s7 hR => ?_) (fun H' n' p es kp' d' hn dt' ok' => q H' n' _ _ (kp06.trans kp') d' (by omega) dt' ok')
            exact ⟨_, rfl, hR H7 n6 _ _ Kp.refl (d6.keep s7) hn6 (dt6.same s7) ok6⟩
end
end Hk
set_option Elab.async false
set_option linter.all false
set_option maxRecDepth 100000
set_option maxHeartbeats 4000000
namespace Hk
open PySem PySem.Spec PyProof.Rows L2
def MAt (K : PySem.W.Frag) (C : Addr) (nm qual : Str) (st : Stmt) (ps : List Str) : Prop := ∃ (f : Addr) (fd : FuncData), Fun K nm qual st f fd ∧ Meth K C nm f ∧ Binds K fd ps []
def Mn (P : Program) (w : World) (K : PySem.W.Frag) (mg : Str → Option Value) (base : Heap) (k : Nat) (C : Addr) (nm : Str) (ps : List Str) (sp : Sp) : Prop := ∃ (f : Addr) (fd : FuncData), FnOk P w K mg base CX0 k f fd ps sp ∧ Meth K C nm f ∧ Binds K fd ps []
def Fk (P : Program) (w : World) (K : PySem.W.Frag) (mg : Str → Option Value) (base : Heap) (k : Nat) (nm : Str) (ps : List Str) (sp : Sp) : Prop := ∃ (f : Addr) (fd : FuncData), FnOk P w K mg base CX0 k f fd ps sp ∧ mg nm = some (.ref f) ∧ PySem.W.keepIn K (.ref f) = true ∧ Binds K fd ps []
/-- a class's own __init__ -/
def IAt (K : PySem.W.Frag) (mg : Str → Option Value) (C : Addr) (x qual : Str) (st : Stmt) (ps : List Str) : Prop := ∃ (f : Addr) (fd : FuncData), Fun K "__init__" qual st f fd ∧ Mk K C f ∧ mg x = some (.ref C) ∧ Binds K fd ps []
def In_ (P : Program) (w : World) (K : PySem.W.Frag) (mg : Str → Option Value) (base : Heap) (k : Nat) (C : Addr) (x : Str) (ps : List Str) (sp : Sp) : Prop := ∃ (f : Addr) (fd : FuncData), FnOk P w K mg base CX0 k f fd ps sp ∧ Mk K C f ∧ mg x = some (.ref C) ∧ Binds K fd ps []
section
variable {P : Program} {w : World} {K : PySem.W.Frag} {mg : Str → Option Value} {base : Heap}
theorem Mn.mk {k : Nat} {C : Addr} {nm qual : Str} {st : Stmt} {N ps : List Str} {sp : Sp} (at_ : MAt K C nm qual st ps) (S : FnScope N ps (defScope st)) (many : ∀ vs H Q E, sp vs H Q E → vs.length = ps.length)
    (body : ∀ (f : Addr) (cdv : Value) (A : Around) (outer : List Env) (s : Shared) (H : Hp) (vs : List V) (Q : VK) (E : XK), Room k (A.deeper (envOfC qual (defScope st) s.heap.objs.size f cdv)) → sp vs H Q E →
      ∃ t, PSs (cxOf CX0 P w K mg base N qual (defScope st) f cdv A outer s H E).nox (defBody st) t ∧ t { nx := fun _ H' => Q .non H', rt := Q } (start N vs) H) : Mn P w K mg base (k + 1) C nm ps sp := by
  obtain ⟨f, fd, F, hm, hb⟩ := at_
  exact ⟨f, fd, F.ok S many (body f), hm, hb⟩
theorem In_.mk {k : Nat} {C : Addr} {x qual : Str} {st : Stmt} {N ps : List Str} {sp : Sp} (at_ : IAt K mg C x qual st ps) (S : FnScope N ps (defScope st)) (many : ∀ vs H Q E, sp vs H Q E → vs.length = ps.length)
    (body : ∀ (f : Addr) (cdv : Value) (A : Around) (outer : List Env) (s : Shared) (H : Hp) (vs : List V) (Q : VK) (E : XK), Room k (A.deeper (envOfC qual (defScope st) s.heap.objs.size f cdv)) → sp vs H Q E →
      ∃ t, PSs (cxOf CX0 P w K mg base N qual (defScope st) f cdv A outer s H E).nox (defBody st) t ∧ t { nx := fun _ H' => Q .non H', rt := Q } (start N vs) H) : In_ P w K mg base (k + 1) C x ps sp := by
  obtain ⟨f, fd, F, hm, hg, hb⟩ := at_
  exact ⟨f, fd, F.ok S many (body f), hm, hg, hb⟩
theorem Fk.mk {k : Nat} {nm : Str} {st : Stmt} {N ps : List Str} {sp : Sp} (at_ : At K mg nm st ps) (S : FnScope N ps (defScope st)) (many : ∀ vs H Q E, sp vs H Q E → vs.length = ps.length)
    (body : ∀ (f : Addr) (cdv : Value) (A : Around) (outer : List Env) (s : Shared) (H : Hp) (vs : List V) (Q : VK) (E : XK), Room k (A.deeper (envOfC nm (defScope st) s.heap.objs.size f cdv)) → sp vs H Q E →
      ∃ t, PSs (cxOf CX0 P w K mg base N nm (defScope st) f cdv A outer s H E).nox (defBody st) t ∧ t { nx := fun _ H' => Q .non H', rt := Q } (start N vs) H) : Fk P w K mg base (k + 1) nm ps sp := by
  obtain ⟨f, fd, F, hm, hb⟩ := at_
  exact ⟨f, fd, F.ok S many (body f), hm, F.kp, hb⟩
theorem hu9 {k : Nat} {A : Around} (r : Room k A) : A.units + 9 < cLine := by
  have := room65 r
  omega
/-- Shelf and Reader as the top has made them -/
structure Cl2 (K : PySem.W.Frag) (CS CR : Addr) : Prop where
  cs : Cls K CS
  cr : Cls K CR
  s1 : NoAttr K CS "lines"
  s2 : NoAttr K CS "numbers"
  r1 : NoAttr K CR "read"
  r2 : NoAttr K CR "close"
  r3 : NoAttr K CR "shelf"
  r4 : NoAttr K CR "ranks"
  r5 : NoAttr K CR "picks"
  r6 : NoAttr K CR "held"
def sFs (L D : Addr) : List (Str × V) := [("lines", .ref L), ("numbers", .ref D)]
def rFs (rd cl : V) (S RK PK HD : Addr) : List (Str × V) := [("read", rd), ("close", cl), ("shelf", .ref S), ("ranks", .ref RK), ("picks", .ref PK), ("held", .ref HD)]
variable {CS CR : Addr}
abbrev s_Shelf___init__ : Stmt := inClass (top 40) 0
theorem sc_Shelf___init__ : FnScope ["self"] ["self"] (defScope s_Shelf___init__) := ⟨rfl, rfl, rfl, by decide +kernel, rfl, by decide +kernel, by decide +kernel⟩
def spShI (CS : Addr) : Sp := fun vs H Q _ => ∃ (p dx : Addr), vs = [.ref p] ∧ H p = some (.ins CS dx []) ∧ ∀ (L D : Addr) (H' : Hp), H L = none → H D = none → L ≠ D → H' p = some (.ins CS dx (sFs L D)) → H' L = some (.lst []) → H' D = some (.dK []) → (∀ b o, H b = some o → b ≠ p → H' b = some o) → Q .non H'
theorem ok_ShI (T : Txt K mg) (Y : Cl2 K CS CR) (at_ : IAt K mg CS "Shelf" "Shelf.__init__" s_Shelf___init__ ["self"]) : In_ P w K mg base 1 CS "Shelf" ["self"] (spShI CS) := by
  refine In_.mk (st := s_Shelf___init__) (N := ["self"]) at_ sc_Shelf___init__ (fun vs H Q E h => ?_) (fun f cdv A outer s H vs Q E hr h => ?_)
  · obtain ⟨p, dx, rfl, _⟩ := h
    rfl
  · obtain ⟨p, dx, rfl, hp, k⟩ := h
    refine ⟨_, (pss_cons (ps_fld (pv 0) (pe_lst pa_nil) rfl) (pss_one (ps_fld (pv 0) pe_dnewK rfl))), ?_⟩
    refine ⟨Nat.zero_le _, fun L nL => ?_⟩
    have pL : p ≠ L := ne_of_none hp nL
    refine ⟨_, rfl, p, CS, dx, [], rfl, by rw [upd_ne pL]; exact hp, Y.cs, Y.s1, by decide, ?_⟩
    intro D nD
    have pD : p ≠ D := ne_of_none upd_same nD
    have LD : L ≠ D := fun z => by rw [← z, upd_ne (Ne.symm pL), upd_same] at nD; cases nD
    have nD' : H D = none := by
      rw [upd_ne (Ne.symm pD), upd_ne (Ne.symm LD)] at nD
      exact nD
    refine ⟨_, rfl, p, CS, dx, _, rfl, by rw [upd_ne pD]; exact upd_same, Y.cs, Y.s2, by show 1 < 1000; decide, ?_⟩
    refine k L D _ nL nD' LD upd_same ?_ ?_ fun b o e bp => ?_
    · rw [upd_ne (Ne.symm pL), upd_ne LD, upd_ne (Ne.symm pL)]
      exact upd_same
    · rw [upd_ne (Ne.symm pD)]
      exact upd_same
    · rw [upd_ne bp, upd_ne (ne_of_none e nD'), upd_ne bp, upd_ne (ne_of_none e nL)]
      exact e
abbrev s_Shelf_keep : Stmt := inClass (top 40) 1
theorem sc_Shelf_keep : FnScope ["self", "mark", "is_alive", "children", "line", "number"] ["self", "mark", "is_alive", "children"] (defScope s_Shelf_keep) := ⟨rfl, rfl, rfl, by decide +kernel, rfl, by decide +kernel, by decide +kernel⟩
def spKeep (CS : Addr) : Sp := fun vs H Q _ => ∃ (S dx L D b : Addr), vs = [.ref S, .int 0, .bl true, .ref b] ∧ H S = some (.ins CS dx (sFs L D)) ∧ H L = some (.lst []) ∧ H D = some (.dK []) ∧ H b = some (.tup []) ∧
  ∀ (y : Addr) (H' : Hp), H y = none → (∀ a o, H a = some o → a ≠ L → a ≠ D → H' a = some o) → H' L = some (.lst [.ref y]) → H' y = some (.tup [.int 0, .bl true, .ref b]) → Q (.int 0) H'
theorem ok_keep (T : Txt K mg) (Y : Cl2 K CS CR) (at_ : MAt K CS "keep" "Shelf.keep" s_Shelf_keep ["self", "mark", "is_alive", "children"]) : Mn P w K mg base 1 CS "keep" ["self", "mark", "is_alive", "children"] (spKeep CS) := by
  refine Mn.mk (st := s_Shelf_keep) (N := ["self", "mark", "is_alive", "children", "line", "number"]) at_ sc_Shelf_keep (fun vs H Q E h => ?_) (fun f cdv A outer s H vs Q E hr h => ?_)
  · obtain ⟨S, dx, L, D, b, rfl, _⟩ := h
    rfl
  · obtain ⟨S, dx, L, D, b, rfl, hS, hL, hD, hb, k⟩ := h
    refine ⟨_, (pss_cons (ps_set (i := 4) sc_Shelf_keep.nd rfl (Or.inl rfl) (pe_tup (pa_cons (pv 1) (pa_cons (pv 2) (pa_cons (pv 3) pa_nil))))) (pss_cons (ps_set (i := 5) sc_Shelf_keep.nd rfl (Or.inl rfl) (pe_dgetE (hu9 hr) (pe_fld (pv 0) rfl) (pv 4) ⟨rfl, rfl, rfl, rfl⟩)) (pss_cons (ps_if (pt_cmpR op_isN (pv 5) pe_non (nomark _)) (pss_cons (ps_set (i := 5) sc_Shelf_keep.nd rfl (Or.inl rfl) (pe_callB (id := "len") call_len_seq (by rfl) T.b_len (by decide +kernel) (pa_cons (pe_fld (pv 0) rfl) pa_nil))) (pss_cons (ps_expr (pe_bm PySem.F.plainAttrs_list PySem.F.slot_list_append PySem.F.type_list_append mt_append (pe_fld (pv 0) rfl) (pa_cons (pv 4) pa_nil))) (pss_one (ps_dputE (hu9 hr) (pe_fld (pv 0) rfl) (pv 4) (pv 5) rfl)))) pss_nil) (pss_one (ps_ret (pv 5)))))), ?_⟩
    refine ⟨_, rfl, _, rfl, _, rfl, by show 3 ≤ sizeLine; decide, fun y ny => ?_⟩
    have s1 := same_upd (o := .tup [.int 0, .bl true, .ref b]) ny
    have hy : upd H y (.tup [.int 0, .bl true, .ref b]) y = some (.tup [.int 0, .bl true, .ref b]) := upd_same
    generalize upd H y (.tup [.int 0, .bl true, .ref b]) = H1 at s1 hy ⊢
    have hS1 := s1 _ _ hS
    have hL1 := s1 _ _ hL
    have hD1 := s1 _ _ hD
    have hb1 := s1 _ _ hb
    have lk : LineK H1 (.ref y) := ⟨y, b, rfl, hy, hb1⟩
    have SL : S ≠ L := ne_of hS1 hL1 (by intro z; cases z)
    have SD : S ≠ D := ne_of hS1 hD1 (by intro z; cases z)
    have DL : D ≠ L := ne_of hD1 hL1 (by intro z; cases z)
    have yL : y ≠ L := ne_of hy hL1 (by intro z; cases z)
    have yD : y ≠ D := ne_of hy hD1 (by intro z; cases z)
    have bL : b ≠ L := ne_of hb1 hL1 (by intro z; cases z)
    refine ⟨_, rfl, S, CS, dx, _, _, rfl, hS1, Y.cs, Y.s2, rfl, D, rfl, hD1, _, rfl, hD1, lk, ?_⟩
    refine ⟨_, rfl, rfl, _, rfl, iteT ?_⟩
    refine ⟨_, rfl, S, CS, dx, _, _, rfl, hS1, Y.cs, Y.s1, rfl, L, [], rfl, .inl (SqL.of hL1), ?_⟩
    refine ⟨_, rfl, S, CS, dx, _, _, rfl, hS1, Y.cs, Y.s1, rfl, .inl ⟨rfl, [], SqL.of hL1⟩, ?_⟩
    refine ⟨_, rfl, L, [], .ref y, rfl, rfl, hL1, by decide, ?_⟩
    have hS2 : upd H1 L (.lst ([] ++ [.ref y])) S = some (.ins CS dx (sFs L D)) := by rw [upd_ne SL]; exact hS1
    have lk2 : LineK (upd H1 L (.lst ([] ++ [.ref y]))) (.ref y) := ⟨y, b, rfl, by rw [upd_ne yL]; exact hy, by rw [upd_ne bL]; exact hb1⟩
    refine ⟨_, rfl, _, rfl, S, CS, dx, _, _, rfl, hS2, Y.cs, Y.s2, rfl, _, rfl, D, rfl, by rw [upd_ne DL]; exact hD1, lk2, ?_⟩
    refine ⟨_, rfl, ?_⟩
    refine k y _ ny (fun a o e h1 h2 => ?_) ?_ ?_
    · rw [upd_ne h2, upd_ne h1]
      exact s1 _ _ e
    · rw [upd_ne (Ne.symm DL)]
      exact upd_same
    · rw [upd_ne yD, upd_ne yL]
      exact hy
abbrev s_Shelf_keep_family : Stmt := inClass (top 40) 2
theorem sc_Shelf_keep_family : FnScope ["self", "family", "kept", "mark", "is_alive", "children", "child"] ["self", "family"] (defScope s_Shelf_keep_family) := ⟨rfl, rfl, rfl, by decide +kernel, rfl, by decide +kernel, by decide +kernel⟩
def spKeepF (CS : Addr) : Sp := fun vs H Q _ => ∃ (S dx L D F l b : Addr), vs = [.ref S, .ref F] ∧ H S = some (.ins CS dx (sFs L D)) ∧ H L = some (.lst []) ∧ H D = some (.dK []) ∧ H F = some (.tup [.ref l]) ∧ H l = some (.tup [.int 0, .bl true, .ref b]) ∧ H b = some (.tup []) ∧
  ∀ (y e : Addr) (H' : Hp), (∀ a o, H a = some o → a ≠ L → a ≠ D → H' a = some o) → H' L = some (.lst [.ref y]) → H' y = some (.tup [.int 0, .bl true, .ref e]) → H' e = some (.tup []) → Q (.int 0) H'
theorem ok_keepF (T : Txt K mg) (Y : Cl2 K CS CR) (k_keep : Mn P w K mg base 1 CS "keep" ["self", "mark", "is_alive", "children"] (spKeep CS)) (at_ : MAt K CS "keep_family" "Shelf.keep_family" s_Shelf_keep_family ["self", "family"]) : Mn P w K mg base 2 CS "keep_family" ["self", "family"] (spKeepF CS) := by
  obtain ⟨fk, fdk, GK, mK, bK⟩ := k_keep
  refine Mn.mk (st := s_Shelf_keep_family) (N := ["self", "family", "kept", "mark", "is_alive", "children", "child"]) at_ sc_Shelf_keep_family (fun vs H Q E h => ?_) (fun f cdv A outer s H vs Q E hr h => ?_)
  · obtain ⟨S, dx, L, D, F, l, b, rfl, _⟩ := h
    rfl
  · obtain ⟨S, dx, L, D, F, l, b, rfl, hS, hL, hD, hF, hl, hb, k⟩ := h
    refine ⟨_, (pss_cons (ps_set (i := 2) sc_Shelf_keep_family.nd rfl (Or.inr rfl) (pe_lst pa_nil)) (pss_cons (ps_for PassesOwn.never rfl (pi_tup (pv 1)) (pg_tup rfl (pgs_cons (pg_name (i := 3) sc_Shelf_keep_family.nd rfl (Or.inl rfl)) (pgs_cons (pg_name (i := 4) sc_Shelf_keep_family.nd rfl (Or.inl rfl)) (pgs_cons (pg_name (i := 5) sc_Shelf_keep_family.nd rfl (Or.inl rfl)) pgs_nil)))) (pss_one (ps_expr (pe_bm PySem.F.plainAttrs_list PySem.F.slot_list_append PySem.F.type_list_append mt_append (pv 2) (pa_cons (pe_meth (pv 0) Y.cs mK GK (hr.mono (by decide)) bK .nil pass0 (pa_cons (pv 3) (pa_cons (pv 4) (pa_cons (pe_callTy call_tuple_of (by rfl) T.b_tuple (by decide +kernel) (pa_cons (pe_lc (own := [("child", 6)]) (by rfl) sc_Shelf_keep_family.nd (tt := tYes) (pi_tup (pv 5)) (blkOk_by (own := [("child", 6)]) (N := ["self", "family", "kept", "mark", "is_alive", "children", "child"]) (sc := defScope s_Shelf_keep_family) (by decide +kernel)) (fun _ _ _ _ _ => pg_name (i := 6) sc_Shelf_keep_family.nd rfl (Or.inl rfl)) (fun _ _ _ _ _ => pts_nil) (fun _ _ _ _ _ => (pe_ix (ix_list : IxR _ (rIxL K)) (pv 2) (pv 6) (fun _ _ => rfl)))) pa_nil)) pa_nil)))) pa_nil))))) (pss_one (ps_ret (pe_ix ix_list (pv 2) (pe_un un_neg pe_int) (fun _ _ => rfl)))))), ?_⟩
    refine ⟨Nat.zero_le _, fun kp nkp => ?_⟩
    have s1 := same_upd (o := .lst []) nkp
    have hkp : upd H kp (.lst []) kp = some (.lst []) := upd_same
    have kpL : kp ≠ L := fun z => by rw [z, hL] at nkp; cases nkp
    have kpD : kp ≠ D := fun z => by rw [z, hD] at nkp; cases nkp
    generalize upd H kp (.lst []) = H1 at s1 hkp ⊢
    refine ⟨_, rfl, F, rfl, ⟨_, SqT.of (s1 _ _ hF)⟩, ?_⟩
    have FL : F ≠ L := ne_of hF hL (by intro z; cases z)
    have FD : F ≠ D := ne_of hF hD (by intro z; cases z)
    have Fkp : F ≠ kp := fun z => by rw [← z, hF] at nkp; cases nkp
    refine for_it (walk_tup (xs := [V.ref l])) (fun i σ H' => (∃ v3 v4 v5 v6, σ = [some (.ref S), some (.ref F), some (.ref kp), v3, v4, v5, v6]) ∧ H' F = some (.tup [.ref l]) ∧ ((i = 0 ∧ Same H H' ∧ H' kp = some (.lst [])) ∨
        (i = 1 ∧ (∀ a o, H a = some o → a ≠ L → a ≠ D → H' a = some o) ∧ H' kp = some (.lst [.int 0]) ∧ ∃ y e, H' L = some (.lst [.ref y]) ∧ H' y = some (.tup [.int 0, .bl true, .ref e]) ∧ H' e = some (.tup []))))
      ⟨⟨_, _, _, _, rfl⟩, s1 _ _ hF, .inl ⟨rfl, s1, hkp⟩⟩ (fun i σ H' _ p => SqT.of p.2.1) ?_ ?_
    · rintro i x σ H2 H3 hi ⟨⟨v3, v4, v5, v6, rfl⟩, hF2, st⟩ ⟨rfl, hx⟩
      have i0 : i = 0 := by
        have : ([V.ref l] : List V).length = 1 := rfl
        omega
      subst i0
      rcases st with ⟨_, s2, hkp2⟩ | ⟨h, _⟩
      · cases hx
        have hl2 := s2 _ _ hl
        have hb2 := s2 _ _ hb
        have hS2 := s2 _ _ hS
        refine ⟨l, _, rfl, SqT.of hl2, rfl, _, _, rfl, _, _, rfl, _, _, rfl, rfl, ?_⟩
        refine ⟨_, rfl, .inl ⟨rfl, [], SqL.of hkp2⟩, ?_⟩
        refine ⟨_, rfl, S, dx, sFs L D, rfl, hS2, rfl, ?_⟩
        refine ⟨_, rfl, _, rfl, _, rfl, b, rfl, ⟨_, SqT.of hb2⟩, fun D' nD => ?_⟩
        refine lc_filt (walk_tup (xs := [])) (fun _ => true) (fun _ => .non) (fun H' s' => SqT.of (s' _ _ hb2)) (fun i H x H' y => by obtain ⟨rfl, _⟩ := y; exact Same.refl _) nD (small_of (k := 8) (by decide) (by decide)) (fun i x H1 H2 Qy Qn hi y s1 q1 q2 => absurd hi (Nat.not_lt_zero _)) (fun H4 s4 hD4 => ?_)
        refine ⟨D', _, rfl, .inl ⟨SqL.of hD4, fun e ne => ?_⟩⟩
        have s5 := same_upd (o := .tup (((List.range ([] : List V).length).filter fun _ => true).map fun _ => V.non)) ne
        have he : upd H4 e (.tup (((List.range ([] : List V).length).filter fun _ => true).map fun _ => V.non)) e = some (.tup []) := upd_same
        generalize upd H4 e (.tup (((List.range ([] : List V).length).filter fun _ => true).map fun _ => V.non)) = H5 at s5 he ⊢
        have s25 := s4.trans s5
        have s05 := s2.trans s25
        refine ⟨S, dx, L, D, e, rfl, s05 _ _ hS, s05 _ _ hL, s05 _ _ hD, he, fun y H6 ny fr hL6 hy6 => ?_⟩
        have hkp6 := fr _ _ (s25 _ _ hkp2) kpL kpD
        have eL : e ≠ L := ne_of he (s05 _ _ hL) (by intro z; cases z)
        have eD : e ≠ D := ne_of he (s05 _ _ hD) (by intro z; cases z)
        have he6 := fr _ _ he eL eD
        have ykp : y ≠ kp := ne_of hy6 hkp6 (by intro z; cases z)
        have ekp : e ≠ kp := ne_of he6 hkp6 (by intro z; cases z)
        refine ⟨kp, [], .int 0, rfl, rfl, hkp6, by decide, ⟨_, _, _, _, rfl⟩, ?_, .inr ⟨rfl, fun a o ha h1 h2 => ?_, upd_same, y, e, ?_, ?_, ?_⟩⟩
        · rw [upd_ne Fkp]
          exact fr _ _ (s25 _ _ hF2) FL FD
        · rw [upd_ne (ne_of_none ha nkp)]
          exact fr _ _ (s05 _ _ ha) h1 h2
        · rw [upd_ne (Ne.symm kpL)]
          exact hL6
        · rw [upd_ne ykp]
          exact hy6
        · rw [upd_ne ekp]
          exact he6
      · cases h
    · rintro σ H2 ⟨⟨v3, v4, v5, v6, rfl⟩, hF2, st⟩
      rcases st with ⟨h, _⟩ | ⟨_, fr, hkp2, y, e, h1, h2, h3⟩
      · cases h
      · exact ⟨_, rfl, _, rfl, kp, _, _, .int 0, rfl, rfl, SqL.of hkp2, rfl, k y e H2 fr h1 h2 h3⟩
end
end Hk
set_option Elab.async false
set_option linter.all false
set_option maxRecDepth 100000
set_option maxHeartbeats 4000000
namespace Hk
open PySem PySem.Spec PyProof.Rows L2
theorem pe_fldK {X : Cx} {K : PySem.W.Frag} {e : Expr} {f : Str} {pos : Pos} {ta : TE} (hK : X.K = K) (he : PE X e ta) (hb : attributeBase e f X.env (eval e X.env) = eval e X.env) : PE X (.Attribute e f pos) (tFld K ta f) := by
  subst hK
  exact pe_fld he hb
section
variable {P : Program} {w : World} {K : PySem.W.Frag} {mg : Str → Option Value} {base : Heap} {CS CR : Addr}
abbrev s_Reader___init__ : Stmt := inClass (top 42) 0
theorem sc_Reader___init__ : FnScope ["self", "custom", "shelf"] ["self", "custom", "shelf"] (defScope s_Reader___init__) := ⟨rfl, rfl, rfl, by decide +kernel, rfl, by decide +kernel, by decide +kernel⟩
def spRdI (CR : Addr) : Sp := fun vs H Q _ => ∃ (R dx cu S : Addr) (v0 v1 v2 rd cl : V), vs = [.ref R, .ref cu, .ref S] ∧ H R = some (.ins CR dx []) ∧ H cu = some (.tup [v0, v1, v2, rd, cl]) ∧
  ∀ (RK PK HD : Addr) (H' : Hp), H RK = none → H PK = none → H HD = none → RK ≠ PK → RK ≠ HD → PK ≠ HD → H' R = some (.ins CR dx (rFs rd cl S RK PK HD)) → H' RK = some (.lst []) → H' PK = some (.lst []) → H' HD = some (.lst []) → (∀ b o, H b = some o → b ≠ R → H' b = some o) → Q .non H'
theorem ok_RdI (T : Txt K mg) (Y : Cl2 K CS CR) (at_ : IAt K mg CR "Reader" "Reader.__init__" s_Reader___init__ ["self", "custom", "shelf"]) : In_ P w K mg base 1 CR "Reader" ["self", "custom", "shelf"] (spRdI CR) := by
  refine In_.mk (st := s_Reader___init__) (N := ["self", "custom", "shelf"]) at_ sc_Reader___init__ (fun vs H Q E h => ?_) (fun f cdv A outer s H vs Q E hr h => ?_)
  · obtain ⟨R, dx, cu, S, v0, v1, v2, rd, cl, rfl, _⟩ := h
    rfl
  · obtain ⟨R, dx, cu, S, v0, v1, v2, rd, cl, rfl, hR, hcu, k⟩ := h
    refine ⟨_, (pss_cons (ps_fld (pv 0) (pe_ix ix_tup (pv 1) pe_int (fun _ _ => rfl)) rfl) (pss_cons (ps_fld (pv 0) (pe_ix ix_tup (pv 1) pe_int (fun _ _ => rfl)) rfl) (pss_cons (ps_fld (pv 0) (pv 2) rfl) (pss_cons (ps_fld (pv 0) (pe_lst pa_nil) rfl) (pss_cons (ps_fld (pv 0) (pe_lst pa_nil) rfl) (pss_one (ps_fld (pv 0) (pe_lst pa_nil) rfl))))))), ?_⟩
    have cR : cu ≠ R := ne_of hcu hR (by intro z; cases z)
    refine ⟨_, rfl, cu, _, 3, rd, rfl, rfl, SqT.of hcu, rfl, _, rfl, R, CR, dx, [], rfl, hR, Y.cr, Y.r1, by decide, ?_⟩
    refine ⟨_, rfl, cu, _, 4, cl, rfl, rfl, SqT.of (by rw [upd_ne cR]; exact hcu), rfl, _, rfl, R, CR, dx, _, rfl, upd_same, Y.cr, Y.r2, by show 1 < 1000; decide, ?_⟩
    refine ⟨_, rfl, _, rfl, R, CR, dx, _, rfl, upd_same, Y.cr, Y.r3, by show 2 < 1000; decide, ?_⟩
    have fr0 : ∀ b o, H b = some o → b ≠ R → upd (upd (upd H R (.ins CR dx (putF "read" rd []))) R (.ins CR dx (putF "close" cl (putF "read" rd [])))) R (.ins CR dx (putF "shelf" (.ref S) (putF "close" cl (putF "read" rd [])))) b = some o := fun b o e h => by
      rw [upd_ne h, upd_ne h, upd_ne h]
      exact e
    have h0 : upd (upd (upd H R (.ins CR dx (putF "read" rd []))) R (.ins CR dx (putF "close" cl (putF "read" rd [])))) R (.ins CR dx (putF "shelf" (.ref S) (putF "close" cl (putF "read" rd [])))) R = some (.ins CR dx (putF "shelf" (.ref S) (putF "close" cl (putF "read" rd [])))) := upd_same
    have n0 : ∀ b, upd (upd (upd H R (.ins CR dx (putF "read" rd []))) R (.ins CR dx (putF "close" cl (putF "read" rd [])))) R (.ins CR dx (putF "shelf" (.ref S) (putF "close" cl (putF "read" rd [])))) b = none → H b = none ∧ b ≠ R := fun b e => by
      have bR : b ≠ R := fun z => by rw [z, upd_same] at e; cases e
      rw [upd_ne bR, upd_ne bR, upd_ne bR] at e
      exact ⟨e, bR⟩
    generalize upd (upd (upd H R (.ins CR dx (putF "read" rd []))) R (.ins CR dx (putF "close" cl (putF "read" rd [])))) R (.ins CR dx (putF "shelf" (.ref S) (putF "close" cl (putF "read" rd [])))) = H0 at fr0 h0 n0 ⊢
    refine ⟨Nat.zero_le _, fun RK nRK => ?_⟩
    obtain ⟨nRK', RKR⟩ := n0 RK nRK
    refine ⟨_, rfl, R, CR, dx, _, rfl, by rw [upd_ne (Ne.symm RKR)]; exact h0, Y.cr, Y.r4, by show 3 < 1000; decide, ?_⟩
    refine ⟨Nat.zero_le _, fun PK nPK => ?_⟩
    have PKR : PK ≠ R := fun z => by rw [z, upd_same] at nPK; cases nPK
    rw [upd_ne PKR] at nPK
    have PKRK : RK ≠ PK := fun z => by rw [← z, upd_same] at nPK; cases nPK
    rw [upd_ne (Ne.symm PKRK)] at nPK
    obtain ⟨nPK', _⟩ := n0 PK nPK
    refine ⟨_, rfl, R, CR, dx, _, rfl, by rw [upd_ne (Ne.symm PKR)]; exact upd_same, Y.cr, Y.r5, by show 4 < 1000; decide, ?_⟩
    refine ⟨Nat.zero_le _, fun HD nHD => ?_⟩
    have HDR : HD ≠ R := fun z => by rw [z, upd_same] at nHD; cases nHD
    rw [upd_ne HDR] at nHD
    have HDPK : PK ≠ HD := fun z => by rw [← z, upd_same] at nHD; cases nHD
    rw [upd_ne (Ne.symm HDPK), upd_ne HDR] at nHD
    have HDRK : RK ≠ HD := fun z => by rw [← z, upd_same] at nHD; cases nHD
    rw [upd_ne (Ne.symm HDRK)] at nHD
    obtain ⟨nHD', _⟩ := n0 HD nHD
    refine ⟨_, rfl, R, CR, dx, _, rfl, by rw [upd_ne (Ne.symm HDR)]; exact upd_same, Y.cr, Y.r6, by show 5 < 1000; decide, ?_⟩
    refine k RK PK HD _ nRK' nPK' nHD' PKRK HDRK HDPK upd_same ?_ ?_ ?_ fun b o e bR => ?_
    · rw [upd_ne RKR, upd_ne HDRK, upd_ne RKR, upd_ne PKRK, upd_ne RKR]
      exact upd_same
    · rw [upd_ne PKR, upd_ne HDPK, upd_ne PKR]
      exact upd_same
    · rw [upd_ne HDR]
      exact upd_same
    · rw [upd_ne bR, upd_ne (ne_of_none e nHD'), upd_ne bR, upd_ne (ne_of_none e nPK'), upd_ne bR, upd_ne (ne_of_none e nRK')]
      exact fr0 b o e bR
abbrev s_behind_row : Stmt := top 43
theorem sc_behind_row : FnScope ["read", "ranks", "stand", "held", "place", "rank", "keep"] ["read", "ranks"] (defScope s_behind_row) := ⟨rfl, rfl, rfl, by decide +kernel, rfl, by decide +kernel, by decide +kernel⟩
def spBehind : Sp := fun vs H Q _ => ∃ (v : V) (p : Addr), vs = [v, .ref p] ∧ H p = some (.lst []) ∧ ∀ (q : Addr) (H' : Hp), Same H H' → H' q = some (.tup [.int 0, .non]) → Q (.ref q) H'
theorem ok_behind (T : Txt K mg) (at_ : At K mg "behind_row" s_behind_row ["read", "ranks"]) : Fk P w K mg base 1 "behind_row" ["read", "ranks"] spBehind := by
  refine Fk.mk (st := s_behind_row) (N := ["read", "ranks", "stand", "held", "place", "rank", "keep"]) at_ sc_behind_row (fun vs H Q E h => ?_) (fun f cdv A outer s H vs Q E hr h => ?_)
  · obtain ⟨v, p, rfl, _⟩ := h
    rfl
  · obtain ⟨v, p, rfl, hp, k⟩ := h
    refine ⟨_, (pss_cons (ps_set (i := 2) sc_behind_row.nd rfl (Or.inl rfl) pe_int) (pss_cons (ps_set (i := 3) sc_behind_row.nd rfl (Or.inl rfl) pe_non) (pss_cons (ps_for PassesOwn.never rfl (pi_enum (by rfl) T.b_enumerate (pa_cons (pv 1) pa_nil)) (pg_tup rfl (pgs_cons (pg_name (i := 4) sc_behind_row.nd rfl (Or.inl rfl)) (pgs_cons (pg_name (i := 5) sc_behind_row.nd rfl (Or.inl rfl)) pgs_nil))) pss_never) (pss_one (ps_ret (pe_tup (pa_cons (pv 2) (pa_cons (pv 3) pa_nil)))))))), ?_⟩
    refine ⟨_, rfl, p, _, rfl, SqL.of hp, ?_⟩
    refine for_it (walk_enum (xs := [])) (fun i σ H' => Same H H' ∧ ∃ v4 v5 v6, σ = [some v, some (.ref p), some (.int 0), some .non, v4, v5, v6]) ⟨Same.refl _, ⟨_, _, _, rfl⟩⟩ (fun i σ H' _ p' => SqL.of (p'.1 _ _ hp)) ?_ ?_
    · rintro i x σ H2 H3 hi
      exact absurd hi (Nat.not_lt_zero _)
    · rintro σ H2 ⟨s2, v4, v5, v6, rfl⟩
      exact ⟨_, rfl, _, rfl, by show 2 ≤ sizeLine; decide, fun q nq => k q _ (s2.trans (same_upd nq)) upd_same⟩
abbrev s_Reader_catch_up : Stmt := inClass (top 42) 1
theorem sc_Reader_catch_up : FnScope ["self", "new_lines", "mark", "is_alive", "children", "stand", "place", "rank", "pick", "child"] ["self"] (defScope s_Reader_catch_up) := ⟨rfl, rfl, rfl, by decide +kernel, rfl, by decide +kernel, by decide +kernel⟩
/-- where the rank and the pick of a line that lives and has no children stand -/
structure Gd (H : Hp) (cla : Addr) (rank : Int) (pick : Str) : Prop where
  ex : ∃ (pr lv ce : Addr) (vd : V) (m1 m2 : List V), H cla = some (.tup (.ref pr :: m1)) ∧ H pr = some (.tup [vd, .ref lv]) ∧ H lv = some (.tup (.ref ce :: m2)) ∧ H ce = some (.tup [.int rank, .str pick])
structure Bk (H : Hp) (CS CR R S L RK PK HD cla : Addr) (rank : Int) (pick : Str) : Prop where
  rd : ∃ (dx : Addr) (rd : V), H R = some (.ins CR dx (rFs rd (.ref cla) S RK PK HD))
  sh : ∃ (dx D y e : Addr), H S = some (.ins CS dx (sFs L D)) ∧ H L = some (.lst [.ref y]) ∧ H y = some (.tup [.int 0, .bl true, .ref e]) ∧ H e = some (.tup [])
  gd : Gd H cla rank pick
def spCatch (CS CR : Addr) : Sp := fun vs H Q _ => ∃ (R S L RK PK HD cla : Addr) (rank : Int) (pick : Str), vs = [.ref R] ∧ Bk H CS CR R S L RK PK HD cla rank pick ∧
  ((H RK = some (.lst []) ∧ H PK = some (.lst []) ∧ H HD = some (.lst []) ∧ RK ≠ PK ∧ RK ≠ HD ∧ PK ≠ HD ∧ L ≠ RK ∧ L ≠ PK ∧ L ≠ HD ∧ ∀ H', (∀ a o, H a = some o → a ≠ RK → a ≠ PK → a ≠ HD → H' a = some o) → H' RK = some (.lst [.int rank]) → H' PK = some (.lst [.str pick]) → H' HD = some (.lst [.non]) → Q .non H') ∨
   (H RK = some (.lst [.int rank]) ∧ ∀ H', Same H H' → Q .non H'))
theorem ok_catch (T : Txt K mg) (Y : Cl2 K CS CR) (k_behind_row : Fk P w K mg base 1 "behind_row" ["read", "ranks"] spBehind) (at_ : MAt K CR "catch_up" "Reader.catch_up" s_Reader_catch_up ["self"]) : Mn P w K mg base 2 CR "catch_up" ["self"] (spCatch CS CR) := by
  obtain ⟨fB, fdB, GB, gB, kB, bB⟩ := k_behind_row
  refine Mn.mk (st := s_Reader_catch_up) (N := ["self", "new_lines", "mark", "is_alive", "children", "stand", "place", "rank", "pick", "child"]) at_ sc_Reader_catch_up (fun vs H Q E h => ?_) (fun f cdv A outer s H vs Q E hr h => ?_)
  · obtain ⟨R, S, L, RK, PK, HD, cla, rank, pick, rfl, _⟩ := h
    rfl
  · obtain ⟨R, S, L, RK, PK, HD, cla, rank, pick, rfl, bk, md⟩ := h
    refine ⟨_, (pss_cons (ps_set (i := 1) sc_Reader_catch_up.nd rfl (Or.inl rfl) (pe_slice sl_list (pe_fld (pe_fld (pv 0) rfl) rfl) (po_some (pe_callB (id := "len") call_len_seq (by rfl) T.b_len (by decide +kernel) (pa_cons (pe_fldK (K := K) rfl (pv 0) rfl) pa_nil))) po_none)) (pss_one (ps_for PassesOwn.never rfl (pi_list (pv 1)) (pg_tup rfl (pgs_cons (pg_name (i := 2) sc_Reader_catch_up.nd rfl (Or.inl rfl)) (pgs_cons (pg_name (i := 3) sc_Reader_catch_up.nd rfl (Or.inl rfl)) (pgs_cons (pg_name (i := 4) sc_Reader_catch_up.nd rfl (Or.inl rfl)) pgs_nil)))) (pss_cons (ps_asg (pe_call GB (hr.mono (by decide)) rfl gB kB bB .nil pass0 (pa_cons (pe_fld (pv 0) rfl) (pa_cons (pe_lc (own := [("child", 9)]) (by rfl) sc_Reader_catch_up.nd (tt := tYes) (pi_tup (pv 4)) (blkOk_by (own := [("child", 9)]) (N := ["self", "new_lines", "mark", "is_alive", "children", "stand", "place", "rank", "pick", "child"]) (sc := defScope s_Reader_catch_up) (by decide +kernel)) (fun _ _ _ _ _ => pg_name (i := 9) sc_Reader_catch_up.nd rfl (Or.inl rfl)) (fun _ _ _ _ _ => pts_nil) (fun _ _ _ _ _ => (pe_ix (ix_list : IxR _ (rIxL K)) (pe_fldK (K := K) rfl (pv 0) rfl) (pv 9) (fun _ _ => rfl)))) pa_nil))) (pg_tup rfl (pgs_cons (pg_name (i := 5) sc_Reader_catch_up.nd rfl (Or.inl rfl)) (pgs_cons (pg_name (i := 6) sc_Reader_catch_up.nd rfl (Or.inl rfl)) pgs_nil)))) (pss_cons (ps_asg (pe_ix ix_tup (pe_ix ix_tup (pe_ix ix_tup (pe_fld (pv 0) rfl) (pv 2) (fun _ _ => rfl)) (pe_ifExp (pt_val (pv 3)) pe_int pe_int) (fun _ _ => rfl)) (pv 5) (fun _ _ => rfl)) (pg_tup rfl (pgs_cons (pg_name (i := 7) sc_Reader_catch_up.nd rfl (Or.inl rfl)) (pgs_cons (pg_name (i := 8) sc_Reader_catch_up.nd rfl (Or.inl rfl)) pgs_nil)))) (pss_cons (ps_expr (pe_bm PySem.F.plainAttrs_list PySem.F.slot_list_append PySem.F.type_list_append mt_append (pe_fldK (K := K) rfl (pv 0) rfl) (pa_cons (pv 7) pa_nil))) (pss_cons (ps_expr (pe_bm PySem.F.plainAttrs_list PySem.F.slot_list_append PySem.F.type_list_append mt_append (pe_fld (pv 0) rfl) (pa_cons (pv 8) pa_nil))) (pss_one (ps_expr (pe_bm PySem.F.plainAttrs_list PySem.F.slot_list_append PySem.F.type_list_append mt_append (pe_fld (pv 0) rfl) (pa_cons (pv 6) pa_nil))))))))))), ?_⟩
    obtain ⟨⟨dx, rd, hR⟩, ⟨dxS, D, y, e, hS, hL, hy, he⟩, ⟨pr, lv, ce, vd, m1, m2, hcl, hpr, hlv, hce⟩⟩ := bk
    rcases md with ⟨hRK, hPK, hHD, n1, n2, n3, n4, n5, n6, k⟩ | ⟨hRK, k⟩
    · refine ⟨_, rfl, R, CR, dx, _, _, rfl, hR, Y.cr, Y.r3, rfl, S, CS, dxS, _, _, rfl, hS, Y.cs, Y.s1, rfl, _, rfl, R, CR, dx, _, _, rfl, hR, Y.cr, Y.r4, rfl, RK, [], rfl, .inl (SqL.of hRK), ((0 : Nat) : Int), rfl, ?_⟩
      refine no_hi ?_
      refine ⟨L, [.ref y], rfl, SqL.of hL, fun NL nNL => ?_⟩
      rw [cut_from]
      have s1 := same_upd (o := .lst [.ref y]) nNL
      have hNL : upd H NL (.lst [.ref y]) NL = some (.lst [.ref y]) := upd_same
      have NRK : NL ≠ RK := fun z => by rw [z, hRK] at nNL; cases nNL
      have NPK : NL ≠ PK := fun z => by rw [z, hPK] at nNL; cases nNL
      have NHD : NL ≠ HD := fun z => by rw [z, hHD] at nNL; cases nNL
      show gName 1 (.ref NL) _ (upd H NL (.lst [.ref y])) _
      generalize upd H NL (.lst [.ref y]) = H1 at s1 hNL ⊢
      have RRK : R ≠ RK := ne_of hR hRK (by intro z; cases z)
      have RPK : R ≠ PK := ne_of hR hPK (by intro z; cases z)
      refine ⟨_, rfl, NL, rfl, ⟨_, SqL.of hNL⟩, ?_⟩
      refine for_it (walk_list (xs := [V.ref y])) (fun i σ H' => (∃ v2 v3 v4 v5 v6 v7 v8 v9, σ = [some (.ref R), some (.ref NL), v2, v3, v4, v5, v6, v7, v8, v9]) ∧ H' NL = some (.lst [.ref y]) ∧ ((i = 0 ∧ Same H H') ∨
          (i = 1 ∧ (∀ a o, H a = some o → a ≠ RK → a ≠ PK → a ≠ HD → H' a = some o) ∧ H' RK = some (.lst [.int rank]) ∧ H' PK = some (.lst [.str pick]) ∧ H' HD = some (.lst [.non]))))
        ⟨⟨_, _, _, _, _, _, _, _, rfl⟩, hNL, .inl ⟨rfl, s1⟩⟩ (fun i σ H' _ p => SqL.of p.2.1) ?_ ?_
      · rintro i x σ H2 H3 hi ⟨⟨v2, v3, v4, v5, v6, v7, v8, v9, rfl⟩, hN2, st⟩ ⟨rfl, hx⟩
        have i0 : i = 0 := by
          have : ([V.ref y] : List V).length = 1 := rfl
          omega
        subst i0
        rcases st with ⟨_, s2⟩ | ⟨h, _⟩
        · cases hx
          refine ⟨y, _, rfl, SqT.of (s2 _ _ hy), rfl, _, _, rfl, _, _, rfl, _, _, rfl, rfl, ?_⟩
          refine ⟨_, rfl, R, CR, dx, _, _, rfl, s2 _ _ hR, Y.cr, Y.r1, rfl, _, rfl, e, rfl, ⟨_, SqT.of (s2 _ _ he)⟩, fun D' nD => ?_⟩
          refine lc_filt (walk_tup (xs := [])) (fun _ => true) (fun _ => .non) (fun H' s' => SqT.of (s' _ _ (s2 _ _ he))) (fun i H x H' y => by obtain ⟨rfl, _⟩ := y; exact Same.refl _) nD (small_of (k := 8) (by decide) (by decide)) (fun i x H1 H2 Qy Qn hi y s1 q1 q2 => absurd hi (Nat.not_lt_zero _)) (fun H4 s4 hD4 => ?_)
          refine ⟨rd, D', rfl, hD4, fun q H5 s5 hq => ?_⟩
          have s05 := (s2.trans s4).trans s5
          have hN5 := (s4.trans s5) _ _ hN2
          refine ⟨q, _, rfl, SqT.of hq, rfl, _, _, rfl, _, _, rfl, rfl, ?_⟩
          refine ⟨_, rfl, R, CR, dx, _, _, rfl, s05 _ _ hR, Y.cr, Y.r2, rfl, _, rfl, cla, _, 0, .ref pr, rfl, rfl, SqT.of (s05 _ _ hcl), at0, ?_⟩
          refine ⟨_, rfl, _, rfl, iteT ?_⟩
          refine ⟨pr, _, 1, .ref lv, rfl, rfl, SqT.of (s05 _ _ hpr), rfl, _, rfl, lv, _, 0, .ref ce, rfl, rfl, SqT.of (s05 _ _ hlv), at0, ?_⟩
          refine ⟨ce, _, rfl, SqT.of (s05 _ _ hce), rfl, _, _, rfl, _, _, rfl, rfl, ?_⟩
          have hR5 := s05 _ _ hR
          have hRK5 := s05 _ _ hRK
          have hPK5 := s05 _ _ hPK
          have hHD5 := s05 _ _ hHD
          refine ⟨_, rfl, R, CR, dx, _, _, rfl, hR5, Y.cr, Y.r4, rfl, .inl ⟨rfl, [], SqL.of hRK5⟩, _, rfl, RK, [], .int rank, rfl, rfl, hRK5, by decide, ?_⟩
          have hR6 : upd H5 RK (.lst ([] ++ [.int rank])) R = some (.ins CR dx (rFs rd (.ref cla) S RK PK HD)) := by rw [upd_ne RRK]; exact hR5
          have hPK6 : upd H5 RK (.lst ([] ++ [.int rank])) PK = some (.lst []) := by rw [upd_ne (Ne.symm n1)]; exact hPK5
          refine ⟨_, rfl, R, CR, dx, _, _, rfl, hR6, Y.cr, Y.r5, rfl, .inl ⟨rfl, [], SqL.of hPK6⟩, _, rfl, PK, [], .str pick, rfl, rfl, hPK6, by decide, ?_⟩
          have hR7 : upd (upd H5 RK (.lst ([] ++ [.int rank]))) PK (.lst ([] ++ [.str pick])) R = some (.ins CR dx (rFs rd (.ref cla) S RK PK HD)) := by rw [upd_ne RPK]; exact hR6
          have hHD7 : upd (upd H5 RK (.lst ([] ++ [.int rank]))) PK (.lst ([] ++ [.str pick])) HD = some (.lst []) := by rw [upd_ne (Ne.symm n3), upd_ne (Ne.symm n2)]; exact hHD5
          refine ⟨_, rfl, R, CR, dx, _, _, rfl, hR7, Y.cr, Y.r6, rfl, .inl ⟨rfl, [], SqL.of hHD7⟩, _, rfl, HD, [], .non, rfl, rfl, hHD7, by decide, ?_⟩
          refine ⟨⟨_, _, _, _, _, _, _, _, rfl⟩, ?_, .inr ⟨rfl, fun a o ha h1 h2 h3 => ?_, ?_, ?_, upd_same⟩⟩
          · rw [upd_ne NHD, upd_ne NPK, upd_ne NRK]
            exact hN5
          · rw [upd_ne h3, upd_ne h2, upd_ne h1]
            exact s05 _ _ ha
          · rw [upd_ne n2, upd_ne n1]
            exact upd_same
          · rw [upd_ne n3]
            exact upd_same
        · cases h
      · rintro σ H2 ⟨⟨v2, v3, v4, v5, v6, v7, v8, v9, rfl⟩, hN2, st⟩
        rcases st with ⟨h, _⟩ | ⟨_, fr, h1, h2, h3⟩
        · cases h
        · exact k H2 fr h1 h2 h3
    · refine ⟨_, rfl, R, CR, dx, _, _, rfl, hR, Y.cr, Y.r3, rfl, S, CS, dxS, _, _, rfl, hS, Y.cs, Y.s1, rfl, _, rfl, R, CR, dx, _, _, rfl, hR, Y.cr, Y.r4, rfl, RK, [.int rank], rfl, .inl (SqL.of hRK), ((1 : Nat) : Int), rfl, ?_⟩
      refine no_hi ?_
      refine ⟨L, [.ref y], rfl, SqL.of hL, fun NL nNL => ?_⟩
      rw [cut_from]
      have s1 := same_upd (o := .lst []) nNL
      have hNL : upd H NL (.lst []) NL = some (.lst []) := upd_same
      show gName 1 (.ref NL) _ (upd H NL (.lst [])) _
      generalize upd H NL (.lst []) = H1 at s1 hNL ⊢
      refine ⟨_, rfl, NL, rfl, ⟨_, SqL.of hNL⟩, ?_⟩
      refine for_it (walk_list (xs := [])) (fun i σ H' => Same H H' ∧ H' NL = some (.lst [])) ⟨s1, hNL⟩ (fun i σ H' _ p => SqL.of p.2) ?_ ?_
      · rintro i x σ H2 H3 hi
        exact absurd hi (Nat.not_lt_zero _)
      · rintro σ H2 ⟨s2, _⟩
        exact k H2 s2
abbrev s_Reader_heir_of : Stmt := inClass (top 42) 2
theorem sc_Reader_heir_of : FnScope ["self", "top", "way"] ["self", "top"] (defScope s_Reader_heir_of) := ⟨rfl, rfl, rfl, by decide +kernel, rfl, by decide +kernel, by decide +kernel⟩
def spHeirOf (CS CR : Addr) : Sp := fun vs H Q _ => ∃ (R S L RK PK HD cla : Addr) (rank : Int) (pick : Str), vs = [.ref R, .int 0] ∧ Bk H CS CR R S L RK PK HD cla rank pick ∧ H RK = some (.lst [.int rank]) ∧ H PK = some (.lst [.str pick]) ∧ pick ≠ "line" ∧ ∀ v H', Same H H' → Q v H'
theorem ok_heir_of (T : Txt K mg) (Y : Cl2 K CS CR) (k_catch : Mn P w K mg base 2 CR "catch_up" ["self"] (spCatch CS CR)) (at_ : MAt K CR "heir_of" "Reader.heir_of" s_Reader_heir_of ["self", "top"]) : Mn P w K mg base 3 CR "heir_of" ["self", "top"] (spHeirOf CS CR) := by
  obtain ⟨fC, fdC, GC, mC, bC⟩ := k_catch
  refine Mn.mk (st := s_Reader_heir_of) (N := ["self", "top", "way"]) at_ sc_Reader_heir_of (fun vs H Q E h => ?_) (fun f cdv A outer s H vs Q E hr h => ?_)
  · obtain ⟨R, S, L, RK, PK, HD, cla, rank, pick, rfl, _⟩ := h
    rfl
  · obtain ⟨R, S, L, RK, PK, HD, cla, rank, pick, rfl, bk, hRK, hPK, np, k⟩ := h
    refine ⟨_, (pss_cons (ps_expr (pe_meth0 (pv 0) Y.cr mC GC (hr.mono (by decide)) bC .nil pass0)) (pss_cons (ps_if (pt_cmpR op_eq (pe_ix ix_list (pe_fld (pv 0) rfl) (pv 1) (fun _ _ => rfl)) pe_str (nomark _)) (pss_one (ps_ret pe_non)) pss_nil) (pss_cons (ps_set (i := 2) sc_Reader_heir_of.nd rfl (Or.inl rfl) (pe_lst pa_nil)) (pss_cons (ps_while PassesOwn.never (pt_cmpR op_eq (pe_ix ix_list (pe_fld (pv 0) rfl) (pv 1) (fun _ _ => rfl)) pe_str (nomark _)) (pss_cons (ps_expr (pe_bm PySem.F.plainAttrs_list PySem.F.slot_list_append PySem.F.type_list_append mt_append (pv 2) (pa_cons (pe_ix ix_list (pe_fld (pv 0) rfl) (pv 1) (fun _ _ => rfl)) pa_nil))) (pss_one (ps_set (i := 1) sc_Reader_heir_of.nd rfl (Or.inl rfl) (pe_ix ix_list (pe_ix ix_list (pe_ix ix_list (pe_fld (pe_fld (pv 0) rfl) rfl) (pv 1) (fun _ _ => rfl)) pe_int (fun _ _ => rfl)) (pe_ix ix_list (pe_fld (pv 0) rfl) (pv 1) (fun _ _ => rfl)) (fun _ _ => rfl)))))) (pss_one (ps_ret (pe_callTy call_tuple_of (by rfl) T.b_tuple (by decide +kernel) (pa_cons (pv 2) pa_nil)))))))), ?_⟩
    have bk0 := bk
    obtain ⟨⟨dx, rd, hR⟩, _, _⟩ := bk
    refine ⟨_, rfl, R, dx, _, rfl, hR, rfl, R, S, L, RK, PK, HD, cla, rank, pick, rfl, bk0, .inr ⟨hRK, fun H1 s1 => ?_⟩⟩
    refine ⟨_, rfl, R, CR, dx, _, _, rfl, s1 _ _ hR, Y.cr, Y.r5, rfl, _, rfl, PK, _, 0, .str pick, rfl, rfl, SqL.of (s1 _ _ hPK), at0, rfl, _, rfl, ?_⟩
    refine ite2 (fun _ => ?_) (fun _ => ?_)
    · exact k _ _ s1
    · refine ⟨Nat.zero_le _, fun W nW => ?_⟩
      have s2 := s1.trans (same_upd (o := .lst []) nW)
      have hW : upd H1 W (.lst []) W = some (.lst []) := upd_same
      generalize upd H1 W (.lst []) = H2 at s2 hW ⊢
      refine ⟨fun _ σ' H' => σ' = [some (.ref R), some (.int 0), some (.ref W)] ∧ H' = H2, ⟨0, rfl, rfl⟩, ?_⟩
      rintro mm σ' H' ⟨rfl, rfl⟩
      refine ⟨_, rfl, R, CR, dx, _, _, rfl, s2 _ _ hR, Y.cr, Y.r5, rfl, _, rfl, PK, _, 0, .str pick, rfl, rfl, SqL.of (s2 _ _ hPK), at0, rfl, _, rfl, ?_⟩
      have e : decide (V.str pick = V.str "line") = false := decide_eq_false (fun z => np (V.str.inj z))
      refine (if_neg (by rw [e]; exact Bool.false_ne_true)).mpr ?_
      exact ⟨_, rfl, W, _, rfl, .inl ⟨SqL.of hW, fun l nl => k _ _ (s2.trans (same_upd nl))⟩⟩
end
end Hk
set_option Elab.async false
set_option linter.all false
set_option maxRecDepth 100000
set_option maxHeartbeats 4000000
namespace Hk
open PySem PySem.Spec PyProof.Rows L2
/-- the family of one line -/
def Fam (H : Hp) (F l b : Addr) : Prop := H F = some (.tup [.ref l]) ∧ H l = some (.tup [.int 0, .bl true, .ref b]) ∧ H b = some (.tup [])
theorem Fam.same {H H' : Hp} {F l b : Addr} (f : Fam H F l b) (s : Same H H') : Fam H' F l b := ⟨s _ _ f.1, s _ _ f.2.1, s _ _ f.2.2⟩
section
variable {P : Program} {w : World} {K : PySem.W.Frag} {mg : Str → Option Value} {base : Heap}
abbrev s_need_between : Stmt := top 12
theorem sc_need_between : FnScope ["value", "low", "high"] ["value", "low", "high"] (defScope s_need_between) := ⟨rfl, rfl, rfl, by decide +kernel, rfl, by decide +kernel, by decide +kernel⟩
def spNeedB : Sp := fun vs H Q _ => ∃ n lo hi : Int, vs = [.int n, .int lo, .int hi] ∧ lo ≤ n ∧ n ≤ hi ∧ ∀ H', Same H H' → Q .non H'
theorem ok_need_between (T : Txt K mg) (k_is_between : Kn P w K mg base 2 "is_between" ["value", "low", "high"] (spD1I isBt)) (at_ : At K mg "need_between" s_need_between ["value", "low", "high"]) : Kn P w K mg base 3 "need_between" ["value", "low", "high"] spNeedB := by
  refine Kn.mkN (st := s_need_between) (N := ["value", "low", "high"]) at_ sc_need_between (fun vs H Q E h => ?_) (fun f cdv A outer s H vs Q E hr free h => ?_)
  · obtain ⟨n, lo, hi, rfl, _⟩ := h
    rfl
  · obtain ⟨n, lo, hi, rfl, h1, h2, k⟩ := h
    refine ⟨_, (pss_one (ps_if (pt_not (pt_val (pe_callN k_is_between free (hr.mono (by decide)) rfl passL (pa_cons (pv 0) (pa_cons (pv 1) (pa_cons (pv 2) pa_nil)))))) (pss_one ps_never) pss_nil)), ?_⟩
    refine ⟨_, rfl, _, rfl, _, rfl, .int n, .int n, 0, 0, lo, hi, rfl, .int n, fun H1 s1 => ⟨_, rfl, ?_⟩⟩
    have e : isBt lo hi (.int n) = true := by
      show (decide (lo ≤ n) && decide (n ≤ hi)) = true
      rw [decide_eq_true h1, decide_eq_true h2]
      rfl
    rw [e]
    exact iteF (k H1 s1)
abbrev s_need_marks : Stmt := top 13
theorem sc_need_marks : FnScope ["marks"] ["marks"] (defScope s_need_marks) := ⟨rfl, rfl, rfl, by decide +kernel, rfl, by decide +kernel, by decide +kernel⟩
def spNeedM : Sp := fun vs H Q _ => ∃ n : Int, vs = [.int n] ∧ 1 ≤ n ∧ n ≤ 3 ∧ ∀ H', Same H H' → Q .non H'
theorem ok_need_marks (T : Txt K mg) (k_need_between : Kn P w K mg base 3 "need_between" ["value", "low", "high"] spNeedB) (at_ : At K mg "need_marks" s_need_marks ["marks"]) : Kn P w K mg base 4 "need_marks" ["marks"] spNeedM := by
  refine Kn.mkN (st := s_need_marks) (N := ["marks"]) at_ sc_need_marks (fun vs H Q E h => ?_) (fun f cdv A outer s H vs Q E hr free h => ?_)
  · obtain ⟨n, rfl, _⟩ := h
    rfl
  · obtain ⟨n, rfl, h1, h2, k⟩ := h
    refine ⟨_, (pss_one (ps_expr (pe_callN k_need_between free (hr.mono (by decide)) rfl passL (pa_cons (pv 0) (pa_cons pe_int (pa_cons pe_int pa_nil)))))), ?_⟩
    exact ⟨_, rfl, n, 1, 3, rfl, h1, h2, fun H' s' => k H' s'⟩
abbrev s_is_number_row : Stmt := top 11
theorem sc_is_number_row : FnScope ["value", "most", "high", "item"] ["value", "most", "high"] (defScope s_is_number_row) := ⟨rfl, rfl, rfl, by decide +kernel, rfl, by decide +kernel, by decide +kernel⟩
def spRow0 : Sp := fun vs H Q _ => ∃ (b : Addr) (most high : Int), vs = [.ref b, .int most, .int high] ∧ H b = some (.tup []) ∧ 0 ≤ most ∧ ∀ H', Same H H' → Q (.bl true) H'
theorem ok_is_number_row (T : Txt K mg) (at_ : At K mg "is_number_row" s_is_number_row ["value", "most", "high"]) : Kn P w K mg base 1 "is_number_row" ["value", "most", "high"] spRow0 := by
  refine Kn.mkN (st := s_is_number_row) (N := ["value", "most", "high", "item"]) at_ sc_is_number_row (fun vs H Q E h => ?_) (fun f cdv A outer s H vs Q E hr free h => ?_)
  · obtain ⟨b, most, high, rfl, _⟩ := h
    rfl
  · obtain ⟨b, most, high, rfl, hb, m0, k⟩ := h
    refine ⟨_, (pss_cons (ps_if (PW.pt (pw_or (pt_not (pt_val (pe_callB (id := "isinstance") (show CallR _ (.builtin "isinstance") (rIsi K) from call_isi) (by rfl) T.b_isinstance (by decide +kernel) (pa_cons (pv 0) (pa_cons (pe_bltn (v := .ty "tuple") (by rfl) T.b_tuple (by decide +kernel) rfl) pa_nil))))) (pw_or1 (pt_cmpR op_gt (pe_callB (id := "len") call_len_seq (by rfl) T.b_len (by decide +kernel) (pa_cons (pv 0) pa_nil)) (pv 1) (nomark _))))) (pss_one (ps_ret pe_bl)) pss_nil) (pss_one (ps_ret (pe_callB (id := "all") (cr_all rfl) (by rfl) T.b_all (by decide +kernel) (pa_cons (pe_lc (own := [("item", 3)]) (by rfl) sc_is_number_row.nd (tt := tYes) (pi_tup (pv 0)) (blkOk_by (own := [("item", 3)]) (N := ["value", "most", "high", "item"]) (sc := defScope s_is_number_row) (by decide +kernel)) (fun _ _ _ _ _ => pg_name (i := 3) sc_is_number_row.nd rfl (Or.inl rfl)) (fun _ _ _ _ _ => pts_nil) (fun _ _ _ _ _ => (pe_and (pe_callB (id := "isinstance") (show CallR _ (.builtin "isinstance") (rIsi K) from call_isi) (by rfl) T.b_isinstance (by decide +kernel) (pa_cons (pv 3) (pa_cons (pe_bltn (v := .ty "int") (by rfl) T.b_int (by decide +kernel) rfl) pa_nil))) (pe_and (pe_not (pe_callB (id := "isinstance") (show CallR _ (.builtin "isinstance") (rIsi K) from call_isi) (by rfl) T.b_isinstance (by decide +kernel) (pa_cons (pv 3) (pa_cons (pe_bltn (v := .ty "bool") (by rfl) T.b_bool (by decide +kernel) rfl) pa_nil)))) (pe_one (pe_chain op_le op_le pe_int (pv 3) (pv 2))))))) pa_nil))))), ?_⟩
    refine ⟨_, rfl, .ref b, .ty "tuple", .type "tuple", .type "tuple", true, rfl, .ty _, .base (.tup hb), kit_ty (by decide +kernel), _, rfl, iteF ?_⟩
    refine ⟨_, rfl, b, [], rfl, .inr (SqT.of hb), _, rfl, _, _, rfl, rfl, _, rfl, ?_⟩
    refine (if_neg (by simp; omega)).mpr ?_
    refine ⟨_, rfl, b, rfl, ⟨_, SqT.of hb⟩, fun D nD => ?_⟩
    refine lc_filt (walk_tup (xs := [])) (fun _ => true) (fun _ => .non) (fun H' s' => SqT.of (s' _ _ hb)) (fun i H x H' y => by obtain ⟨rfl, _⟩ := y; exact Same.refl _) nD (small_of (k := 8) (by decide) (by decide)) (fun i x H1 H2 Qy Qn hi y s1 q1 q2 => absurd hi (Nat.not_lt_zero _)) (fun H4 s4 hD4 => ?_)
    exact ⟨D, [], rfl, SqL.of hD4, k H4 s4⟩
abbrev s_is_line : Stmt := top 33
theorem sc_is_line : FnScope ["value", "place", "marks", "mark", "is_alive", "children"] ["value", "place", "marks"] (defScope s_is_line) := ⟨rfl, rfl, rfl, by decide +kernel, rfl, by decide +kernel, by decide +kernel⟩
def spLine : Sp := fun vs H Q _ => ∃ (l b : Addr) (n : Int), vs = [.ref l, .int 0, .int n] ∧ H l = some (.tup [.int 0, .bl true, .ref b]) ∧ H b = some (.tup []) ∧ 1 ≤ n ∧ ∀ H', Same H H' → Q (.bl true) H'
theorem ok_is_line (T : Txt K mg) (hmc : ∃ t, mg "MOST_CHILDREN" = some (.int 600 t)) (k_is_between : Kn P w K mg base 2 "is_between" ["value", "low", "high"] (spD1I isBt)) (k_is_truth : Kn P w K mg base 1 "is_truth" ["value"] (spD1 isB)) (k_is_number_row : Kn P w K mg base 1 "is_number_row" ["value", "most", "high"] spRow0)
    (at_ : At K mg "is_line" s_is_line ["value", "place", "marks"]) : Kn P w K mg base 3 "is_line" ["value", "place", "marks"] spLine := by
  refine Kn.mkN (st := s_is_line) (N := ["value", "place", "marks", "mark", "is_alive", "children"]) at_ sc_is_line (fun vs H Q E h => ?_) (fun f cdv A outer s H vs Q E hr free h => ?_)
  · obtain ⟨l, b, n, rfl, _⟩ := h
    rfl
  · obtain ⟨l, b, n, rfl, hl, hb, n1, k⟩ := h
    obtain ⟨t, hmc⟩ := hmc
    refine ⟨_, (pss_cons (ps_if (PW.pt (pw_or (pt_not (pt_val (pe_callB (id := "isinstance") (show CallR _ (.builtin "isinstance") (rIsi K) from call_isi) (by rfl) T.b_isinstance (by decide +kernel) (pa_cons (pv 0) (pa_cons (pe_bltn (v := .ty "tuple") (by rfl) T.b_tuple (by decide +kernel) rfl) pa_nil))))) (pw_or1 (pt_cmpR op_ne (pe_callB (id := "len") call_len_seq (by rfl) T.b_len (by decide +kernel) (pa_cons (pv 0) pa_nil)) pe_int (nomark _))))) (pss_one (ps_ret pe_bl)) pss_nil) (pss_cons (ps_asg (pv 0) (pg_tup rfl (pgs_cons (pg_name (i := 3) sc_is_line.nd rfl (Or.inl rfl)) (pgs_cons (pg_name (i := 4) sc_is_line.nd rfl (Or.inl rfl)) (pgs_cons (pg_name (i := 5) sc_is_line.nd rfl (Or.inl rfl)) pgs_nil))))) (pss_cons (ps_if (PW.pt (pw_or (pt_not (pt_val (pe_callN k_is_between free (hr.mono (by decide)) rfl passL (pa_cons (pv 3) (pa_cons pe_int (pa_cons (pe_op op_sub (pv 2) pe_int) pa_nil)))))) (pw_or1 (pt_not (pt_val (pe_callN k_is_truth free (hr.mono (by decide)) rfl passL (pa_cons (pv 4) pa_nil))))))) (pss_one (ps_ret pe_bl)) pss_nil) (pss_one (ps_ret (pe_callN k_is_number_row free (hr.mono (by decide)) rfl passL (pa_cons (pv 5) (pa_cons (pe_glob (v := .int 600) rfl hmc ⟨_, rfl⟩) (pa_cons (pe_op op_sub (pv 1) pe_int) pa_nil))))))))), ?_⟩
    refine ⟨_, rfl, .ref l, .ty "tuple", .type "tuple", .type "tuple", true, rfl, .ty _, .base (.tup hl), kit_ty (by decide +kernel), _, rfl, iteF ?_⟩
    refine ⟨_, rfl, l, _, rfl, .inr (SqT.of hl), rfl, _, rfl, iteF ?_⟩
    refine ⟨_, rfl, l, _, rfl, SqT.of hl, rfl, _, _, rfl, _, _, rfl, _, _, rfl, rfl, ?_⟩
    refine ⟨_, rfl, _, rfl, _, _, rfl, rfl, .int 0, .int 0, 0, 0, 0, n - 1, rfl, .int 0, fun H1 s1 => ⟨_, rfl, ?_⟩⟩
    have e : isBt 0 (n - 1) (.int 0) = true := by
      show (decide ((0 : Int) ≤ 0) && decide ((0 : Int) ≤ n - 1)) = true
      rw [decide_eq_true (by omega), decide_eq_true (by omega)]
      rfl
    rw [e]
    refine iteF ⟨_, rfl, .bl true, .bool true, 0, 0, rfl, .bl true, fun H2 s2 => ⟨_, rfl, iteF ?_⟩⟩
    exact ⟨_, rfl, _, rfl, _, _, rfl, rfl, b, 600, 0 - 1, rfl, (s1.trans s2) _ _ hb, by decide, fun H3 s3 => k H3 ((s1.trans s2).trans s3)⟩
abbrev s_is_row_of_lines : Stmt := top 34
theorem sc_is_row_of_lines : FnScope ["value"] ["value"] (defScope s_is_row_of_lines) := ⟨rfl, rfl, rfl, by decide +kernel, rfl, by decide +kernel, by decide +kernel⟩
def spIsRow : Sp := fun vs H Q _ => ∃ (F l b : Addr), vs = [.ref F] ∧ Fam H F l b ∧ ∀ H', Same H H' → Q (.bl true) H'
theorem ok_is_row_of_lines (T : Txt K mg) (hml : ∃ t, mg "MOST_LINES" = some (.int 2000 t)) (at_ : At K mg "is_row_of_lines" s_is_row_of_lines ["value"]) : Kn P w K mg base 1 "is_row_of_lines" ["value"] spIsRow := by
  refine Kn.mkN (st := s_is_row_of_lines) (N := ["value"]) at_ sc_is_row_of_lines (fun vs H Q E h => ?_) (fun f cdv A outer s H vs Q E hr free h => ?_)
  · obtain ⟨F, l, b, rfl, _⟩ := h
    rfl
  · obtain ⟨F, l, b, rfl, fam, k⟩ := h
    obtain ⟨t, hml⟩ := hml
    refine ⟨_, (pss_one (ps_ret (pe_and (pe_callB (id := "isinstance") (show CallR _ (.builtin "isinstance") (rIsi K) from call_isi) (by rfl) T.b_isinstance (by decide +kernel) (pa_cons (pv 0) (pa_cons (pe_bltn (v := .ty "tuple") (by rfl) T.b_tuple (by decide +kernel) rfl) pa_nil))) (pe_one (pe_chain op_le op_le pe_int (pe_callB (id := "len") call_len_seq (by rfl) T.b_len (by decide +kernel) (pa_cons (pv 0) pa_nil)) (pe_glob (v := .int 2000) rfl hml ⟨_, rfl⟩)))))), ?_⟩
    have hF := fam.1
    refine ⟨_, rfl, .ref F, .ty "tuple", .type "tuple", .type "tuple", true, rfl, .ty _, .base (.tup hF), kit_ty (by decide +kernel), _, rfl, iteT ?_⟩
    refine ⟨_, rfl, F, _, rfl, .inr (SqT.of hF), _, _, rfl, rfl, _, rfl, iteT ?_⟩
    exact ⟨_, _, rfl, rfl, k H (Same.refl H)⟩
abbrev s_wrong_line : Stmt := top 35
theorem sc_wrong_line : FnScope ["family", "marks", "place", "line"] ["family", "marks"] (defScope s_wrong_line) := ⟨rfl, rfl, rfl, by decide +kernel, rfl, by decide +kernel, by decide +kernel⟩
def spWrong : Sp := fun vs H Q _ => ∃ (F l b : Addr) (n : Int), vs = [.ref F, .int n] ∧ Fam H F l b ∧ 1 ≤ n ∧ ∀ H', Same H H' → Q .non H'
theorem ok_wrong_line (T : Txt K mg) (k_is_line : Kn P w K mg base 3 "is_line" ["value", "place", "marks"] spLine) (at_ : At K mg "wrong_line" s_wrong_line ["family", "marks"]) : Kn P w K mg base 4 "wrong_line" ["family", "marks"] spWrong := by
  refine Kn.mkN (st := s_wrong_line) (N := ["family", "marks", "place", "line"]) at_ sc_wrong_line (fun vs H Q E h => ?_) (fun f cdv A outer s H vs Q E hr free h => ?_)
  · obtain ⟨F, l, b, n, rfl, _⟩ := h
    rfl
  · obtain ⟨F, l, b, n, rfl, fam, n1, k⟩ := h
    refine ⟨_, (pss_cons (ps_for PassesOwn.never rfl (pi_enT (by rfl) T.b_enumerate (pa_cons (pv 0) pa_nil)) (pg_tup rfl (pgs_cons (pg_name (i := 2) sc_wrong_line.nd rfl (Or.inl rfl)) (pgs_cons (pg_name (i := 3) sc_wrong_line.nd rfl (Or.inl rfl)) pgs_nil))) (pss_one (ps_if (pt_not (pt_val (pe_callN k_is_line free (hr.mono (by decide)) rfl passL (pa_cons (pv 3) (pa_cons (pv 2) (pa_cons (pv 1) pa_nil)))))) (pss_one (ps_ret (pv 2))) pss_nil))) (pss_one (ps_ret pe_non))), ?_⟩
    have hF := fam.1
    refine ⟨_, rfl, F, _, rfl, SqT.of hF, ?_⟩
    refine for_it (walk_enT (xs := [V.ref l])) (fun i σ H' => Same H H' ∧ ∃ v2 v3, σ = [some (.ref F), some (.int n), v2, v3]) ⟨Same.refl _, ⟨_, _, rfl⟩⟩ (fun i σ H' _ p => SqT.of (p.1 _ _ hF)) ?_ ?_
    · rintro i x σ H1 H2 hi ⟨s1, ⟨v2, v3, rfl⟩⟩ ⟨Tp, x1, x2, rfl, nT, rfl, hx1, hx2⟩
      have i0 : i = 0 := by
        have : ([V.ref l] : List V).length = 1 := rfl
        omega
      subst i0
      cases hx1
      cases hx2
      have s2 : Same H (upd H1 Tp (.tup [.int ((0 : Nat) : Int), .ref l])) := same_new s1 nT
      have hTp : upd H1 Tp (.tup [.int ((0 : Nat) : Int), .ref l]) Tp = some (.tup [.int ((0 : Nat) : Int), .ref l]) := upd_same
      generalize upd H1 Tp (.tup [.int ((0 : Nat) : Int), .ref l]) = H2 at s2 hTp ⊢
      refine ⟨Tp, _, rfl, SqT.of hTp, rfl, _, _, rfl, _, _, rfl, rfl, ?_⟩
      have f2 := fam.same s2
      exact ⟨_, rfl, _, rfl, _, rfl, l, b, n, rfl, f2.2.1, f2.2.2, n1, fun H3 s3 => ⟨_, rfl, iteF ⟨s2.trans s3, _, _, rfl⟩⟩⟩
    · rintro σ H2 ⟨s2, v2, v3, rfl⟩
      exact k _ s2
abbrev s_need_lines : Stmt := top 36
theorem sc_need_lines : FnScope ["family", "marks", "place"] ["family", "marks"] (defScope s_need_lines) := ⟨rfl, rfl, rfl, by decide +kernel, rfl, by decide +kernel, by decide +kernel⟩
def spLines : Sp := fun vs H Q _ => ∃ (F l b : Addr) (n : Int), vs = [.ref F, .int n] ∧ Fam H F l b ∧ 1 ≤ n ∧ ∀ v H', Same H H' → Q v H'
theorem ok_need_lines (k_is_row_of_lines : Kn P w K mg base 1 "is_row_of_lines" ["value"] spIsRow) (k_wrong_line : Kn P w K mg base 4 "wrong_line" ["family", "marks"] spWrong) (at_ : At K mg "need_lines" s_need_lines ["family", "marks"]) : Kn P w K mg base 5 "need_lines" ["family", "marks"] spLines := by
  refine Kn.mkN (st := s_need_lines) (N := ["family", "marks", "place"]) at_ sc_need_lines (fun vs H Q E h => ?_) (fun f cdv A outer s H vs Q E hr free h => ?_)
  · obtain ⟨F, l, b, n, rfl, _⟩ := h
    rfl
  · obtain ⟨F, l, b, n, rfl, fam, n1, k⟩ := h
    refine ⟨_, (pss_cons (ps_if (pt_not (pt_val (pe_callN k_is_row_of_lines free (hr.mono (by decide)) rfl passL (pa_cons (pv 0) pa_nil)))) (pss_one ps_never) pss_nil) (pss_cons (ps_set (i := 2) sc_need_lines.nd rfl (Or.inl rfl) (pe_callN k_wrong_line free (hr.mono (by decide)) rfl passL (pa_cons (pv 0) (pa_cons (pv 1) pa_nil)))) (pss_cons (ps_if (pt_cmpR op_notN (pv 2) pe_non (nomark _)) (pss_one ps_never) pss_nil) (pss_one (ps_ret (pv 0)))))), ?_⟩
    refine ⟨_, rfl, F, l, b, rfl, fam, fun H1 s1 => ⟨_, rfl, iteF ?_⟩⟩
    refine ⟨_, rfl, _, rfl, F, l, b, n, rfl, fam.same s1, n1, fun H2 s2 => ?_⟩
    exact ⟨_, rfl, rfl, _, rfl, iteF ⟨_, rfl, k _ H2 (s1.trans s2)⟩⟩
abbrev s_line_sizes : Stmt := top 38
theorem sc_line_sizes : FnScope ["lines", "sizes", "line", "child"] ["lines"] (defScope s_line_sizes) := ⟨rfl, rfl, rfl, by decide +kernel, rfl, by decide +kernel, by decide +kernel⟩
def spSizes : Sp := fun vs H Q _ => ∃ (F l b : Addr), vs = [.ref F] ∧ Fam H F l b ∧ ∀ (p : Addr) H', Same H H' → H' p = some (.lst [.int 1]) → Q (.ref p) H'
theorem ok_line_sizes (T : Txt K mg) (at_ : At K mg "line_sizes" s_line_sizes ["lines"]) : Kn P w K mg base 1 "line_sizes" ["lines"] spSizes := by
  refine Kn.mkN (st := s_line_sizes) (N := ["lines", "sizes", "line", "child"]) at_ sc_line_sizes (fun vs H Q E h => ?_) (fun f cdv A outer s H vs Q E hr free h => ?_)
  · obtain ⟨F, l, b, rfl, _⟩ := h
    rfl
  · obtain ⟨F, l, b, rfl, fam, k⟩ := h
    refine ⟨_, (pss_cons (ps_set (i := 1) sc_line_sizes.nd rfl (Or.inr rfl) (pe_lst pa_nil)) (pss_cons (ps_for PassesOwn.never rfl (pi_tup (pv 0)) (pg_name (i := 2) sc_line_sizes.nd rfl (Or.inl rfl)) (pss_one (ps_expr (pe_bm PySem.F.plainAttrs_list PySem.F.slot_list_append PySem.F.type_list_append mt_append (pv 1) (pa_cons (pe_op op_add pe_int (pe_callB (id := "sum") (cr_sum rfl) (by rfl) T.b_sum (by decide +kernel) (pa_cons (pe_lc (own := [("child", 3)]) (by rfl) sc_line_sizes.nd (tt := tYes) (pi_tup (pe_ix ix_tup (pv 2) pe_int (fun _ _ => rfl))) (blkOk_by (own := [("child", 3)]) (N := ["lines", "sizes", "line", "child"]) (sc := defScope s_line_sizes) (by decide +kernel)) (fun _ _ _ _ _ => pg_name (i := 3) sc_line_sizes.nd rfl (Or.inl rfl)) (fun _ _ _ _ _ => pts_nil) (fun _ _ _ _ _ => (pe_ix (ix_list : IxR _ (rIxL K)) (pv 1) (pv 3) (fun _ _ => rfl)))) pa_nil))) pa_nil))))) (pss_one (ps_ret (pv 1))))), ?_⟩
    have hF := fam.1
    refine ⟨Nat.zero_le _, fun p np => ?_⟩
    have s1 := same_upd (o := .lst []) np
    have hp : upd H p (.lst []) p = some (.lst []) := upd_same
    generalize upd H p (.lst []) = H1 at s1 hp ⊢
    refine ⟨_, rfl, F, rfl, ⟨_, SqT.of (s1 _ _ hF)⟩, ?_⟩
    refine for_it (walk_tup (xs := [V.ref l])) (fun i σ H' => Same H H' ∧ (∃ v2 v3, σ = [some (.ref F), some (.ref p), v2, v3]) ∧ H' p = some (.lst (List.replicate i (.int 1)))) ⟨s1, ⟨_, _, rfl⟩, hp⟩ (fun i σ H' _ q => SqT.of (q.1 _ _ hF)) ?_ ?_
    · rintro i x σ H2 H3 hi ⟨s2, ⟨v2, v3, rfl⟩, hp2⟩ ⟨rfl, hx⟩
      have i0 : i = 0 := by
        have : ([V.ref l] : List V).length = 1 := rfl
        omega
      subst i0
      cases hx
      have f2 := fam.same s2
      refine ⟨_, rfl, .inl ⟨rfl, [], SqL.of hp2⟩, ?_⟩
      refine ⟨_, rfl, l, _, 2, .ref b, rfl, rfl, SqT.of f2.2.1, rfl, b, rfl, ⟨_, SqT.of f2.2.2⟩, fun D nD => ?_⟩
      refine lc_filt (walk_tup (xs := [])) (fun _ => true) (fun _ => .non) (fun H' s' => SqT.of (s' _ _ f2.2.2)) (fun i H x H' y => by obtain ⟨rfl, _⟩ := y; exact Same.refl _) nD (small_of (k := 8) (by decide) (by decide)) (fun i x H1 H2 Qy Qn hi y s1 q1 q2 => absurd hi (Nat.not_lt_zero _)) (fun H4 s4 hD4 => ?_)
      refine ⟨D, [], rfl, SqL.of hD4, _, _, rfl, rfl, ?_⟩
      have hp4 := s4 _ _ hp2
      refine ⟨p, [], _, rfl, rfl, hp4, by decide, same_set (s2.trans s4) np, ⟨_, _, rfl⟩, upd_same⟩
    · rintro σ H2 ⟨s2, ⟨v2, v3, rfl⟩, hp2⟩
      exact ⟨_, rfl, k p H2 s2 hp2⟩
end
end Hk
set_option Elab.async false
set_option linter.all false
set_option maxRecDepth 100000
set_option maxHeartbeats 4000000
namespace Hk
open PySem PySem.Spec PyProof.Rows L2
/-- a named def with one default, that all its callers give all arguments -/
def AtD (K : PySem.W.Frag) (mg : Str → Option Value) (nm : Str) (st : Stmt) (ps : List Str) (dvs : List V) : Prop := ∃ (f : Addr) (fd : FuncData), FunD K nm nm (defArgs st) (defBody st) (defScope st) dvs [] f fd ∧ mg nm = some (.ref f) ∧ Binds K fd ps []
theorem Kn.mkD {P : Program} {w : World} {K : PySem.W.Frag} {mg : Str → Option Value} {base : Heap} {k : Nat} {nm : Str} {st : Stmt} {N ps : List Str} {sp : Sp} {dvs : List V} (at_ : AtD K mg nm st ps dvs) (S : FnScope N ps (defScope st)) (many : ∀ vs H Q E, sp vs H Q E → vs.length = ps.length)
    (body : ∀ (f : Addr) (cdv : Value) (A : Around) (outer : List Env) (s : Shared) (H : Hp) (vs : List V) (Q : VK) (E : XK), Room k (A.deeper (envOfC nm (defScope st) s.heap.objs.size f cdv)) → (A.deeper (envOfC nm (defScope st) s.heap.objs.size f cdv)).guards = some [] → sp vs H Q E →
      ∃ t, PSs (cxOf (L2.CX P w) P w K mg base N nm (defScope st) f cdv A outer s H E).nox (defBody st) t ∧ t { nx := fun _ H' => Q .non H', rt := Q } (start N vs) H) : Kn P w K mg base (k + 1) nm ps sp := by
  obtain ⟨f, fd, F, hm, hb⟩ := at_
  have kp := F.kp
  obtain ⟨oc, od, dV, kV, doc, pm, an, cdv, ct, osl, rfl, lk, hcd, _, _⟩ := F.ex
  refine ⟨f, _, ⟨many, fun A outer s H given us vs Q E hr free e0 hb rel want => ?_⟩, hm, kp, hb⟩
  refine LamX.run_ofS lk hcd S hr e0 hb rel (many _ _ _ _ want) fun hr' => ?_
  obtain ⟨t, h1, h2⟩ := body f cdv A outer s H vs Q E hr' free want
  exact ⟨t, h1.nox, h2⟩
theorem fault_parts {n : Int} {st rk rd cl : PyData} (h : fault (.tuple [.int n, st, rk, rd, cl]) = none) : isTRow st = true ∧ (boolsOf st).getD 0 false = false ∧ isTRow rk = true ∧ isRead (boolsOf st) (boolsOf rk) rd = true ∧ isClose n (boolsOf st) (boolsOf rk) cl = true := by
  cases h1 : isBt 1 3 (.int n) with
  | false => simp only [fault, h1] at h; cases h
  | true =>
  cases h2 : isTRow st with
  | false => simp only [fault, h1, h2] at h; cases h
  | true =>
  cases h3 : (boolsOf st).getD 0 false with
  | true => simp only [fault, h1, h2, h3] at h; cases h
  | false =>
  cases h4 : isTRow rk with
  | false => simp only [fault, h1, h2, h3, h4] at h; cases h
  | true =>
  cases h5 : isRead (boolsOf st) (boolsOf rk) rd with
  | false => simp only [fault, h1, h2, h3, h4, h5] at h; cases h
  | true =>
  cases h6 : isClose n (boolsOf st) (boolsOf rk) cl with
  | false => simp only [fault, h1, h2, h3, h4, h5, h6] at h; cases h
  | true => exact ⟨rfl, rfl, rfl, rfl, rfl⟩
theorem trow_len {d : PyData} (h : isTRow d = true) : 1 ≤ (boolsOf d).length ∧ (boolsOf d).length ≤ 8 := by
  cases d with
  | tuple ds =>
    simp only [isTRow, Bool.and_eq_true, decide_eq_true_eq] at h
    simp [boolsOf]
    exact h.1
  | _ => cases h
theorem row_cons {n : Nat} {p : Nat → PyData → Bool} {d : PyData} (h : isRowOf n p d = true) (hn : 1 ≤ n) : ∃ x ds, d = .tuple (x :: ds) ∧ p 0 x = true := by
  cases d with
  | tuple ds =>
    obtain ⟨h1, h2⟩ := row_all.mp h
    cases ds with
    | nil => simp at h1; omega
    | cons x ds => exact ⟨x, ds, rfl, h2 0 x rfl⟩
  | _ => cases h
theorem cell_parts {hs : List Bool} {ws : List Str} {d : PyData} (h : isCell hs ws d = true) : ∃ i w, d = .tuple [.int i, .str w] ∧ (w = "none" ∨ w ∈ ws) := by
  cases d with
  | tuple ds =>
    match ds, h with
    | [a, b], h =>
      have h' : cellOk hs ws b a = true := h
      cases a with
      | int i =>
        cases b with
        | str w =>
          refine ⟨i, w, rfl, ?_⟩
          simp only [cellOk, Bool.and_eq_true] at h'
          have h2 := h'.2
          split at h2
          · simp [inW] at h2
            exact .inr h2
          · simp [inW] at h2
            exact .inl h2.symm
        | _ => simp [cellOk, inW] at h'
      | _ => cases h'
    | [], h => cases h
    | [_], h => cases h
    | _ :: _ :: _ :: _, h => cases h
  | _ => cases h
theorem gd_of {H : Hp} {m g : Addr} {v : V} {d : PyData} (dt : Dt H m g v d) (h : fault d = none) : ∃ (cu cla : Addr) (n rank : Int) (v1 v2 rd : V) (pick : Str), v = .ref cu ∧ H cu = some (.tup [.int n, v1, v2, rd, .ref cla]) ∧ 1 ≤ n ∧ n ≤ 3 ∧ Gd H cla rank pick ∧ pick ≠ "line" := by
  obtain ⟨n, st, rk, rd, cl, rfl, n1, n3⟩ := fault_none h
  obtain ⟨h2, h3, h4, h5, h6⟩ := fault_parts h
  have l1 := trow_len h2
  cases dt with
  | @tup cu xs _ hx _ _ da =>
  cases da with
  | @cons _ _ _ _ t0 da =>
  cases da with
  | @cons v1 _ _ _ t1 da =>
  cases da with
  | @cons v2 _ _ _ t2 da =>
  cases da with
  | @cons vrd _ _ _ t3 da =>
  cases da with
  | @cons vcl _ _ _ t4 da =>
  cases da
  cases t0
  cases cl with
  | tuple bs =>
    have e : (decide ((bs.length : Int) = n) && bs.all (isBoth (boolsOf st) (boolsOf rk))) = true := h6
    simp only [Bool.and_eq_true, decide_eq_true_eq, List.all_eq_true] at e
    cases bs with
    | nil => simp at e; omega
    | cons bo bs =>
      have hb := e.2 bo (by simp)
      cases bo with
      | tuple es =>
        match es, hb with
        | [ea, eb], hb =>
          have hb' : (isCloseRow (boolsOf st) (boolsOf rk) [] ea && isCloseRow (boolsOf st) (boolsOf rk) ["self"] eb) = true := hb
          simp only [Bool.and_eq_true] at hb'
          obtain ⟨x, fs, rfl, hc⟩ := row_cons hb'.2 l1.1
          obtain ⟨i, w, rfl, hw⟩ := cell_parts hc
          cases t4 with
          | @tup cla ys _ hcl _ _ ca =>
          cases ca with
          | @cons _ _ _ _ cb ca =>
          cases cb with
          | @tup pr zs _ hpr _ _ pa =>
          cases pa with
          | @cons vd _ _ _ p1 pa =>
          cases pa with
          | @cons vl _ _ _ p2 pa =>
          cases pa
          cases p2 with
          | @tup lv us _ hlv _ _ la =>
          cases la with
          | @cons _ _ _ _ q1 la =>
          cases q1 with
          | @tup ce ws _ hce _ _ ea' =>
          cases ea' with
          | @cons _ _ _ _ r1 ea' =>
          cases ea' with
          | @cons _ _ _ _ r2 ea' =>
          cases ea'
          cases r1
          cases r2
          refine ⟨cu, cla, n, i, v1, v2, vrd, w, rfl, hx, n1, n3, ⟨pr, lv, ce, vd, _, _, hcl, hpr, hlv, hce⟩, fun z => ?_⟩
          subst z
          have e0 : oldW (boolsOf st) "line" 0 = [] := by
            unfold oldW
            rw [h3]
            rfl
          rw [e0] at hw
          rcases hw with z | z
          · exact absurd z (by decide +kernel)
          · simp at z
            exact absurd z (by decide +kernel)
        | [], hb => cases hb
        | [_], hb => cases hb
        | _ :: _ :: _ :: _, hb => cases hb
      | _ => cases hb
  | _ => cases h6
theorem Gd.same {H H' : Hp} {cla : Addr} {rank : Int} {pick : Str} (g : Gd H cla rank pick) (s : Same H H') : Gd H' cla rank pick := by
  obtain ⟨pr, lv, ce, vd, m1, m2, h1, h2, h3, h4⟩ := g.ex
  exact ⟨pr, lv, ce, vd, m1, m2, s _ _ h1, s _ _ h2, s _ _ h3, s _ _ h4⟩
def spFamily : Sp := fun vs H Q _ => ∃ (F l b : Addr) (n : Int), vs = [.ref F, .int n] ∧ Fam H F l b ∧ 1 ≤ n ∧ n ≤ 3 ∧ ∀ v H', Same H H' → Q v H'
section
variable {P : Program} {w : World} {K : PySem.W.Frag} {mg : Str → Option Value} {base : Heap} {C : Addr} {CS CR : Addr}
abbrev s_need_family : Stmt := top 37
theorem sc_need_family : FnScope ["family", "marks"] ["family", "marks"] (defScope s_need_family) := ⟨rfl, rfl, rfl, by decide +kernel, rfl, by decide +kernel, by decide +kernel⟩
theorem ok_need_family (T : Txt K mg) (hmm : ∃ t, mg "MOST_MEMBERS" = some (.int (10 ^ 60) t)) (k_need_marks : Kn P w K mg base 4 "need_marks" ["marks"] spNeedM) (k_need_lines : Kn P w K mg base 5 "need_lines" ["family", "marks"] spLines) (k_line_sizes : Kn P w K mg base 1 "line_sizes" ["lines"] spSizes)
    (at_ : AtD K mg "need_family" s_need_family ["family", "marks"] [.int 3]) : Kn P w K mg base 6 "need_family" ["family", "marks"] spFamily := by
  refine Kn.mkD (st := s_need_family) (N := ["family", "marks"]) at_ sc_need_family (fun vs H Q E h => ?_) (fun f cdv A outer s H vs Q E hr free h => ?_)
  · obtain ⟨F, l, b, n, rfl, _⟩ := h
    rfl
  · obtain ⟨F, l, b, n, rfl, fam, n1, n3, k⟩ := h
    obtain ⟨t, hmm⟩ := hmm
    refine ⟨_, (pss_cons (ps_expr (pe_callN k_need_marks free (hr.mono (by decide)) rfl passL (pa_cons (pv 1) pa_nil))) (pss_cons (ps_expr (pe_callN k_need_lines free (hr.mono (by decide)) rfl passL (pa_cons (pv 0) (pa_cons (pv 1) pa_nil)))) (pss_cons (ps_if (pt_cmpR op_gt (pe_ix ix_list (pe_callN k_line_sizes free (hr.mono (by decide)) rfl passL (pa_cons (pv 0) pa_nil)) (pe_un un_neg pe_int) (fun _ _ => rfl)) (pe_glob (v := .int (10 ^ 60)) rfl hmm ⟨_, rfl⟩) (nomark _)) (pss_one ps_never) pss_nil) (pss_one (ps_ret (pv 0)))))), ?_⟩
    refine ⟨_, rfl, n, rfl, n1, n3, fun H1 s1 => ?_⟩
    refine ⟨_, rfl, _, rfl, F, l, b, n, rfl, fam.same s1, n1, fun v H2 s2 => ?_⟩
    refine ⟨_, rfl, F, l, b, rfl, fam.same (s1.trans s2), fun p H3 s3 hp => ?_⟩
    refine ⟨_, rfl, p, _, _, .int 1, rfl, rfl, SqL.of hp, rfl, _, _, rfl, rfl, _, rfl, ?_⟩
    refine (if_neg (by decide)).mpr ?_
    exact ⟨_, rfl, k _ H3 ((s1.trans s2).trans s3)⟩
abbrev s_need_read : Stmt := top 44
theorem sc_need_read : FnScope ["custom", "family"] ["custom", "family"] (defScope s_need_read) := ⟨rfl, rfl, rfl, by decide +kernel, rfl, by decide +kernel, by decide +kernel⟩
/-- custom and family of need_read, read_family, heir -/
def spNeedRead (C : Addr) : Sp := fun vs H Q E => ∃ (v f : V) (d : PyData) (m g : Addr), vs = [v, f] ∧ Dt H m g v d ∧ Okd d ∧ (fault d = none → ∃ F l b : Addr, f = .ref F ∧ Fam H F l b ∧ ∀ u H', Same H H' → Q u H') ∧ (∀ wd, fault d = some wd → Raised "word" C (.str wd) H E)
theorem ok_need_read (k_need_custom : Kn P w K mg base 7 "need_custom" ["custom"] (spNeed C)) (k_need_family : Kn P w K mg base 6 "need_family" ["family", "marks"] spFamily) (at_ : At K mg "need_read" s_need_read ["custom", "family"]) : Kn P w K mg base 8 "need_read" ["custom", "family"] (spNeedRead C) := by
  refine Kn.mk (st := s_need_read) (N := ["custom", "family"]) at_ sc_need_read (fun vs H Q E h => ?_) (fun f cdv A outer s H vs Q E hr free h => ?_)
  · obtain ⟨v, f, d, m, g, rfl, _⟩ := h
    rfl
  · obtain ⟨v, f, d, m, g, rfl, dt, od, k1, k2⟩ := h
    refine ⟨_, (pss_cons (ps_expr (pe_callN k_need_custom free (hr.mono (by decide)) rfl (passes_call (takes_of rfl rfl rfl rfl) fun _ _ _ _ h => h) (pa_cons (pv 0) pa_nil))) (pss_one (ps_expr (pe_callN k_need_family free (hr.mono (by decide)) rfl (passes_call (takes_of rfl rfl rfl rfl) fun _ _ _ _ h => h) (pa_cons (pv 1) (pa_cons (pe_ix ix_tup (pv 0) pe_int (fun _ _ => rfl)) pa_nil)))))), ?_⟩
    refine ⟨_, rfl, v, d, m, g, rfl, dt, od, fun hf H1 s1 => ?_, k2⟩
    obtain ⟨F, l, b, rfl, fam, k⟩ := k1 hf
    obtain ⟨cu, cla, n, rank, v1, v2, rd, pick, rfl, hcu, n1, n3, gd, np⟩ := gd_of dt hf
    exact ⟨_, rfl, _, rfl, cu, _, 0, .int n, rfl, rfl, SqT.of (s1 _ _ hcu), at0, F, l, b, n, rfl, fam.same s1, n1, n3, fun u H2 s2 => k .non H2 (s1.trans s2)⟩
abbrev s_read_lines : Stmt := top 45
theorem sc_read_lines : FnScope ["custom", "lines", "shelf", "reader", "top"] ["custom", "lines"] (defScope s_read_lines) := ⟨rfl, rfl, rfl, by decide +kernel, rfl, by decide +kernel, by decide +kernel⟩
def spReadL (CS CR : Addr) : Sp := fun vs H Q _ => ∃ (v : V) (F l b : Addr) (d : PyData) (m g : Addr), vs = [v, .ref F] ∧ Dt H m g v d ∧ fault d = none ∧ Fam H F l b ∧
  ∀ (R S L RK PK HD cla p : Addr) (rank : Int) (pick : Str) H', Same H H' → Bk H' CS CR R S L RK PK HD cla rank pick → H' RK = some (.lst [.int rank]) → H' PK = some (.lst [.str pick]) → pick ≠ "line" → H' p = some (.tup [.int 0, .ref R]) → Q (.ref p) H'
theorem ok_read_lines (Y : Cl2 K CS CR) (k_S : In_ P w K mg base 1 CS "Shelf" ["self"] (spShI CS)) (k_R : In_ P w K mg base 1 CR "Reader" ["self", "custom", "shelf"] (spRdI CR))
    (k_F : Mn P w K mg base 2 CS "keep_family" ["self", "family"] (spKeepF CS)) (k_C : Mn P w K mg base 2 CR "catch_up" ["self"] (spCatch CS CR)) (at_ : At K mg "read_lines" s_read_lines ["custom", "lines"]) : Kn P w K mg base 4 "read_lines" ["custom", "lines"] (spReadL CS CR) := by
  obtain ⟨fS, fdS, GS, MS, gS, bS⟩ := k_S
  obtain ⟨fR, fdR, GR, MR, gR, bR⟩ := k_R
  obtain ⟨fF, fdF, GF, mF, bF⟩ := k_F
  obtain ⟨fC, fdC, GC, mC, bC⟩ := k_C
  refine Kn.mkN (st := s_read_lines) (N := ["custom", "lines", "shelf", "reader", "top"]) at_ sc_read_lines (fun vs H Q E h => ?_) (fun f cdv A outer s H vs Q E hr free h => ?_)
  · obtain ⟨v, F, l, b, d, m, g, rfl, _⟩ := h
    rfl
  · obtain ⟨v, F, l, b, d, m, g, rfl, dt, hf, fam, k⟩ := h
    refine ⟨_, (pss_cons (ps_set (i := 2) sc_read_lines.nd rfl (Or.inl rfl) (pe_make0 MS GS (hr.mono (by decide)) rfl gS bS .nil pass0)) (pss_cons (ps_set (i := 3) sc_read_lines.nd rfl (Or.inl rfl) (pe_make MR GR (hr.mono (by decide)) rfl gR bR .nil pass0 (pa_cons (pv 0) (pa_cons (pv 2) pa_nil)))) (pss_cons (ps_set (i := 4) sc_read_lines.nd rfl (Or.inl rfl) (pe_meth (pv 2) Y.cs mF GF (hr.mono (by decide)) bF .nil pass0 (pa_cons (pv 1) pa_nil))) (pss_cons (ps_expr (pe_meth0 (pv 3) Y.cr mC GC (hr.mono (by decide)) bC .nil pass0)) (pss_one (ps_ret (pe_tup (pa_cons (pv 4) (pa_cons (pv 3) pa_nil))))))))), ?_⟩
    obtain ⟨cu, cla, n, rank, v1, v2, rd, pick, rfl, hcu, n1, n3, gd, npk⟩ := gd_of dt hf
    obtain ⟨H1, e1⟩ : ∃ H1 : Hp, H1 = H := ⟨H, rfl⟩
    have s1 : Same H H1 := by
      rw [e1]
      exact Same.refl H
    rw [← e1]
    -- Shelf()
    intro S dx nS ndx neS
    have sA : Same H1 (upd (upd H1 dx (.own S)) S (.ins CS dx [])) := fun b o e => by
      rw [upd_ne (ne_of_none e nS), upd_ne (ne_of_none e ndx)]
      exact e
    have hSA : upd (upd H1 dx (.own S)) S (.ins CS dx []) S = some (.ins CS dx []) := upd_same
    generalize upd (upd H1 dx (.own S)) S (.ins CS dx []) = HA at sA hSA ⊢
    refine ⟨S, dx, rfl, hSA, fun L D H2 nL nD LD hS2 hL2 hD2 fr2 => ⟨rfl, ?_⟩⟩
    have s12 : Same H1 H2 := fun b o e => fr2 b o (sA b o e) (ne_of_none e nS)
    have s2 := s1.trans s12
    have LH : H L = none := s1.free (sA.free nL)
    have DH : H D = none := s1.free (sA.free nD)
    -- Reader(custom, shelf)
    refine ⟨_, rfl, _, rfl, fun R dxR nR ndxR neR => ?_⟩
    have sB : Same H2 (upd (upd H2 dxR (.own R)) R (.ins CR dxR [])) := fun b o e => by
      rw [upd_ne (ne_of_none e nR), upd_ne (ne_of_none e ndxR)]
      exact e
    have hRB : upd (upd H2 dxR (.own R)) R (.ins CR dxR []) R = some (.ins CR dxR []) := upd_same
    generalize upd (upd H2 dxR (.own R)) R (.ins CR dxR []) = HB at sB hRB ⊢
    refine ⟨R, dxR, cu, S, _, _, _, rd, .ref cla, rfl, hRB, sB _ _ (s2 _ _ hcu), fun RK PK HD H3 nRK nPK nHD r1 r2 r3 hR3 hRK3 hPK3 hHD3 fr3 => ⟨rfl, ?_⟩⟩
    have s23 : Same H2 H3 := fun b o e => fr3 b o (sB b o e) (ne_of_none e nR)
    have s3 := s2.trans s23
    have RKH : H RK = none := s2.free (sB.free nRK)
    have PKH : H PK = none := s2.free (sB.free nPK)
    have HDH : H HD = none := s2.free (sB.free nHD)
    have LRK : L ≠ RK := ne_of_none (sB _ _ hL2) nRK
    have LPK : L ≠ PK := ne_of_none (sB _ _ hL2) nPK
    have LHD : L ≠ HD := ne_of_none (sB _ _ hL2) nHD
    have DRK : D ≠ RK := ne_of_none (sB _ _ hD2) nRK
    have DPK : D ≠ PK := ne_of_none (sB _ _ hD2) nPK
    have DHD : D ≠ HD := ne_of_none (sB _ _ hD2) nHD
    have hS3 := s23 _ _ hS2
    have hL3 := s23 _ _ hL2
    have hD3 := s23 _ _ hD2
    have f3 := fam.same s3
    -- top = shelf.keep_family(family)
    refine ⟨_, rfl, S, dx, _, rfl, hS3, rfl, _, rfl, S, dx, L, D, F, l, b, rfl, hS3, hL3, hD3, f3.1, f3.2.1, f3.2.2, fun y e H4 fr4 hL4 hy4 he4 => ?_⟩
    have RL : R ≠ L := ne_of hR3 hL3 (by intro z; cases z)
    have RD : R ≠ D := ne_of hR3 hD3 (by intro z; cases z)
    have SL : S ≠ L := ne_of hS3 hL3 (by intro z; cases z)
    have SD : S ≠ D := ne_of hS3 hD3 (by intro z; cases z)
    have hR4 := fr4 _ _ hR3 RL RD
    have hS4 := fr4 _ _ hS3 SL SD
    have hRK4 := fr4 _ _ hRK3 (Ne.symm LRK) (Ne.symm DRK)
    have hPK4 := fr4 _ _ hPK3 (Ne.symm LPK) (Ne.symm DPK)
    have hHD4 := fr4 _ _ hHD3 (Ne.symm LHD) (Ne.symm DHD)
    have s4 : Same H H4 := fun b o e => fr4 b o (s3 b o e) (ne_of_none e LH) (ne_of_none e DH)
    have bk4 : Bk H4 CS CR R S L RK PK HD cla rank pick := ⟨⟨dxR, rd, hR4⟩, ⟨dx, D, y, e, hS4, hL4, hy4, he4⟩, gd.same s4⟩
    -- reader.catch_up()
    refine ⟨_, rfl, R, dxR, _, rfl, hR4, rfl, R, S, L, RK, PK, HD, cla, rank, pick, rfl, bk4, .inl ⟨hRK4, hPK4, hHD4, r1, r2, r3, LRK, LPK, LHD, fun H5 fr5 hRK5 hPK5 hHD5 => ?_⟩⟩
    have s5 : Same H H5 := fun b o e => fr5 b o (s4 b o e) (ne_of_none e RKH) (ne_of_none e PKH) (ne_of_none e HDH)
    have k5 : ∀ {a : Addr} {o : HO}, H4 a = some o → (∀ xs, o ≠ .lst xs) → H5 a = some o := fun {a o} ha ho => fr5 a o ha (fun z => by rw [z, hRK4] at ha; cases ha; exact ho _ rfl) (fun z => by rw [z, hPK4] at ha; cases ha; exact ho _ rfl) (fun z => by rw [z, hHD4] at ha; cases ha; exact ho _ rfl)
    refine ⟨_, rfl, _, rfl, by show 2 ≤ sizeLine; decide, fun p np => ?_⟩
    have s6 := same_upd (o := .tup [.int 0, .ref R]) np
    refine k R S L RK PK HD cla p rank pick _ (s5.trans s6) ⟨⟨dxR, rd, s6 _ _ (k5 hR4 (fun xs z => by cases z))⟩, ⟨dx, D, y, e, s6 _ _ (k5 hS4 (fun xs z => by cases z)), s6 _ _ (fr5 _ _ hL4 LRK LPK LHD), s6 _ _ (k5 hy4 (fun xs z => by cases z)), s6 _ _ (k5 he4 (fun xs z => by cases z))⟩, gd.same (s5.trans s6)⟩ (s6 _ _ hRK5) (s6 _ _ hPK5) npk upd_same
abbrev s_read_family : Stmt := top 46
theorem sc_read_family : FnScope ["custom", "family"] ["custom", "family"] (defScope s_read_family) := ⟨rfl, rfl, rfl, by decide +kernel, rfl, by decide +kernel, by decide +kernel⟩
def spReadF (C CS CR : Addr) : Sp := fun vs H Q E => ∃ (v f : V) (d : PyData) (m g : Addr), vs = [v, f] ∧ Dt H m g v d ∧ Okd d ∧
  (fault d = none → ∃ F l b : Addr, f = .ref F ∧ Fam H F l b ∧ ∀ (R S L RK PK HD cla p : Addr) (rank : Int) (pick : Str) H', Same H H' → Bk H' CS CR R S L RK PK HD cla rank pick → H' RK = some (.lst [.int rank]) → H' PK = some (.lst [.str pick]) → pick ≠ "line" → H' p = some (.tup [.int 0, .ref R]) → Q (.ref p) H') ∧
  (∀ wd, fault d = some wd → Raised "word" C (.str wd) H E)
theorem ok_read_family (k_need_read : Kn P w K mg base 8 "need_read" ["custom", "family"] (spNeedRead C)) (k_read_lines : Kn P w K mg base 4 "read_lines" ["custom", "lines"] (spReadL CS CR)) (at_ : At K mg "read_family" s_read_family ["custom", "family"]) : Kn P w K mg base 9 "read_family" ["custom", "family"] (spReadF C CS CR) := by
  refine Kn.mk (st := s_read_family) (N := ["custom", "family"]) at_ sc_read_family (fun vs H Q E h => ?_) (fun f cdv A outer s H vs Q E hr free h => ?_)
  · obtain ⟨v, f, d, m, g, rfl, _⟩ := h
    rfl
  · obtain ⟨v, f, d, m, g, rfl, dt, od, k1, k2⟩ := h
    refine ⟨_, (pss_cons (ps_expr (pe_callN k_need_read free (hr.mono (by decide)) rfl (passes_call (takes_of rfl rfl rfl rfl) fun _ _ _ _ h => h) (pa_cons (pv 0) (pa_cons (pv 1) pa_nil)))) (pss_one (ps_ret (pe_callN k_read_lines free (hr.mono (by decide)) rfl passL (pa_cons (pv 0) (pa_cons (pv 1) pa_nil)))))), ?_⟩
    refine ⟨_, rfl, _, rfl, v, f, d, m, g, rfl, dt, od, fun hf => ?_, k2⟩
    obtain ⟨F, l, b, rfl, fam, k⟩ := k1 hf
    refine ⟨F, l, b, rfl, fam, fun u H1 s1 => ?_⟩
    exact ⟨_, rfl, _, rfl, v, F, l, b, d, m, g, rfl, dt.same s1, hf, fam.same s1, fun R S L RK PK HD cla p rank pick H2 s2 bk a1 a2 a3 a4 => k R S L RK PK HD cla p rank pick H2 (s1.trans s2) bk a1 a2 a3 a4⟩
abbrev s_heir : Stmt := top 48
theorem sc_heir : FnScope ["custom", "family", "top", "reader"] ["custom", "family"] (defScope s_heir) := ⟨rfl, rfl, rfl, by decide +kernel, rfl, by decide +kernel, by decide +kernel⟩
def spHeir (C : Addr) : Sp := fun vs H Q E => ∃ (v f : V) (d : PyData) (m g : Addr), vs = [v, f] ∧ Dt H m g v d ∧ Okd d ∧ (fault d = none → ∃ F l b : Addr, f = .ref F ∧ Fam H F l b ∧ ∀ u H', Same H H' → Q u H') ∧ (∀ wd, fault d = some wd → Raised "word" C (.str wd) H E)
theorem ok_heir (Y : Cl2 K CS CR) (k_read_family : Kn P w K mg base 9 "read_family" ["custom", "family"] (spReadF C CS CR)) (k_H : Mn P w K mg base 3 CR "heir_of" ["self", "top"] (spHeirOf CS CR)) (at_ : At K mg "heir" s_heir ["custom", "family"]) : Kn P w K mg base 10 "heir" ["custom", "family"] (spHeir C) := by
  obtain ⟨fH, fdH, GH, mH, bH⟩ := k_H
  refine Kn.mk (st := s_heir) (N := ["custom", "family", "top", "reader"]) at_ sc_heir (fun vs H Q E h => ?_) (fun f cdv A outer s H vs Q E hr free h => ?_)
  · obtain ⟨v, f, d, m, g, rfl, _⟩ := h
    rfl
  · obtain ⟨v, f, d, m, g, rfl, dt, od, k1, k2⟩ := h
    refine ⟨_, (pss_cons (ps_asg (pe_callN k_read_family free (hr.mono (by decide)) rfl (passes_call (takes_of rfl rfl rfl rfl) fun _ _ _ _ h => h) (pa_cons (pv 0) (pa_cons (pv 1) pa_nil))) (pg_tup rfl (pgs_cons (pg_name (i := 2) sc_heir.nd rfl (Or.inl rfl)) (pgs_cons (pg_name (i := 3) sc_heir.nd rfl (Or.inl rfl)) pgs_nil)))) (pss_one (ps_ret (pe_meth (pv 3) Y.cr mH GH (hr.mono (by decide)) bH .nil pass0 (pa_cons (pv 2) pa_nil))))), ?_⟩
    refine ⟨_, rfl, _, rfl, v, f, d, m, g, rfl, dt, od, fun hf => ?_, k2⟩
    obtain ⟨F, l, b, rfl, fam, k⟩ := k1 hf
    refine ⟨F, l, b, rfl, fam, fun R S L RK PK HD cla p rank pick H1 s1 bk hRK hPK np hp => ?_⟩
    refine ⟨p, _, rfl, SqT.of hp, rfl, _, _, rfl, _, _, rfl, rfl, ?_⟩
    obtain ⟨dxR, rd, hR⟩ := bk.rd
    exact ⟨_, rfl, R, dxR, _, rfl, hR, rfl, _, rfl, R, S, L, RK, PK, HD, cla, rank, pick, rfl, bk, hRK, hPK, np, fun u H2 s2 => k u H2 (s1.trans s2)⟩
end
end Hk
set_option Elab.async false
set_option linter.all false
set_option maxRecDepth 100000
set_option maxHeartbeats 4000000
namespace Hk
open PySem PySem.Spec PyProof.Rows L2
def words : List Str := ["old", "new", "none", "line", "self"]
mutual
/-- small data: numbers up to 8, the words of a custom, tuples of at most eight -/
def ti : PyData → Bool
  | .int i => decide (0 ≤ i) && decide (i ≤ 8)
  | .str w => words.any (· == w)
  | .bool _ => true
  | .tuple ds => decide (ds.length ≤ 8) && tiA ds
  | _ => false
def tiA : List PyData → Bool
  | [] => true
  | d :: ds => ti d && tiA ds
end
theorem tiA_all {ds : List PyData} : tiA ds = ds.all ti := by
  induction ds with
  | nil => rfl
  | cons d ds ih => simp [tiA, ih]
def Ti (k : Nat) (d : PyData) : Prop := ti d = true ∧ d.depth ≤ k
theorem Ti.mono {j k : Nat} {d : PyData} (h : Ti j d) (jk : j ≤ k) : Ti k d := ⟨h.1, Nat.le_trans h.2 jk⟩
theorem depthAll_le {k : Nat} : ∀ {es : List PyData}, (∀ e ∈ es, e.depth ≤ k) → PyData.depthAll es ≤ k
  | [], _ => Nat.zero_le _
  | e :: es, h => by
    have h1 := h e (by simp)
    have h2 := depthAll_le (es := es) fun x hx => h x (by simp [hx])
    simp [PyData.depthAll]
    omega
theorem ti_tup {k : Nat} {ds : List PyData} (h : ∀ e ∈ ds, Ti k e) (l : ds.length ≤ 8) : Ti (k + 1) (.tuple ds) := by
  refine ⟨?_, ?_⟩
  · show (decide (ds.length ≤ 8) && tiA ds) = true
    rw [decide_eq_true l, Bool.true_and, tiA_all, List.all_eq_true]
    exact fun e he => (h e he).1
  · have := depthAll_le fun e he => (h e he).2
    simp [PyData.depth]
    omega
theorem ti_row {n k : Nat} {p : Nat → PyData → Bool} {d : PyData} (h : isRowOf n p d = true) (n8 : n ≤ 8) (hp : ∀ i x, p i x = true → Ti k x) : Ti (k + 1) d := by
  cases d with
  | tuple ds =>
    obtain ⟨h1, h2⟩ := row_all.mp h
    refine ti_tup (fun e he => ?_) (by omega)
    obtain ⟨j, hj, e1⟩ := List.mem_iff_getElem.mp he
    exact hp j e (h2 j e (by rw [List.getElem?_eq_getElem hj, e1]))
  | _ => cases h
theorem ti_word {w : Str} (h : w ∈ words) : Ti 0 (.str w) := ⟨List.any_eq_true.mpr ⟨w, h, by simp⟩, Nat.zero_le _⟩
theorem ti_int {i : Int} (h0 : 0 ≤ i) (h8 : i ≤ 8) : Ti 0 (.int i) := ⟨by show (decide (0 ≤ i) && decide (i ≤ 8)) = true; rw [decide_eq_true h0, decide_eq_true h8]; rfl, Nat.zero_le _⟩
theorem ti_cell {hs : List Bool} {ws : List Str} {d : PyData} (h : isCell hs ws d = true) (h8 : hs.length ≤ 8) (hw : ∀ w ∈ ws, w ∈ words) : Ti 1 d := by
  obtain ⟨i, w, rfl, hh⟩ := cell_parts h
  have h' : cellOk hs ws (.str w) (.int i) = true := h
  simp only [cellOk, Bool.and_eq_true, decide_eq_true_eq] at h'
  refine ti_tup (k := 0) (fun e he => ?_) (by simp)
  simp only [List.mem_cons, List.not_mem_nil, or_false] at he
  rcases he with e1 | e1 <;> subst e1
  · exact ti_int (by omega) (by omega)
  · rcases hh with z | z
    · subst z
      exact ti_word (by decide)
    · exact ti_word (hw w z)
theorem ti_trow {d : PyData} (h : isTRow d = true) : Ti 1 d := by
  cases d with
  | tuple ds =>
    simp only [isTRow, Bool.and_eq_true, decide_eq_true_eq, List.all_eq_true] at h
    refine ti_tup (k := 0) (fun e he => ?_) h.1.2
    have z := h.2 e he
    cases e with
    | bool b => exact ⟨rfl, Nat.zero_le _⟩
    | _ => cases z
  | _ => cases h
theorem oldW_mem {st : List Bool} {w x : Str} {i : Nat} (h : x ∈ oldW st w i) : x = w := by
  unfold oldW at h
  split at h <;> simp at h
  exact h
theorem ti_custom {d : PyData} (h : fault d = none) : Ti 5 d := by
  obtain ⟨n, st, rk, rd, cl, rfl, n1, n3⟩ := fault_none h
  obtain ⟨h2, h3, h4, h5, h6⟩ := fault_parts h
  have l1 := trow_len h2
  have l2 := trow_len h4
  refine ti_tup (k := 4) (fun e he => ?_) (by simp)
  simp only [List.mem_cons, List.not_mem_nil, or_false] at he
  rcases he with z | z | z | z | z <;> subst z
  · exact (ti_int (by omega) (by omega)).mono (by omega)
  · exact (ti_trow h2).mono (by omega)
  · exact (ti_trow h4).mono (by omega)
  · refine (ti_row h5 l1.2 (k := 2) fun i x hx => ti_row hx l2.2 (k := 1) fun j y hy => ti_cell hy l1.2 fun w hw => ?_).mono (by omega)
    rcases List.mem_append.mp hw with z | z
    · rw [oldW_mem z]
      decide
    · rw [oldW_mem z]
      decide
  · cases e with
    | tuple bs =>
      have e1 : (decide ((bs.length : Int) = n) && bs.all (isBoth (boolsOf st) (boolsOf rk))) = true := h6
      simp only [Bool.and_eq_true, decide_eq_true_eq, List.all_eq_true] at e1
      refine ti_tup (k := 3) (fun b hb => ?_) (by omega)
      have hb2 := e1.2 b hb
      cases b with
      | tuple es =>
        match es, hb2 with
        | [x, y], hb2 =>
          have hb3 : (isCloseRow (boolsOf st) (boolsOf rk) [] x && isCloseRow (boolsOf st) (boolsOf rk) ["self"] y) = true := hb2
          simp only [Bool.and_eq_true] at hb3
          refine ti_tup (k := 2) (fun c hc => ?_) (by simp)
          simp only [List.mem_cons, List.not_mem_nil, or_false] at hc
          rcases hc with z | z <;> subst z
          · exact ti_row hb3.1 l1.2 (k := 1) fun j y hy => ti_cell hy l2.2 fun w hw => by
              rcases List.mem_append.mp hw with z | z
              · rw [oldW_mem z]
                decide
              · cases z
          · exact ti_row hb3.2 l1.2 (k := 1) fun j y hy => ti_cell hy l2.2 fun w hw => by
              rcases List.mem_append.mp hw with z | z
              · rw [oldW_mem z]
                decide
              · rw [List.mem_singleton.mp z]
                decide
        | [], hb2 => cases hb2
        | [_], hb2 => cases hb2
        | _ :: _ :: _ :: _, hb2 => cases hb2
      | _ => cases hb2
    | _ => cases h6
end Hk
set_option Elab.async false
set_option linter.all false
set_option maxRecDepth 100000
set_option maxHeartbeats 4000000
namespace Hk
open PySem PySem.Spec PyProof.Rows L2
/-- what repr asks of data -/
def Shw (d : PyData) : Prop := d.showable = true ∧ d.canLay0 = true ∧ d.depth ≤ 60 ∧ d.shown.length ≤ sizeLine
theorem shown_dig {i : Int} (h0 : 0 ≤ i) (h8 : i ≤ 8) : (PyData.shown (.int i)).length ≤ 13 ∧ i.natAbs.log2 < 1920 ∧ PyData.weight (.int i) ≤ 4 := by
  have : i = 0 ∨ i = 1 ∨ i = 2 ∨ i = 3 ∨ i = 4 ∨ i = 5 ∨ i = 6 ∨ i = 7 ∨ i = 8 := by omega
  rcases this with e | e | e | e | e | e | e | e | e <;> subst e <;> decide +kernel
theorem word_facts : ∀ w ∈ words, (PyData.str w).canLay0 = true ∧ PyData.weight (.str w) ≤ 4 := by decide +kernel
/-- weight of small data of a depth -/
def wgt : Nat → Nat
  | 0 => 4
  | k + 1 => 8 * (wgt k + 1)
theorem wgt_mono (k : Nat) : wgt k ≤ wgt (k + 1) := by
  show wgt k ≤ 8 * (wgt k + 1)
  omega
theorem wgt_le {j k : Nat} (h : j ≤ k) : wgt j ≤ wgt k := by
  induction h with
  | refl => exact Nat.le_refl _
  | step _ ih => exact Nat.le_trans ih (wgt_mono _)
theorem wgt4 (k : Nat) : 4 ≤ wgt k := wgt_le (Nat.zero_le k)
structure TiF (k : Nat) (d : PyData) : Prop where
  lay : d.canLay0 = true
  sh : d.showable = true
  it : d.intsShort 13 = true
  sm : smB d = true
  w : d.weight ≤ wgt k
structure TiFs (k : Nat) (ds : List PyData) : Prop where
  lay : PyData.canLayAll0 ds = true
  sh : PyData.showableAll ds = true
  it : PyData.intsShortAll 13 ds = true
  sm : smA ds = true
  w : PyData.weightAll ds ≤ ds.length * (wgt k + 1)
mutual
theorem ti_facts : ∀ (k : Nat) (d : PyData), ti d = true → d.depth ≤ k → TiF k d
  | k, .int i, h, _ => by
    have h' : (decide (0 ≤ i) && decide (i ≤ 8)) = true := h
    simp only [Bool.and_eq_true, decide_eq_true_eq] at h'
    have z := shown_dig h'.1 h'.2
    exact ⟨rfl, decide_eq_true z.2.1, decide_eq_true z.1, rfl, Nat.le_trans z.2.2 (wgt4 k)⟩
  | k, .str w, h, _ => by
    have h' : (words.any (· == w)) = true := h
    obtain ⟨x, hx, e⟩ := List.any_eq_true.mp h'
    have e2 : x = w := by simpa using e
    subst e2
    have z := word_facts x hx
    exact ⟨z.1, rfl, rfl, rfl, Nat.le_trans z.2 (wgt4 k)⟩
  | k, .bool b, _, _ => ⟨rfl, rfl, rfl, rfl, Nat.zero_le _⟩
  | k, .none, h, _ => by cases h
  | k, .list _, h, _ => by cases h
  | k, .dict _, h, _ => by cases h
  | k, .tuple ds, h, hd => by
    have h' : (decide (ds.length ≤ 8) && tiA ds) = true := h
    simp only [Bool.and_eq_true, decide_eq_true_eq] at h'
    have hd' : PyData.depthAll ds + 1 ≤ k := hd
    cases k with
    | zero => omega
    | succ j =>
      have z := ti_factsA j ds h'.2 (by omega)
      refine ⟨z.lay, z.sh, z.it, ?_, Nat.le_trans z.w (Nat.mul_le_mul_right _ h'.1)⟩
      show (decide (ds.length ≤ 100) && smA ds) = true
      rw [z.sm, decide_eq_true (by omega)]
      rfl
theorem ti_factsA : ∀ (k : Nat) (ds : List PyData), tiA ds = true → PyData.depthAll ds ≤ k → TiFs k ds
  | k, [], _, _ => ⟨rfl, rfl, rfl, rfl, by simp [PyData.weightAll]⟩
  | k, d :: ds, h, hd => by
    have h' : (ti d && tiA ds) = true := h
    simp only [Bool.and_eq_true] at h'
    have hd' : max d.depth (PyData.depthAll ds) ≤ k := hd
    have a := ti_facts k d h'.1 (by omega)
    have b := ti_factsA k ds h'.2 (by omega)
    refine ⟨?_, ?_, ?_, ?_, ?_⟩
    · show (d.canLay0 && PyData.canLayAll0 ds) = true
      rw [a.lay, b.lay]
      rfl
    · show (d.showable && PyData.showableAll ds) = true
      rw [a.sh, b.sh]
      rfl
    · show (d.intsShort 13 && PyData.intsShortAll 13 ds) = true
      rw [a.it, b.it]
      rfl
    · show (smB d && smA ds) = true
      rw [a.sm, b.sm]
      rfl
    · show d.weight + 1 + PyData.weightAll ds ≤ (ds.length + 1) * (wgt k + 1)
      rw [Nat.add_mul, Nat.one_mul]
      have := a.w
      have := b.w
      omega
end
theorem shw_custom {d : PyData} (h : fault d = none) : Shw d ∧ OkN 5 d ∧ smB d = true := by
  have t := ti_custom h
  have f := ti_facts 5 d t.1 t.2
  have w5 : wgt 5 = 168520 := by decide
  have wl : d.weight ≤ 2 ^ 20 := by
    have := f.w
    have e : (2 : Nat) ^ 20 = 1048576 := by decide
    omega
  have l0 : PyData.layable0 d = true := by
    show (PyData.canLay0 d && decide (PyData.depth d ≤ 64) && decide (PyData.weight d ≤ 2 ^ 20)) = true
    rw [f.lay, decide_eq_true (by have := t.2; omega), decide_eq_true wl]
    rfl
  have sl := shown_le13 l0 f.it
  exact ⟨⟨f.sh, f.lay, by have := t.2; omega, Nat.le_trans sl (by decide)⟩, ⟨f.lay, t.2⟩, f.sm⟩
section
variable {P : Program} {w : World} {K : PySem.W.Frag} {mg : Str → Option Value} {base : Heap}
abbrev s_law_like : Stmt := top 54
theorem sc_law_like : FnScope ["got", "due"] ["got", "due"] (defScope s_law_like) := ⟨rfl, rfl, rfl, by decide +kernel, rfl, by decide +kernel, by decide +kernel⟩
def spLike (K : PySem.W.Frag) : Sp := fun vs H Q _ => ∃ (x y : V) (d : PyData), vs = [x, y] ∧ Dp K H x d ∧ Dp K H y d ∧ Shw d ∧ Q (.bl true) H
theorem ok_law_like (T : Txt K mg) (at_ : At K mg "_law_like" s_law_like ["got", "due"]) : Kn P w K mg base 1 "_law_like" ["got", "due"] (spLike K) := by
  refine Kn.mkN (st := s_law_like) (N := ["got", "due"]) at_ sc_law_like (fun vs H Q E h => ?_) (fun f cdv A outer s H vs Q E hr free h => ?_)
  · obtain ⟨x, y, d, rfl, _⟩ := h
    rfl
  · obtain ⟨x, y, d, rfl, dx, dy, sh, k⟩ := h
    refine ⟨_, (pss_one (ps_ret (pe_cmpR op_eq (pe_callB (id := "repr") (call_show free (room65' hr)) (by rfl) T.b_repr (by decide +kernel) (pa_cons (pv 0) pa_nil)) (pe_callB (id := "repr") (call_show free (room65' hr)) (by rfl) T.b_repr (by decide +kernel) (pa_cons (pv 1) pa_nil)) (nomark _)))), ?_⟩
    refine ⟨_, rfl, x, d, rfl, dx, sh.1, sh.2.1, sh.2.2.1, sh.2.2.2, _, rfl, y, d, rfl, dy, sh.1, sh.2.1, sh.2.2.1, sh.2.2.2, rfl, ?_⟩
    rw [decide_eq_true rfl]
    exact k
end
end Hk
set_option Elab.async false
set_option linter.all false
set_option maxRecDepth 100000
set_option maxHeartbeats 4000000
namespace Hk
open PySem PySem.Spec PyProof.Rows L2
/-- call: what it answers, or the error it raises (o) -/
def Acts (C : Addr) (H : Hp) (o : Option Str) (act : Hp → VK → XK → Prop) : Prop := ∀ (H0 : Hp) (Qa : VK) (Ea : XK), Same H H0 → (o = none → ∀ u H', Same H0 H' → Qa u H') → (∀ wd, o = some wd → Raised "word" C (.str wd) H0 Ea) → act H0 Qa Ea
def spWord (P : Program) (w : World) (K : PySem.W.Frag) (mg : Str → Option Value) (base : Heap) (k : Nat) (C : Addr) : Sp := fun vs H Q _ => ∃ (f : Addr) (R : Hp → Prop) (act : Hp → VK → XK → Prop) (o : Option Str), vs = [.ref f] ∧ FnObj H f ∧ (∀ H', Same H H' → R H') ∧ LamP P w K mg base k f R act ∧ Acts C H o act ∧ ∀ (p : Addr) (H' : Hp), Same H H' → H' p = some (.tup [.str (o.getD "let"), .bl true]) → Q (.ref p) H'
section
variable {P : Program} {w : World} {K : PySem.W.Frag} {mg : Str → Option Value} {base : Heap} {C B fI fB : Addr}
abbrev s_law_word : Stmt := top 69
theorem sc_law_word : FnScope ["call", "found", "e"] ["call"] (defScope s_law_word) := ⟨rfl, rfl, rfl, by decide +kernel, rfl, by decide +kernel, by decide +kernel⟩
theorem ok_law_word {k : Nat} (T : Txt K mg) (O : PySem.OwnX.OwnTxt P K mg "BadCustom" "word" C B fI fB) (EC : ExcC K C) (hB : mg "HeirError" = some (.ref B)) (hV : mg "ValueError" = none) (i1 : PySem.W.kitOne K (.ref C) (.ref B) = some true) (i2 : PySem.W.kitOne K (.ref C) (.type "ValueError") = some true)
    (at_ : At K mg "_law_word" s_law_word ["call"]) : Kn P w K mg base (k + 1) "_law_word" ["call"] (spWord P w K mg base k C) := by
  refine Kn.mkN (st := s_law_word) (N := ["call", "found", "e"]) at_ sc_law_word (fun vs H Q E h => ?_) (fun f cdv A outer s H vs Q E hr free h => ?_)
  · obtain ⟨f, R, act, o, rfl, _⟩ := h
    rfl
  · obtain ⟨f1, R, act, o, rfl, fo, hR, lp, ac, q⟩ := h
    refine ⟨_, pss_cons (ps_set (i := 1) sc_law_word.nd rfl (Or.inl rfl) (pe_tup (pa_cons pe_str (pa_cons pe_bl pa_nil))))
      (pss_cons (ps_try_as (i := 2) (c := .ref C) (Wout := fun _ _ _ _ => False) rfl rfl sc_law_word.nd rfl rfl ⟨rfl, by decide, .inl O.gC⟩ LamX.takes0
        (tb := fun W => tDrop (tCallVW P w K mg base k 0 W))
        (fun W pn xe tk _ => pss_one (ps_expr (pe_callVW free hr tk rfl (.inl rfl))))
        (fun a oe cls d pn hz hf => pss_one (ps_set (i := 1) sc_law_word.nd rfl (Or.inl rfl) (pe_tup (pa_cons (pe_byOwn (fl := "word") O hz hf (pv 2)) (pa_cons
          (pe_and (pe_callB (id := "isinstance") (call_isO EC hz hf) (by rfl) T.b_isinstance (by decide +kernel) (pa_cons (pv 2) (pa_cons (pe_glob (v := .ref B) rfl hB rfl) pa_nil)))
            (pe_one (pe_callB (id := "isinstance") (call_isO EC hz hf) (by rfl) T.b_isinstance (by decide +kernel) (pa_cons (pv 2) (pa_cons (pe_bltn (v := .ty "ValueError") (by rfl) hV (by decide +kernel) rfl) pa_nil)))))
          pa_nil))))))
      (pss_one (ps_ret (pv 1)))), ?_⟩
    refine ⟨by show 2 ≤ sizeLine; decide, fun p0 np0 => ?_⟩
    have s1 := same_upd (o := .tup [.str "let", .bl true]) np0
    have hp0 : upd H p0 (.tup [.str "let", .bl true]) p0 = some (.tup [.str "let", .bl true]) := upd_same
    generalize upd H p0 (.tup [.str "let", .bl true]) = H0 at s1 hp0 ⊢
    refine ⟨f1, R, act, fun cls d H' => ∃ wd dd pp, o = some wd ∧ cls = .ref C ∧ d = some dd ∧ Same H0 H' ∧ H' dd = some (errD "word" (.str wd) pp), rfl, fo.same s1, hR _ s1, lp, ?_, ac H0 _ _ s1 (fun ho u H' s' => ?_) (fun wd ho H' dd pp s' hd => ⟨wd, dd, pp, ho, rfl, rfl, s', hd⟩)⟩
    · rintro cls d H' ⟨wd, dd, pp, ho, rfl, rfl, s', hd⟩
      refine ⟨true, O.te, fun _ a na => ?_, fun z => by cases z⟩
      refine ⟨_, rfl, rfl, rfl, dd, pp, _, rfl, hd, ?_⟩
      refine ⟨_, rfl, .ref B, .ref B, true, dd, _, rfl, rfl, fun u h => h, i1, rfl, hd, _, rfl, iteT ?_⟩
      refine ⟨_, rfl, .ty "ValueError", .type "ValueError", true, dd, _, rfl, rfl, fun u h => h, i2, rfl, hd, ?_⟩
      refine ⟨by show 2 ≤ sizeLine; decide, fun p np => ?_⟩
      refine ⟨_, rfl, q p _ ((s1.trans s').trans (same_upd np)) ?_⟩
      rw [ho]
      exact upd_same
    · refine ⟨_, rfl, q p0 H' (s1.trans s') ?_⟩
      rw [ho]
      exact s' _ _ hp0
end
end Hk
set_option Elab.async false
set_option linter.all false
set_option maxRecDepth 100000
set_option maxHeartbeats 4000000
/-! a comprehension whose block stands on a greater ground: what its maker's cells hold is known below -/
namespace Hk
open PySem PySem.Spec PyProof.Rows L2
/-- what stands at none of these places and is not followed -/
def ground (h : Heap) (H : Hp) (out : List Addr) : Heap := hidT h fun b => if b ∈ out then some (.ext fun _ => True) else H b
theorem ground_in {h : Heap} {H : Hp} {out : List Addr} {b : Addr} {o : Obj} (e : h.get? b = some o) (n : H b = none) (no : b ∉ out) : (ground h H out).get? b = some o :=
  hidT_get e (by show (if b ∈ out then _ else H b) = none; rw [if_neg no]; exact n)
theorem ground_of {h : Heap} {H : Hp} {out : List Addr} {b : Addr} {o : Obj} (e : (ground h H out).get? b = some o) : h.get? b = some o ∧ H b = none ∧ b ∉ out := by
  obtain ⟨e1, e2⟩ := of_hidT e
  by_cases hb : b ∈ out
  · have z : (if b ∈ out then some (HO.ext fun _ => True) else H b) = none := e2
    rw [if_pos hb] at z
    cases z
  · have z : (if b ∈ out then some (HO.ext fun _ => True) else H b) = none := e2
    rw [if_neg hb] at z
    exact ⟨e1, z, hb⟩
theorem frames_on {h b1 b2 : Heap} : ∀ {l : List Env}, h.FunFrames b1 l → (∀ L ∈ frs l, b2.get? L = none) → h.FunFrames b2 l
  | [], _, _ => trivial
  | env :: r, hl, hn => by
    obtain ⟨hk, ⟨L, o, hf, _, ho, hd⟩, hr⟩ := hl
    refine ⟨hk, ⟨L, o, hf, hn L ?_, ho, hd⟩, frames_on hr fun M hM => hn M ?_⟩
    · unfold frs
      rw [List.filterMap_cons, hf]
      exact List.mem_cons_self
    · unfold frs
      rw [List.filterMap_cons, hf]
      exact List.mem_cons_of_mem _ hM
/-- a context over another ground -/
abbrev onB (Y : Cx) (B : Heap) : Cx := { Y with base := B }
theorem inv_onB {Y : Cx} {pins : List (Addr × Obj)} {σ : L2.St} {H : Hp} {s : Shared} {B : Heap} (I : Inv Y pins σ H s) (more : ∀ b o, Y.base.get? b = some o → B.get? b = some o)
    (inn : ∀ b o, B.get? b = some o → Y.s_0.heap.get? b = some o ∧ Y.H_0 b = none) (sz : B.objs.size ≤ Y.s_0.heap.objs.size) (nx : ∀ b o, B.get? b = some o → b ∉ Y.ex) (fr : ∀ L ∈ Y.fs, B.get? L = none) : Inv (onB Y B) pins σ H s := by
  have m := I.ok.mod
  have k := I.ok
  obtain ⟨mb, h1, h2⟩ := m.blt
  exact ⟨⟨⟨m.kin.keeps more, m.glob.keeps more, ⟨mb, h1.keeps more, h2⟩, m.nolimit.keeps more⟩, k.kind, k.glob, k.blt, k.above, k.inj, k.has, k.cab, k.hd, k.frames, k.stk, k.exf, inn, sz, nx, k.exfs, frames_on k.funs fr, k.frf⟩,
    I.os, I.bare, I.base, I.loc, I.cell, I.free, I.freeC, I.pin, I.hok, I.len⟩
/-- the ground tells what the frame's own cells hold -/
def CellsIn (N : List Str) (env : Env) (σ : L2.St) (B : Heap) : Prop :=
  (∀ x y c, env.cells.lookup x = some c → env.cells.lookup y = some c → x = y) ∧ (∀ x, env.kindOf x = some .cell ∨ env.kindOf x = some .free → ∃ c, env.cells.lookup x = some c) ∧ (∀ x c, env.cells.lookup x = some c → ∃ v, B.IsCell c v) ∧ ∀ (i : Nat) (x : Str) (v : V), N[i]? = some x → σ[i]? = some (some v) → env.scope.names.lookup x = some .cell → ∃ c u, env.cells.lookup x = some c ∧ B.IsCell c (some u) ∧ RelV v u
/-- [elt for target in iter if ..] over that ground -/
def tLcB (N : List Str) (env : Env) (wi : TI) (g : TG) (tt : Heap → TT) (te : Heap → TE) (vs : List Nat) : TE := fun σ H Q => wi σ H fun J H1 => ∀ D, H1 D = none → ∀ B, CellsIn N env σ B →
  ∃ W : Nat → Nat → Hp → Prop, (∃ m, W 0 m (upd H1 D (.lst []))) ∧ ∀ i m H, W i m H →
    (J.stop i H ∧ Q (.ref D) H) ∨ (J.go i H ∧ ∃ Nx : Hp → Prop, (∀ H', Nx H' → ∃ m', m' < m ∧ W (i + 1) m' H') ∧ ∀ x H', J.yld i H x H' → g x (wipe σ vs) H' fun σ2 H2 => wipe σ2 vs = wipe σ vs ∧ tt B σ2 H2 fun b H3 =>
      if b = true then te B σ2 H3 fun y H4 => ∃ acc, H4 D = some (.lst acc) ∧ acc.length < sizeLine ∧ Nx (upd H4 D (.lst (acc ++ [y]))) else Nx H3)
section
variable {X : Cx}
theorem pe_lcB {elt tg iter : Expr} {ifs : List Expr} {scope : Scope} {own : List (Str × Nat)} {pos : Pos} {wi : TI} {g : TG} {tt : Heap → TT} {te : Heap → TE} (calm : X.calm = true) (all : ∀ x, X.fn x = true) (nd : X.N.Nodup) (ranges : PI X tg iter wi) (bok : BlkOk X.N X.env.scope scope own)
    (ptg : ∀ (B : Heap) (s : Shared) (H : Hp) (C : Addr) (cl : List (Str × Addr)) (fp : List Addr), PG (onB (X.blk s H scope (compEnvC scope cl C X.env) fp) B) tg g)
    (pts : ∀ (B : Heap) (s : Shared) (H : Hp) (C : Addr) (cl : List (Str × Addr)) (fp : List Addr), PTs (onB (X.blk s H scope (compEnvC scope cl C X.env) fp) B) ifs (tt B))
    (pel : ∀ (B : Heap) (s : Shared) (H : Hp) (C : Addr) (cl : List (Str × Addr)) (fp : List Addr), PE (onB (X.blk s H scope (compEnvC scope cl C X.env) fp) B) elt (te B))
    (hs : ∀ x, foldedSetIterable iter X.env x = pure x := by intro _; rfl) :
    PE X (.ListComp elt [⟨tg, iter, ifs, 0⟩] scope pos) (tLcB X.N X.env wi g tt te (own.map (·.2))) := by
  constructor
  intro pins s σ H Q I want
  rw [eval_ListComp]
  have caught : ∀ y ∈ scope.names, y.2 = .free → ∃ c, X.env.cells.lookup y.1 = some c := fun y my fy =>
    (bok.free y my fy).elim (fun k => I.ok.has _ (.inl k)) fun k => I.ok.has _ (.inr k)
  refine wpAny_comprehension_free (use := none) rfl hs (closure_ok caught) bok.kind (fun y my ky => by rw [bok.uniq y my, ky]) ?_
  refine thn (ranges.run pins s σ H _ I want) fun xv s1 hx => ?_
  refine thn hx fun itv s2 ⟨it, fp, tn, J, H2, eq, I2, T, st2, f2, q⟩ => ?_
  subst eq
  refine wpAny_newObj_type (newEnv_comp ?_) (by decide : 0 ≤ sizeLine)
  -- the new list
  let D := s2.heap.objs.size
  have Dn : H2 D = none := I2.hok.fresh (Nat.le_refl _)
  let s3 : Shared := { s2 with heap := s2.heap.push { cls := .type "list", data := .seq ([] : List Value).toArray } }
  let H3 : Hp := upd H2 D (.lst [])
  have I3 : Inv X pins σ H3 s3 := I2.laid (t' := s2.toks) (fun b o e => Heap.get?_push_of_some _ e) (Nat.le_refl _) ⟨Nat.zero_le _, [], 0, .nil, Heap.get?_push_size _ rfl⟩
  have low : ∀ b ∈ fp, b < s2.heap.objs.size := fun b hb => by
    obtain ⟨o, e, _⟩ := T.obj _ _ st2 b hb
    exact Heap.lt_size e
  have f3 : ∀ b ∈ fp, FpOk X pins H3 b ∧ b < s3.heap.objs.size := fun b hb => by
    have lt := low b hb
    refine ⟨⟨?_, (f2 b hb).2⟩, ?_⟩
    · show upd H2 D (.lst []) b = none
      rw [upd_ne (Nat.ne_of_lt lt)]
      exact (f2 b hb).1
    · show b < (s2.heap.push _).objs.size
      rw [Heap.size_push]
      exact Nat.lt_succ_of_lt lt
  have st3 : tn 0 s3.heap := T.keep _ _ _ st2 fun b _ o e => Heap.get?_push_of_some _ e
  -- the ground
  let out : List Addr := frs X.stack ++ fp
  let B : Heap := ground s3.heap H3 out
  have inB : ∀ {b o}, s3.heap.get? b = some o → H3 b = none → b ∉ frs X.stack → b ∉ fp → B.get? b = some o := fun {b o} e n x y => ground_in e n fun z => (List.mem_append.mp z).elim x y
  have cellB : ∀ {x c v}, X.env.cells.lookup x = some c → s3.heap.IsCell c v → B.IsCell c v := fun {x c v} e ⟨o, ho, hd⟩ => by
    refine ⟨o, inB ho (I3.freeC x c e) (fun z => ?_) fun z => (f3 c z).1.2.2.2.2.1 x c e rfl, hd⟩
    rcases List.mem_cons.mp (I3.stkSub c z) with z | z
    · exact I3.cne x c e z
    · obtain ⟨_, ob, hob, _⟩ := I3.ok.funs.mem z
      exact absurd (Nat.lt_of_lt_of_le (Heap.lt_size hob) (I3.ok.cab x c (all x) e)) (Nat.lt_irrefl _)
  have known : CellsIn X.N X.env σ B := by
    refine ⟨I3.ok.inj, I3.ok.has, ?_, ?_⟩
    · intro x c e
      obtain ⟨v, hv⟩ := I3.cell x c e
      exact ⟨v, cellB e hv⟩
    · intro i x v e1 e2 e3
      obtain ⟨m, _, hl⟩ := I3.loc
      obtain ⟨u, r, z⟩ := hl i x v e1 e2 (.inr (.inl e3))
      rcases z with ⟨z, _⟩ | ⟨_, c, ec, hc⟩
      · have z : X.env.scope.names.lookup x = some .local := z
        rw [e3] at z
        cases z
      · exact ⟨c, u, ec, cellB ec hc, r⟩
  obtain ⟨W, ⟨m0, w0⟩, turn⟩ := q D Dn B known
  have I4 := block_start I3 bok nd f3
  have pg := ptg B s3 H3 s3.heap.objs.size (cellsFrom (s3.heap.objs.size + 1) scope.names (cloFrom X.env.cells scope.names [])) fp
  have pt := pts B s3 H3 s3.heap.objs.size (cellsFrom (s3.heap.objs.size + 1) scope.names (cloFrom X.env.cells scope.names [])) fp
  have pe := pel B s3 H3 s3.heap.objs.size (cellsFrom (s3.heap.objs.size + 1) scope.names (cloFrom X.env.cells scope.names [])) fp
  have frN : ∀ L ∈ frs X.stack, B.get? L = none := fun L hL => by
    cases z : B.get? L with
    | none => rfl
    | some o => exact absurd (List.mem_append_left _ hL) (ground_of z).2.2
  have J4 := inv_onB (B := B) I4 (fun b o e => by
      have e0 : X.base.get? b = some o := e
      refine inB (I3.bs b o e0).1 (I3.bs b o e0).2 (fun z => ?_) fun z => ?_
      · have n := (I3.stack.mem (show b ∈ X.stack.filterMap (·.frame) from z)).1
        rw [e0] at n
        cases n
      · rcases (f3 b z).1.2.2.2.1 with w | w
        · exact I3.ok.noex b o e0 w
        · exact absurd (Nat.lt_of_lt_of_le (Heap.lt_size e0) (Nat.le_trans I3.ok.bsz w)) (Nat.lt_irrefl _))
    (fun b o e => ⟨(ground_of e).1, (ground_of e).2.1⟩) (by show (hidT _ _).objs.size ≤ _; rw [hidT_size]; exact Nat.le_refl _)
    (fun b o e z => (ground_of e).2.2 (List.mem_append_right _ z)) frN
  show codeAny _ _ (.compStart (.ListComp elt [⟨tg, iter, ifs, 0⟩] scope pos) 0 (.ref it) (.ref D) (compEnvC scope (cellsFrom (s3.heap.objs.size + 1) scope.names (cloFrom X.env.cells scope.names [])) s3.heap.objs.size X.env)) (compPost (model X.prog X.w) X.A X.xe none _ (.ref D) s3.heap.objs.size) { s3 with heap := pushCells (s3.heap.push { cls := .type "dict", data := .dict #[] }) scope.names }
  generalize eE : compEnvC scope (cellsFrom (s3.heap.objs.size + 1) scope.names (cloFrom X.env.cells scope.names [])) s3.heap.objs.size X.env = env1 at J4 pg pt pe ⊢
  have at1 : env1.locals = s3.heap.objs.size := by rw [← eE]; rfl
  have st4 : tn 0 ({ s3 with heap := pushCells (s3.heap.push { cls := .type "dict", data := .dict #[] }) scope.names } : Shared).heap := T.keep _ _ _ st3 fun b _ o e => pushCells_keeps _ _ _ _ (Heap.get?_push_of_some _ e)
  have nfp : ∀ b ∈ fp, H3 b = none := fun b hb => (f3 b hb).1.1
  clear_value B
  generalize ({ s3 with heap := pushCells (s3.heap.push { cls := .type "dict", data := .dict #[] }) scope.names } : Shared) = s4 at J4 st4 ⊢
  have still : ∀ {σ' : L2.St} {H' : Hp} {s' : Shared}, Inv (onB (X.blk s3 H3 scope env1 fp) B) [] σ' H' s' → (∀ b ∈ fp, H' b = none) → ∀ b ∈ fp, FpOk (onB (X.blk s3 H3 scope env1 fp) B) [] H' b := fun {σ' H' s'} J' n b hb =>
    ⟨n b hb, (J'.ok.exf b hb).1, J'.ok.exfs b hb, .inl hb, fun x c e => (J'.ok.exf b hb).2 x c e, fun p hp => absurd (show p ∈ ([] : List (Addr × Obj)) ++ [] from hp) (by simp)⟩
  have turns : codeAny (model X.prog X.w) X.A (.compLoop (.ListComp elt [⟨tg, iter, ifs, 0⟩] scope pos) 0 (.ref it) (.ref D) env1) (compPost (model X.prog X.w) X.A X.xe none (EP X pins σ Q) (.ref D) s3.heap.objs.size) s4 := by
    refine compLoop_any (fun left st => ∃ i Hi, Inv (onB (X.blk s3 H3 scope env1 fp) B) [] (wipe σ (own.map (·.2))) Hi st ∧ tn i st.heap ∧ (∀ b ∈ fp, Hi b = none) ∧ W i left Hi) ?_ m0 ⟨0, H3, J4, st4, nfp, w0⟩
    rintro left s5 ⟨i, H5, J5, t5, n5, w5⟩
    rcases turn i left H5 w5 with ⟨ends, goal⟩ | ⟨goes, Nx, hNx, step⟩
    · have over := T.done (onB (X.blk s3 H3 scope env1 fp) B) rfl rfl rfl calm i [] s5 _ H5 (fun _ _ => False) J5 (still J5 n5) t5 ends
      refine thnF over fun r s6 ⟨er, J6⟩ => ?_
      subst er
      have I7 : Inv X pins σ H5 s6 := I3.call' (ch := fp) J6.os J6.base J6.hok J6.bare fun b hb => let f := (f3 b hb).1.2; ⟨f.2.2.1, f.1, f.2.2.2.1, f.2.2.2.2⟩
      have nC : H5 s3.heap.objs.size = none := at1 ▸ (show H5 env1.locals = none from J6.free)
      obtain ⟨m, hn, _⟩ := J6.loc
      have hn : s6.heap.Ns s3.heap.objs.size m := at1 ▸ (show s6.heap.Ns env1.locals m from hn)
      obtain ⟨g0, g1, g2, g3, g4, g5⟩ := I3.fpOk (Nat.le_refl s3.heap.objs.size) nC
      exact ⟨m, hn, fun h2 sb => ⟨.ref D, H5, I7.turned (t' := s6.toks) (fun b o hb e => (sb.2 b hb).trans e) g0 g1 g3 g4 g5, rfl, goal⟩⟩
    · have next := T.item (onB (X.blk s3 H3 scope env1 fp) B) rfl rfl rfl calm i [] s5 _ H5 (fun _ _ => False) J5 (still J5 n5) t5 goes
      refine thnF next fun r s6 ⟨u, er, h6⟩ => ?_
      subst er
      refine thnF h6 fun _ s7 ⟨x, H7, J7, r7, y7, t7, n7⟩ => ?_
      have K7 := J7.pinned (still J7 n7) (T.obj _ _ t7)
      refine thnF (pg.run _ s7 _ H7 x u _ K7 r7 (step x H7 y7)) fun _ s8 ⟨σ8, H8, J8, hw8, q8⟩ => ?_
      refine thnF (pt.run _ s8 σ8 H8 _ J8 q8) fun b s9 ⟨H9, J9, q9⟩ => ?_
      have onward : ∀ {st : Shared} {Hn : Hp}, Inv (onB (X.blk s3 H3 scope env1 fp) B) ([] ++ pinsAt fp s7.heap) σ8 Hn st → Nx Hn →
          ∃ m, m < left ∧ ∃ i Hi, Inv (onB (X.blk s3 H3 scope env1 fp) B) [] (wipe σ (own.map (·.2))) Hi st ∧ tn i st.heap ∧ (∀ b ∈ fp, Hi b = none) ∧ W i m Hi := by
        intro st Hn Jn nx
        obtain ⟨m', less, w'⟩ := hNx Hn nx
        have kept : ∀ b ∈ fp, ∀ o, s7.heap.get? b = some o → st.heap.get? b = some o ∧ Hn b = none := fun b hb o e =>
          let z := Jn.pin (b, o) (List.mem_append_right _ (List.mem_append_right _ (mem_pinsAt hb e)))
          ⟨z.1, z.2.1⟩
        refine ⟨m', less, i + 1, Hn, (Jn.unpinned (pins := [])).weak (by rw [← hw8, wipe_length]) (fun j v e => ?_), T.keep _ _ _ t7 fun b hb o e => (kept b hb o e).1, fun b hb => ?_, w'⟩
        · rw [← hw8] at e
          exact (wipe_some e).1
        · obtain ⟨o, e, _⟩ := T.obj _ _ t7 b hb
          exact (kept b hb o e).2
      cases b with
      | false =>
        simp only [Bool.false_eq_true, if_false] at q9 ⊢
        exact onward J9 q9
      | true =>
        simp only [if_true] at q9 ⊢
        refine thnF (pe.run _ s9 σ8 H9 _ J9 q9) fun z s10 ⟨yv, H10, J10, r10, acc, hD, hz, nx⟩ => ?_
        exact app_ok (X := onB (X.blk s3 H3 scope env1 fp) B) J10 hD hz r10 fun s11 J11 => onward J11 nx
  exact codeAny_compStart_list turns (T.self X.A 0 _ _ _ st4 turns)
end
end Hk
set_option Elab.async false
set_option linter.all false
set_option maxRecDepth 100000
set_option maxHeartbeats 4000000
/-! a lambda of no parameters as a value, called anywhere on a ground that knows its maker's cells -/
namespace Hk
open PySem PySem.Spec PyProof.Rows L2
def fnIs (f : Addr) (o : Obj) : HO := .ext fun h => h.get? f = some o
abbrev lamO (env : Env) (params : Arguments) (body : Expr) (scope : Scope) (pm ctv : Value) (c : Addr) : Obj := PySem.W.kla_obj "<lambda>" (env.qual ++ "<lambda>") params body scope (cloFrom env.cells scope.names []) pm c ctv
def LamAt (env : Env) (params : Arguments) (body : Expr) (scope : Scope) (f : Addr) (H : Hp) : Prop :=
  ∃ (c : Addr) (pm ctv : Value), H f = some (fnIs f (lamO env params body scope pm ctv c)) ∧ H c = some (LamX.CodeO c (env.qual ++ "<lambda>"))
theorem LamAt.same {env : Env} {params : Arguments} {body : Expr} {scope : Scope} {f : Addr} {H H' : Hp} (a : LamAt env params body scope f H) (s : ∀ b u, H b = some u → H' b = some u) : LamAt env params body scope f H' := by
  obtain ⟨c, pm, ctv, h1, h2⟩ := a
  exact ⟨c, pm, ctv, s _ _ h1, s _ _ h2⟩
theorem LamAt.extN {env : Env} {params : Arguments} {body : Expr} {scope : Scope} {f : Addr} {H H' : Hp} (a : LamAt env params body scope f H) (s : LamX.ExtN H H') : LamAt env params body scope f H' := by
  obtain ⟨c, pm, ctv, h1, h2⟩ := a
  exact ⟨c, pm, ctv, s _ _ h1 (fun ps z => by unfold fnIs at z; cases z), s _ _ h2 LamX.codeO_ne⟩
theorem LamAt.fn {env : Env} {params : Arguments} {body : Expr} {scope : Scope} {f : Addr} {H : Hp} (a : LamAt env params body scope f H) : FnObj H f := by
  obtain ⟨c, pm, ctv, h1, _⟩ := a
  exact ⟨_, h1, fun h e => ⟨_, _, _, _, e⟩⟩
theorem fnIs_ok {P : Program} {w : World} {H : Hp} {h : Heap} {f : Addr} {o : Obj} (e : h.get? f = some o) : ObjOk P w H h f (fnIs f o) := ⟨e, ⟨o, e⟩, fun h1 h2 a st => st _ a⟩
/-- a lambda as a value -/
def tLamV (T : List (Addr × Str)) (env : Env) (params : Arguments) (body : Expr) (scope : Scope) : TE := fun σ H Q => LamX.Tabs T H ∧ ∀ f H1, LamX.ExtN H H1 → LamX.Tabs T H1 → H f = none → LamAt env params body scope f H1 → Q (.ref f) H1
section
variable {X : Cx}
theorem pe_lam {T : List (Addr × Str)} {c P : Addr} {params : Arguments} {body : Expr} {scope : Scope} {pos : Pos} (TB : LamX.TabB X.base X.mg c P) (code : X.env.code = .ref c) (mine : (P, X.env.qual ++ "<lambda>") ∈ T)
    (one : ∀ p ∈ T, p.1 = P → p.2 = X.env.qual ++ "<lambda>") (L : LamX.LamS X.env.scope scope) (plain : defaultsOf params X.env = ([], [])) : PE X (.Lambda params body scope pos) (tLamV T X.env params body scope) := by
  constructor
  rintro pins s σ H Q I ⟨hT, goal⟩
  obtain ⟨ps, hP, three, among⟩ := hT _ mine
  apply PySem.W.kla_eval plain
  have bP : s.heap.BuiltinsAt X.mg P := TB.bm.keeps I.bk
  have tabP : s.heap.get? P = some { cls := .none, data := .fields ps } := I.hok P _ hP
  -- the end: the function's object behind the heap h2, which H2 follows
  have ends : ∀ (c1 : Addr) (pm ctv : Value) (h2 : Heap) (H2 : Hp) (tk : Nat), Inv X pins σ H2 { s with heap := h2, toks := tk } → s.heap.objs.size ≤ h2.objs.size → LamX.ExtN H H2 → LamX.Tabs T H2 → H2 c1 = some (LamX.CodeO c1 (X.env.qual ++ "<lambda>")) →
      EP X pins σ Q (.ref h2.objs.size) { s with heap := h2.push (lamO X.env params body scope pm ctv c1), toks := tk } := by
    intro c1 pm ctv h2 H2 tk I2 big ext tabs hc
    have n2 : H2 h2.objs.size = none := I2.hok.fresh (Nat.le_refl _)
    have n0 : H h2.objs.size = none := I.hok.fresh big
    have get : (h2.push (lamO X.env params body scope pm ctv c1)).get? h2.objs.size = some (lamO X.env params body scope pm ctv c1) := Heap.get?_push_size _ rfl
    have I3 := I2.laid (a := h2.objs.size) (o := fnIs h2.objs.size (lamO X.env params body scope pm ctv c1)) (t' := tk) (fun b o e => Heap.get?_push_of_some _ e) (Nat.le_refl _) (fnIs_ok get)
    have up : ∀ b u, H2 b = some u → upd H2 h2.objs.size (fnIs h2.objs.size (lamO X.env params body scope pm ctv c1)) b = some u := fun b u e => by
      rw [upd_ne (ne_of_none e n2)]
      exact e
    exact ⟨.ref h2.objs.size, _, I3, rfl, goal _ _ (ext.trans (LamX.ExtN.of up)) (tabs.ext up) n0 ⟨c1, pm, ctv, upd_same, up _ _ hc⟩⟩
  cases look : codeAmong pos ps.toList with
  | some cv =>
    obtain ⟨c1, rfl, hco⟩ := among pos cv look
    refine PySem.W.kla_makeFunctionHit (mg := X.mg) (c := c) (P := P) (ps := ps) (closure_ok (L.has I.ok)) I.ok.glob (I.mod.glob.keeps I.bk) code (TB.code.keeps I.bk) tabP three look bP ?_
    intro ctv h2 tk kept big
    exact ends c1 _ ctv h2 H tk (I.kept kept) big (LamX.ExtN.refl H) hT hco
  | none =>
    refine PySem.W.kla_makeFunction (mg := X.mg) (c := c) (P := P) (ps := ps) (closure_ok (L.has I.ok)) I.ok.glob (I.mod.glob.keeps I.bk) code (TB.code.keeps I.bk) tabP three look TB.gP bP ?_
    intro c1 ctv h2 tk kept new lt rec grown
    obtain ⟨c2, oc, vs, tq, e2, hoc, hd, hv⟩ := rec
    cases e2
    have nC : H c1 = none := I.hok.fresh new
    have I1 := LamX.inv_table (P := P) (t' := tk) (more := #[rawInt pos.line, rawInt pos.col, .ref c1]) I hP (kept) grown new ⟨oc, vs, tq, hoc, hd, hv⟩
    have ext : LamX.ExtN H (upd (upd H P (.tbl (ps ++ #[rawInt pos.line, rawInt pos.col, .ref c1]))) c1 (LamX.CodeO c1 (X.env.qual ++ "<lambda>"))) := by
      intro b o e n
      have h1 : b ≠ c1 := ne_of_none e nC
      have h2 : b ≠ P := fun z => n ps (by rw [z, hP] at e; exact (Option.some.inj e).symm)
      rw [upd_ne h1, upd_ne h2]
      exact e
    have snoc : (ps ++ #[rawInt pos.line, rawInt pos.col, .ref c1]).toList = ps.toList ++ [rawInt pos.line, rawInt pos.col, .ref c1] := by simp
    refine ends c1 _ ctv h2 _ tk I1 (Nat.le_trans new (Nat.le_of_lt lt)) ext ?_ upd_same
    intro p hp
    by_cases hb : p.1 = P
    · rw [one p hp hb, hb]
      refine ⟨_, (upd_ne (ne_of_none hP nC)).trans upd_same, by rw [snoc]; exact PySem.TriplesOk_snoc _ _ _ _ three, ?_⟩
      intro p2 cv hcv
      rw [snoc] at hcv
      rcases LamX.among_app _ three hcv with z | z
      · obtain ⟨c0, e1, e2⟩ := among p2 cv z
        exact ⟨c0, e1, ext _ _ e2 LamX.codeO_ne⟩
      · exact ⟨c1, z, upd_same⟩
    · obtain ⟨qs, a1, a2, a3⟩ := hT p hp
      refine ⟨qs, by rw [upd_ne (ne_of_none a1 nC), upd_ne hb]; exact a1, a2, ?_⟩
      intro p2 cv hcv
      obtain ⟨c0, e1, e2⟩ := a3 p2 cv hcv
      exact ⟨c0, e1, ext _ _ e2 LamX.codeO_ne⟩
end
end Hk
set_option Elab.async false
set_option linter.all false
set_option maxRecDepth 100000
set_option maxHeartbeats 4000000
/-! what a held lambda does where the ground knows its maker's cells -/
namespace Hk
open PySem PySem.Spec PyProof.Rows L2
def lamY (X : Cx) (B : Heap) (A : Around) (outer : List Env) (s : Shared) (H : Hp) (E : XK) (scope : Scope) (f c : Addr) : Cx := onB (LamX.lamCx X A outer s H E scope f c) B
section
variable {X : Cx} {σ : L2.St} {B : Heap}
theorem lam_enter {A : Around} {outer : List Env} {E : XK} {scope : Scope} {f c : Addr} {s1 : Shared} {HZ : Hp} {h1 : Heap} {tk : Nat} (L : LamX.LamS X.env.scope scope) (cellsOnly : ∀ y, X.env.scope.names.lookup y ≠ some .free) (kc : CellsIn X.N X.env σ B) (len : σ.length = X.N.length)
    (e0 : Env0 X.prog X.w X.K X.mg B A outer s1 HZ) (hd : A.handled = none) (hns : h1.Ns s1.heap.objs.size fun y => ([] : List (Str × Value)).reverse.lookup y) (kp : ∀ b o, s1.heap.get? b = some o → h1.get? b = some o) :
    Inv (lamY X B A outer s1 HZ E scope f c) [] σ HZ { s1 with heap := h1, toks := tk } := by
  obtain ⟨inj, has, there, holds⟩ := kc
  have own : ∀ y ∈ scope.names, y.2 = .free → X.env.scope.names.lookup y.1 = some .cell := fun y my fy =>
    (L.free y my fy).elim id fun k => absurd k (cellsOnly y.1)
  have got : ∀ y ∈ scope.names, y.2 = .free → ∃ c, X.env.cells.lookup y.1 = some c := fun y my fy => has _ (.inl (own y my fy))
  have inner : ∀ {y a}, (cloFrom X.env.cells scope.names []).lookup y = some a → X.env.cells.lookup y = some a := by
    intro y a e
    rcases cloFrom_mem (PySem.mem_of_lookup e) with z | ⟨z1, z2⟩
    · cases z
    · obtain ⟨a1, ha⟩ := got _ z1 rfl
      have ha : X.env.cells.lookup y = some a1 := ha
      rw [z2, show X.env.cells.lookup y = some a1 from ha]
      rfl
  have outerOf : ∀ {y}, scope.names.lookup y = some .free → ∃ a, (cloFrom X.env.cells scope.names []).lookup y = some a := fun {y} hl =>
    mem_lookup (cloFrom_has (cells := X.env.cells) (acc := []) (PySem.mem_of_lookup hl))
  have onGround : ∀ {a : Addr} {v : Option Value}, B.IsCell a v → h1.IsCell a v := fun {a v} ⟨o, ho, z⟩ => ⟨o, kp _ _ (e0.bs a o ho).1, z⟩
  have noX : ∀ b : Addr, b ∉ (lamY X B A outer s1 HZ E scope f c).ex := fun b z => by cases z
  refine ⟨⟨e0.mod, L.kind, rfl, rfl, Nat.le_refl _, ?_, ?_, ?_, fun _ => hd, Around.frames_deeper e0.frames, .inr ⟨rfl, rfl⟩, fun b z => absurd z (noX b), e0.bs, e0.bsz, fun b _ _ => noX b, fun b z => absurd z (noX b), e0.funs, e0.frf⟩,
    rfl, e0.bare, Un.kept kp, ⟨_, hns, ?_⟩, ?_, e0.hok.fresh (Nat.le_refl _), ?_, ?_, e0.hok.kept kp, len⟩
  · intro x y a e1 e2
    exact inj x y a (inner e1) (inner e2)
  · intro y hy
    have hy : scope.names.lookup y = some .cell ∨ scope.names.lookup y = some .free := hy
    rcases hy with z | z
    · exact absurd rfl (L.own _ (PySem.mem_of_lookup z)).2
    · exact outerOf z
  · intro y a z
    cases z
  · intro i y v e1 e2 e3
    have e3 : Vis scope y := e3
    rcases e3 with z | z | z
    · exact absurd rfl (L.own _ (PySem.mem_of_lookup z)).1
    · exact absurd rfl (L.own _ (PySem.mem_of_lookup z)).2
    · obtain ⟨a, u, ha, hu, r⟩ := holds i y v e1 e2 (own _ (PySem.mem_of_lookup z) rfl)
      obtain ⟨a2, ha2⟩ := outerOf z
      have same := inner ha2
      rw [ha] at same
      cases same
      exact ⟨u, r, .inr ⟨.inr z, a, ha2, onGround hu⟩⟩
  · intro y a e
    obtain ⟨v, hv⟩ := there y a (inner e)
    exact ⟨v, onGround hv⟩
  · intro y a e
    obtain ⟨v, o, ho, _⟩ := there y a (inner e)
    exact (e0.bs a o ho).2
  · intro q hq
    exact absurd (show q ∈ ([] : List (Addr × Obj)) ++ [] from hq) (by simp)
theorem lam_pass {A : Around} {outer : List Env} {E : XK} {scope : Scope} {f c : Addr} {s1 : Shared} {HZ : Hp} : Passes (L2.CX (lamY X B A outer s1 HZ E scope f c).prog (lamY X B A outer s1 HZ E scope f c).w) (lamY X B A outer s1 HZ E scope f c) E :=
  passes_call (takes_of rfl rfl rfl rfl) fun _ _ _ _ h => h
theorem lamP_of {k : Nat} {f : Addr} {params : Arguments} {body : Expr} {scope : Scope} {tb : XK → TE} (L : LamX.LamS X.env.scope scope) (cellsOnly : ∀ y, X.env.scope.names.lookup y ≠ some .free) (kc : CellsIn X.N X.env σ B) (len : σ.length = X.N.length)
    (hbind : ∀ (q : Str) (cl : List (Str × Addr)) (pm cv ctv : Value), bindArgs (PySem.W.kla_fn "<lambda>" q params body scope cl pm cv ctv) ⟨[], []⟩ = pure [])
    (hbody : ∀ (A : Around) (outer : List Env) (s : Shared) (H : Hp) (E : XK) (c : Addr), Room k (A.deeper (LamX.lamEnv X scope s.heap.objs.size f c)) → (A.deeper (LamX.lamEnv X scope s.heap.objs.size f c)).guards = some [] → PE (lamY X B A outer s H E scope f c) body (tb E)) :
    LamP X.prog X.w X.K X.mg B (k + 1) f (LamAt X.env params body scope f) (fun H Q E => tb E σ H Q) := by
  intro A outer st H Q E hr free e0 at_ goal
  obtain ⟨c, pm, ctv, hf, hc⟩ := at_
  have get : st.heap.get? f = some (lamO X.env params body scope pm ctv c) := (show ObjOk X.prog X.w H st.heap f (fnIs f _) from e0.hok f _ hf).1
  obtain ⟨⟨oc, vs, tq, hoc, hdc, hvc⟩, _, _⟩ := (show ObjOk X.prog X.w H st.heap c (LamX.CodeO c _) from e0.hok c _ hc)
  refine PySem.W.kla_callFunE hr.depth get rfl L.co L.gen rfl ⟨c, oc, vs, tq, rfl, hoc, hdc, hvc⟩ ?_
  rw [hbind]
  have lim : st.heap.NoLimit := e0.mod.nolimit.keeps fun b o e => (e0.bs b o e).1
  refine wpAny_pure (wpAny_newFunctionEnv (fun y hy => (L.own y hy).2) (fun y hy => absurd hy (by simp)) (fun h1 hns hsb => ⟨lim.fresh _ hsb, ?_⟩) L.kind)
  have kp : ∀ b o, st.heap.get? b = some o → h1.get? b = some o := fun b o e => hsb.extBut b o (Nat.ne_of_lt (Heap.lt_size e)) (Heap.get?_push_of_some _ e)
  have J : Inv (lamY X B A outer st H E scope f c) [] σ H { st with heap := h1, toks := st.toks + ([] : List (Str × Value)).length } := lam_enter L cellsOnly kc len e0 hr.hd hns kp
  show codeAny _ _ (.expr body (LamX.lamEnv X scope st.heap.objs.size f c)) _ _
  refine PySem.W.kla_codeExpr (wpAny_mono ((hbody A outer st H E c (hr.deeper _) free).run [] _ _ H Q J goal) ?_ fun e s' hq => hq)
  rintro v s' ⟨w', H', J', rv, q⟩
  exact ⟨w', H', J'.os, J'.bare, J'.base, J'.hok, rv, q⟩
end
end Hk
set_option Elab.async false
set_option linter.all false
set_option maxRecDepth 100000
set_option maxHeartbeats 4000000
namespace Hk
open PySem PySem.Spec PyProof.Rows L2
section
variable {H H' : Hp} {m g : Addr}
mutual
theorem Dt.ext (e : LamX.ExtN H H') : ∀ {v : V} {d : PyData}, Dt H m g v d → Dt H' m g v d
  | _, _, .non => .non
  | _, _, .bl b => .bl b
  | _, _, .int i => .int i
  | _, _, .str x => .str x
  | _, _, .lst h h1 h2 a => .lst (e _ _ h (fun ps z => by cases z)) h1 h2 (DtA.ext e a)
  | _, _, .tup h h1 h2 a => .tup (e _ _ h (fun ps z => by cases z)) h1 h2 (DtA.ext e a)
theorem DtA.ext (e : LamX.ExtN H H') : ∀ {vs : List V} {ds : List PyData}, DtA H m g vs ds → DtA H' m g vs ds
  | _, _, .nil => .nil
  | _, _, .cons h t => .cons (Dt.ext e h) (DtA.ext e t)
end
end
def lawQ : Str := Str.ofString "law" ++ Str.ofString ".<locals>." ++ Str.ofString "<lambda>"
/-- what the law has before a turn: its machine, the custom, the family, its table -/
structure Ls (H : Hp) (m c g : Addr) (n : Int) (vC : V) (dC : PyData) (F l b Pt : Addr) : Prop where
  dr : Dr H m c g n
  dt : Dt H m g vC dC
  fam : Fam H F l b
  tab : LamX.Tabs [(Pt, lawQ)] H
section
variable {H H' : Hp} {m c g F l b Pt : Addr} {n n' : Int} {vC : V} {dC : PyData}
theorem tabs_kp {a a' : Addr} (t : LamX.Tabs [(Pt, lawQ)] H) (k : Kp a a' H H') (n1 : ∀ ps, H a ≠ some (.tbl ps)) (n2 : ∀ ps, H a' ≠ some (.tbl ps)) (n3 : ∀ x q, H x = some (LamX.CodeO x q) → x ≠ a ∧ x ≠ a') : LamX.Tabs [(Pt, lawQ)] H' := by
  intro p hp
  obtain ⟨ps, h1, h2, h3⟩ := t p hp
  refine ⟨ps, k _ _ h1 (fun z => n1 ps (z ▸ h1)) (fun z => n2 ps (z ▸ h1)), h2, fun pos cv e => ?_⟩
  obtain ⟨x, rfl, e2⟩ := h3 pos cv e
  obtain ⟨m1, m2⟩ := n3 x _ e2
  exact ⟨x, rfl, k _ _ e2 m1 m2⟩
theorem tabs_dr {c' : Addr} (t : LamX.Tabs [(Pt, lawQ)] H) (d : Dr H m c' g n) (k : Kp m g H H') : LamX.Tabs [(Pt, lawQ)] H' := by
  obtain ⟨gs, hg, _⟩ := d.hg
  have hm := d.hm
  refine tabs_kp t k (fun ps z => ?_) (fun ps z => ?_) fun x q e => ⟨fun z => ?_, fun z => ?_⟩
  · rw [hm] at z
    cases z
  · rw [hg] at z
    cases z
  · rw [z, hm] at e
    unfold LamX.CodeO at e
    cases e
  · rw [z, hg] at e
    unfold LamX.CodeO at e
    cases e
theorem Dr.same (d : Dr H m c g n) (s : Same H H') : Dr H' m c g n := by
  obtain ⟨hm, ⟨cs, hc, cl⟩, ⟨gs, hg, gl⟩, n0, ne⟩ := d
  exact ⟨s _ _ hm, ⟨cs, s _ _ hc, cl⟩, ⟨gs, s _ _ hg, gl⟩, n0, ne⟩
theorem Dr.ext (d : Dr H m c g n) (s : LamX.ExtN H H') : Dr H' m c g n := by
  obtain ⟨hm, ⟨cs, hc, cl⟩, ⟨gs, hg, gl⟩, n0, ne⟩ := d
  exact ⟨s _ _ hm (fun ps z => by cases z), ⟨cs, s _ _ hc (fun ps z => by cases z), cl⟩, ⟨gs, s _ _ hg (fun ps z => by cases z), gl⟩, n0, ne⟩
theorem Fam.kp {c' : Addr} (f : Fam H F l b) (d : Dr H m c' g n) (k : Kp m g H H') : Fam H' F l b := by
  obtain ⟨gs, hg, _⟩ := d.hg
  have hm := d.hm
  have go : ∀ {x : Addr} {xs : List V}, H x = some (.tup xs) → H' x = some (.tup xs) := fun {x xs} e => k _ _ e (fun z => by rw [z, hm] at e; cases e) fun z => by rw [z, hg] at e; cases e
  exact ⟨go f.1, go f.2.1, go f.2.2⟩
theorem Fam.ext (f : Fam H F l b) (s : LamX.ExtN H H') : Fam H' F l b :=
  ⟨s _ _ f.1 (fun ps z => by cases z), s _ _ f.2.1 (fun ps z => by cases z), s _ _ f.2.2 (fun ps z => by cases z)⟩
theorem Ls.kp (L : Ls H m c g n vC dC F l b Pt) (k : Kp m g H H') (d : Dr H' m c g n') : Ls H' m c g n' vC dC F l b Pt := ⟨d, L.dt.keep k, L.fam.kp L.dr k, tabs_dr L.tab L.dr k⟩
theorem Ls.same (L : Ls H m c g n vC dC F l b Pt) (s : Same H H') : Ls H' m c g n vC dC F l b Pt := ⟨L.dr.same s, L.dt.same s, L.fam.same s, L.tab.ext s⟩
theorem Ls.ext (L : Ls H m c g n vC dC F l b Pt) (s : LamX.ExtN H H') (t : LamX.Tabs [(Pt, lawQ)] H') : Ls H' m c g n vC dC F l b Pt := ⟨L.dr.ext s, L.dt.ext s, L.fam.ext s, t⟩
end
theorem row_pos {n : Nat} {p : Nat → PyData → Bool} {d : PyData} (h : isRowOf n p d = true) (n1 : 1 ≤ n) : ∀ es, d = .tuple es → 1 ≤ es.length := by
  intro es e
  subst e
  have h : (decide (es.length = n) && _) = true := h
  simp only [Bool.and_eq_true, decide_eq_true_eq] at h
  omega
theorem cust_rows {d : PyData} (h : fault d = none) : ∃ ds, d = .tuple ds ∧ 1 ≤ ds.length ∧ ∀ e ∈ ds, ∀ es, e = .tuple es → 1 ≤ es.length := by
  obtain ⟨n, st, rk, rd, cl, rfl, n1, n3⟩ := fault_none h
  obtain ⟨h2, h3, h4, h5, h6⟩ := fault_parts h
  have l1 := trow_len h2
  have l2 := trow_len h4
  refine ⟨_, rfl, by simp, fun e he => ?_⟩
  simp only [List.mem_cons, List.not_mem_nil, or_false] at he
  have tr : ∀ {x : PyData}, isTRow x = true → ∀ es, x = .tuple es → 1 ≤ es.length := fun {x} hx es z => by
    subst z
    simp only [isTRow, Bool.and_eq_true, decide_eq_true_eq] at hx
    exact hx.1.1
  rcases he with z | z | z | z | z <;> subst z
  · intro es z
    cases z
  · exact tr h2
  · exact tr h4
  · exact row_pos h5 l1.1
  · intro es z
    subst z
    have e1 : (decide ((es.length : Int) = n) && es.all (isBoth (boolsOf st) (boolsOf rk))) = true := h6
    simp only [Bool.and_eq_true, decide_eq_true_eq] at e1
    omega
theorem fault_word {d : PyData} {wd : Str} (h : fault d = some wd) : wd ∈ (["form", "stands", "ranks", "read", "close"] : List Str) := by
  unfold fault at h
  repeat' split at h
  all_goals first
    | (cases h; decide)
    | cases h
theorem word_tru : ∀ wd ∈ (["form", "stands", "ranks", "read", "close"] : List Str), (wd.length ≤ sizeLine ∧ true = ((wd.length : Int) != 0)) ∧ wd ≠ "let" ∧ wd.length ≤ 10 ∧ (PyData.str wd).showable = true ∧ (PyData.str wd).canLay0 = true ∧ (PyData.str wd).shown.length ≤ 100 := by decide +kernel
section
variable {K : PySem.W.Frag} {H H1 : Hp} {m c g F l b Pt du C : Addr} {n : Int} {vC v : V} {dC d : PyData} {σ : L2.St}
theorem acts_need (dt : Dt H m g v d) (od : Okd d) (s5 : σ[5]? = some (some v)) : Acts C H (fault d) (fun H Q E => tCall (spNeed C) [] E (tCons (tVar 5) tNil) σ H Q) := by
  intro H0 Qa Ea s0 ok bad
  exact ⟨_, s5, v, d, m, g, rfl, dt.same s0, od, fun hf H2 s2 => ok hf _ _ s2, fun wd hf => bad wd hf⟩
theorem acts_same (dt : Dt H m g v d) (od : Okd d) (s5 : σ[5]? = some (some v)) : Acts C H (fault d) (fun H Q E => tCall (spSame C) [] E (tCons (tVar 5) (tCons (tVar 5) tNil)) σ H Q) := by
  intro H0 Qa Ea s0 ok bad
  have dd := dt.same s0
  exact ⟨_, s5, _, s5, v, v, d, d, m, g, rfl, dd, od, dd, od, fun hf _ => ⟨rfl, fun H2 s2 => ok hf _ _ s2⟩, fun wd hf => bad wd hf, fun hf wd h => (by rw [hf] at h; cases h)⟩
theorem acts_ren {wd : Str} (dt : Dt H m g v d) (od : Okd d) (hf : fault d = some wd) (s5 : σ[5]? = some (some v)) : Acts C H (fault d) (fun H Q E => tCall (spRenum C) [] E (tCons (tVar 5) (tCons (tC .non) (tCons (tC .non) tNil))) σ H Q) := by
  intro H0 Qa Ea s0 ok bad
  exact ⟨_, s5, v, .non, .non, d, m, g, wd, rfl, dt.same s0, od, hf, bad wd hf⟩
theorem acts_heir (dt : Dt H m g v d) (od : Okd d) (fam : Fam H F l b) (hdu : H du = some (.tup [.str ((fault d).getD "let"), .bl true])) (s5 : σ[5]? = some (some v)) (s3 : σ[3]? = some (some (.ref F))) (s6 : σ[6]? = some (some (.ref du))) :
    Acts C H (fault d) (fun H Q E => tCall (spHeir C) [] E (tCons (tVar 5) (tCons (tIf (tTest (tOp rEq (tOp (rIxT K) (tVar 6) (tC (.int 0))) (tC (.str "let")))) (tVar 3) (tC .non)) tNil)) σ H Q) := by
  intro H0 Qa Ea s0 ok bad
  have dd := dt.same s0
  refine ⟨_, s5, _, s6, du, _, 0, _, rfl, rfl, SqT.of (s0 _ _ hdu), at0, rfl, _, rfl, ?_⟩
  cases hf : fault d with
  | none => exact (if_pos (by simp)).mpr ⟨_, s3, v, .ref F, d, m, g, rfl, dd, od, fun _ => ⟨F, l, b, rfl, fam.same s0, fun u H2 s2 => ok hf _ _ s2⟩, fun wd hf => bad wd hf⟩
  | some wd => exact (if_neg (by have := (word_tru wd (fault_word hf)).2.1; simpa using this)).mpr ⟨v, .non, d, m, g, rfl, dd, od, fun h => (by rw [hf] at h; cases h), fun wd hf => bad wd hf⟩
theorem acts_both (dt : Dt H m g v d) (od : Okd d) (ct : Dt H m g vC dC) (oc : Okd dC) (hC : fault dC = none) (hdu : H du = some (.tup [.str ((fault d).getD "let"), .bl true])) (s5 : σ[5]? = some (some v)) (s2 : σ[2]? = some (some vC)) (s6 : σ[6]? = some (some (.ref du))) :
    Acts C H (fault d) (fun H Q E => tCall (spSame C) [] E (tCons (tVar 2) (tCons (tIf (tTest (tOp rNe (tOp (rIxT K) (tVar 6) (tC (.int 0))) (tC (.str "let")))) (tVar 5) (tVar 2)) tNil)) σ H Q) := by
  intro H0 Qa Ea s0 ok bad
  have dd := dt.same s0
  have cc := ct.same s0
  refine ⟨_, s2, _, s6, du, _, 0, _, rfl, rfl, SqT.of (s0 _ _ hdu), at0, rfl, _, rfl, ?_⟩
  cases hf : fault d with
  | none => exact (if_neg (by simp)).mpr ⟨_, s2, vC, vC, dC, dC, m, g, rfl, cc, oc, cc, oc, fun _ _ => ⟨rfl, fun H2 s2 => ok hf _ _ s2⟩, fun wd h => (by rw [hC] at h; cases h), fun _ wd h => (by rw [hC] at h; cases h)⟩
  | some wd => exact (if_pos (by have := (word_tru wd (fault_word hf)).2.1; simpa using this)).mpr ⟨_, s5, vC, v, dC, d, m, g, rfl, cc, oc, dd, od, fun _ h => (by rw [hf] at h; cases h), fun wd h => (by rw [hC] at h; cases h), fun _ wd h => bad wd h⟩
end
/-- one of the calls that are held: a pair of a function and what is due -/
def Itm (X : Cx) (σ : L2.St) (C : Addr) (o : Option Str) (du : Addr) (H : Hp) (v : V) : Prop :=
  ∃ (p f : Addr) (R : Hp → Prop) (act : Hp → VK → XK → Prop), v = .ref p ∧ H p = some (.tup [.ref f, .ref du]) ∧ FnObj H f ∧ (∀ H', Same H H' → R H') ∧ (∀ H', Same H H' → Acts C H' o act) ∧ ∀ B, CellsIn X.N X.env σ B → LamP X.prog X.w X.K X.mg B 11 f R act
theorem itm_mk {X : Cx} {σ : L2.St} {C du f p : Addr} {o : Option Str} {H : Hp} {params : Arguments} {body : Expr} {scope : Scope} {tb : XK → TE} (at_ : LamAt X.env params body scope f H) (hp : H p = some (.tup [.ref f, .ref du])) (L : LamX.LamS X.env.scope scope) (cellsOnly : ∀ y, X.env.scope.names.lookup y ≠ some .free) (len : σ.length = X.N.length)
    (hbind : ∀ (q : Str) (cl : List (Str × Addr)) (pm cv ctv : Value), bindArgs (PySem.W.kla_fn "<lambda>" q params body scope cl pm cv ctv) ⟨[], []⟩ = pure [])
    (hbody : ∀ (B : Heap) (A : Around) (outer : List Env) (s : Shared) (H : Hp) (E : XK) (c : Addr), Room 10 (A.deeper (LamX.lamEnv X scope s.heap.objs.size f c)) → (A.deeper (LamX.lamEnv X scope s.heap.objs.size f c)).guards = some [] → PE (lamY X B A outer s H E scope f c) body (tb E))
    (acts : ∀ H', Same H H' → Acts C H' o (fun H Q E => tb E σ H Q)) : Itm X σ C o du H (.ref p) :=
  ⟨p, f, LamAt X.env params body scope f, fun H Q E => tb E σ H Q, rfl, hp, at_.fn, fun H' s => at_.same s, acts, fun B kc => lamP_of L cellsOnly kc len hbind (hbody B)⟩
theorem LamAt.kn {env : Env} {params : Arguments} {body : Expr} {scope : Scope} {f D : Addr} {xs : List V} {H H' : Hp} (a : LamAt env params body scope f H) (hD : H D = some (.lst xs)) (s : ∀ b u, H b = some u → b ≠ D → (∀ ps, u ≠ .tbl ps) → H' b = some u) : LamAt env params body scope f H' := by
  obtain ⟨c, pm, ctv, h1, h2⟩ := a
  refine ⟨c, pm, ctv, s _ _ h1 (fun z => ?_) (fun ps z => by unfold fnIs at z; cases z), s _ _ h2 (fun z => ?_) LamX.codeO_ne⟩
  · rw [z, hD] at h1
    unfold fnIs at h1
    cases h1
  · rw [z, hD] at h2
    unfold LamX.CodeO at h2
    cases h2
theorem no_free {sc : Scope} (h : sc.names.all (fun y => !decide (y.2 = .free)) = true) : ∀ y, sc.names.lookup y ≠ some .free := fun y e => by
  have z := List.all_eq_true.mp h _ (PySem.mem_of_lookup e)
  simp at z
theorem seq_via {a b : TS} {D : Ends} {σ : L2.St} {H : Hp} (Rdy : L2.St → Hp → Prop) (h1 : ∀ N : L2.St → Hp → Prop, (∀ σ' H', Rdy σ' H' → N σ' H') → a { D with nx := N } σ H) (h2 : ∀ σ' H', Rdy σ' H' → b D σ' H') : tSeq a b D σ H := h1 _ h2
theorem nm_via {i : Nat} {x : V} {σ : L2.St} {H : Hp} {Q : L2.St → Hp → Prop} (h : Q (σ.set i (some x)) H) : gName i x σ H Q := h
theorem shw_due : ∀ w ∈ (["let", "form", "stands", "ranks", "read", "close"] : List Str), (PyData.tuple [.str w, .bool true]).showable = true ∧ (PyData.tuple [.str w, .bool true]).canLay0 = true ∧ (PyData.tuple [.str w, .bool true]).depth ≤ 60 ∧ (PyData.tuple [.str w, .bool true]).shown.length ≤ sizeLine := by decide +kernel
theorem due_word (d : PyData) : (fault d).getD "let" ∈ (["let", "form", "stands", "ranks", "read", "close"] : List Str) := by
  cases h : fault d with
  | none => exact List.mem_cons_self
  | some wd => exact List.mem_cons_of_mem _ (fault_word h)
theorem due_none (d : PyData) : decide (V.str ((fault d).getD "let") = V.str "let") = (fault d).isNone := by
  cases h : fault d with
  | none => simp
  | some wd =>
    have := (word_tru wd (fault_word h)).2.1
    simpa using this
theorem tru_fault {K : PySem.W.Frag} {H : Hp} (d : PyData) : TruV K (faultV (fault d)) H (fault d).isSome := by
  cases h : fault d with
  | none => exact rfl
  | some wd => exact (word_tru wd (fault_word h)).1
theorem or_let {K : PySem.W.Frag} {H : Hp} {d : PyData} {Q : VK} (h : Q (.str ((fault d).getD "let")) H) : ∃ k, TruV K (faultV (fault d)) H k ∧ if k = true then Q (faultV (fault d)) H else Q (.str "let") H := by
  refine ⟨_, tru_fault d, ?_⟩
  cases e : fault d with
  | none =>
    rw [e] at h
    exact (if_neg (by simp)).mpr h
  | some wd =>
    rw [e] at h
    exact (if_pos rfl).mpr h
end Hk
set_option Elab.async false
set_option linter.all false
set_option maxRecDepth 100000
set_option pp.maxSteps 1200
set_option maxHeartbeats 1000000
namespace Hk
open PySem PySem.Spec PyProof.Rows L2
section
variable {P : Program} {w : World} {K : PySem.W.Frag} {mg : Str → Option Value} {base : Heap} {C B fI fB : Addr}
abbrev s_law : Stmt := top 70
theorem sc_law : FnScope ["script", "m", "custom", "family", "turn", "one", "due", "calls", "call", "wanted"] ["script"] (defScope s_law) := ⟨rfl, rfl, rfl, by decide +kernel, rfl, by decide +kernel, by decide +kernel⟩
def spLaw (K : PySem.W.Frag) (Pt : Addr) (lq : Str) : Sp := fun vs H Q _ => ∃ (a : Addr) (ns : List Int), vs = [.ref a] ∧ SqL K H a (ns.map V.int) ∧ ns.length ≤ 63 ∧ LamX.Tabs [(Pt, lq)] H ∧ ∀ H', Q (.bl true) H'
theorem shw_bl {b : Bool} : Shw (.bool b) := by
  cases b <;> exact ⟨by decide, by decide, by decide, by decide⟩
theorem ok_law {c Pt f : Addr} {fd : FuncData} (T : Txt K mg) (TB : LamX.TabB base mg c Pt) (F : Fun K "law" "law" s_law f fd) (code0 : fd.code = .ref c)
    (k_law_begun : Kn P w K mg base 2 "_law_begun" ["script"] (spBegun K)) (k_law_custom : Kn P w K mg base 5 "_law_custom" ["m", "marks"] spCustom) (k_law_draw : Kn P w K mg base 2 "_law_draw" ["m", "limit"] sp_draw)
    (k_law_like' : Kn P w K mg base 1 "_law_like" ["got", "due"] (spLike K)) (k_need_custom' : Kn P w K mg base 7 "need_custom" ["custom"] (spNeed C)) (k_is_custom : Kn P w K mg base 7 "is_custom" ["value"] spIsC)
    (k_law_spoilt : Kn P w K mg base 6 "_law_spoilt" ["m", "thing"] spSpoilt) (k_law_fault : Kn P w K mg base 4 "_law_fault" ["some"] spFault) 
    (k_like : ∀ B, Kn P w K mg B 1 "_law_like" ["got", "due"] (spLike K)) (k_need : ∀ B, Kn P w K mg B 7 "need_custom" ["custom"] (spNeed C)) (k_heir : ∀ B, Kn P w K mg B 10 "heir" ["custom", "family"] (spHeir C))
    (k_same : ∀ B, Kn P w K mg B 8 "same_marks" ["custom", "other"] (spSame C)) (k_ren : ∀ B, Kn P w K mg B 8 "renumbered" ["custom", "stands", "ranks"] (spRenum C)) (k_word : ∀ B, Kn P w K mg B 12 "_law_word" ["call"] (spWord P w K mg B 11 C)) :
    FnG P w K mg base (L2.CX P w) 13 f fd ["script"] (spLaw K Pt lawQ) := by
  obtain ⟨oc, od, kV, doc, pm, an, cdv, ct, osl, rfl, lk, hcd⟩ := F.ex
  obtain rfl : cdv = .ref c := code0
  have k_law_like := k_law_like'
  have k_need_custom := k_need_custom'
  refine ⟨fun vs H Q E h => ?_, fun A outer s H given us vs Q E hr0 free0 e0 hb rel h => LamX.run_ofS (N := ["script", "m", "custom", "family", "turn", "one", "due", "calls", "call", "wanted"]) lk hcd sc_law hr0 e0 hb rel ?_ fun hr => ?_⟩
  · obtain ⟨a, ns, rfl, _⟩ := h
    rfl
  · obtain ⟨a, ns, rfl, _⟩ := h
    rfl
  have free : (A.deeper (envOfC "law" (defScope s_law) s.heap.objs.size f (.ref c))).guards = some [] := free0
  have key : ∃ t, PSs (cxOf (L2.CX P w) P w K mg base ["script", "m", "custom", "family", "turn", "one", "due", "calls", "call", "wanted"] "law" (defScope s_law) f (.ref c) A outer s H E).nox (defBody s_law) t ∧ t { nx := fun _ H' => Q .non H', rt := Q } (L2.start ["script", "m", "custom", "family", "turn", "one", "due", "calls", "call", "wanted"] vs) H := by
    generalize hX : (cxOf (L2.CX P w) P w K mg base ["script", "m", "custom", "family", "turn", "one", "due", "calls", "call", "wanted"] "law" (defScope s_law) f (.ref c) A outer s H E).nox = X
    have code : X.env.code = .ref c := by rw [← hX] <;> rfl
    have mine : (Pt, X.env.qual ++ "<lambda>") ∈ [(Pt, lawQ)] := by rw [← hX]; exact List.mem_singleton.mpr rfl
    have only : ∀ p ∈ [(Pt, lawQ)], p.1 = Pt → p.2 = X.env.qual ++ "<lambda>" := by
      intro p hp _
      rw [List.mem_singleton.mp hp, ← hX]
      rfl
    subst hX
    obtain ⟨a, ns, rfl, ha, l63, tabs, k⟩ := h
    refine ⟨_, (pss_cons (ps_set (i := 1) sc_law.nd rfl (Or.inl rfl) (pe_callN k_law_begun free (hr.mono (by decide)) rfl passL (pa_cons (pv 0) pa_nil))) (pss_cons (ps_set (i := 2) sc_law.nd rfl (Or.inr rfl) (pe_callN k_law_custom free (hr.mono (by decide)) rfl passL (pa_cons (pv 1) (pa_cons (pe_op op_add pe_int (pe_callN k_law_draw free (hr.mono (by decide)) rfl passL (pa_cons (pv 1) (pa_cons pe_int pa_nil)))) pa_nil)))) (pss_cons (ps_if (PW.pt (pw_or (pt_not (pt_val (pe_callN k_law_like free (hr.mono (by decide)) rfl passL (pa_cons (pe_callN k_need_custom free (hr.mono (by decide)) rfl (passL : Passes (L2.CX P w) _ E0) (pa_cons (pv 2) pa_nil)) (pa_cons (pv 2) pa_nil))))) (pw_or1 (pt_not (pt_val (pe_callN k_law_like free (hr.mono (by decide)) rfl passL (pa_cons (pe_callN k_is_custom free (hr.mono (by decide)) rfl passL (pa_cons (pv 2) pa_nil)) (pa_cons pe_bl pa_nil)))))))) (pss_one (ps_ret pe_bl)) pss_nil) (pss_cons (ps_set (i := 3) sc_law.nd rfl (Or.inr rfl) (pe_tup (pa_cons (pe_tup (pa_cons pe_int (pa_cons pe_bl (pa_cons (pe_tup pa_nil) pa_nil)))) pa_nil))) (pss_cons (ps_for PassesOwn.never rfl (pi_range1 rfl T.b_range (pa_cons pe_int pa_nil)) (pg_name (i := 4) sc_law.nd rfl (Or.inl rfl)) (pss_cons (ps_set (i := 5) sc_law.nd rfl (Or.inr rfl) (pe_callN k_law_spoilt free (hr.mono (by decide)) rfl passL (pa_cons (pv 1) (pa_cons (pv 2) pa_nil)))) (pss_cons (ps_set (i := 6) sc_law.nd rfl (Or.inr rfl) (pe_tup (pa_cons (pe_orT (pe_callN k_law_fault free (hr.mono (by decide)) rfl passL (pa_cons (pv 5) pa_nil)) (pe_one pe_str)) (pa_cons pe_bl pa_nil)))) (pss_cons (ps_set (i := 7) sc_law.nd rfl (Or.inl rfl) (pe_lst (pa_cons (pe_tup (pa_cons (pe_lam TB code mine only (LamX.lamS_by (sc := defScope s_law) (by decide +kernel)) rfl) (pa_cons (pv 6) pa_nil))) (pa_cons (pe_tup (pa_cons (pe_lam TB code mine only (LamX.lamS_by (sc := defScope s_law) (by decide +kernel)) rfl) (pa_cons (pv 6) pa_nil))) (pa_cons (pe_tup (pa_cons (pe_lam TB code mine only (LamX.lamS_by (sc := defScope s_law) (by decide +kernel)) rfl) (pa_cons (pv 6) pa_nil))) (pa_cons (pe_tup (pa_cons (pe_lam TB code mine only (LamX.lamS_by (sc := defScope s_law) (by decide +kernel)) rfl) (pa_cons (pv 6) pa_nil))) pa_nil)))))) (pss_cons (ps_if (pt_cmpR op_ne (pe_ix (show IxR _ (rIxT K) from ix_tup) (pv 6) pe_int (fun _ _ => rfl)) pe_str (nomark _)) (pss_one (ps_expr (pe_bm PySem.F.plainAttrs_list PySem.F.slot_list_append PySem.F.type_list_append mt_append (pv 7) (pa_cons (pe_tup (pa_cons (pe_lam TB code mine only (LamX.lamS_by (sc := defScope s_law) (by decide +kernel)) rfl) (pa_cons (pv 6) pa_nil))) pa_nil)))) pss_nil) (pss_cons (ps_if (pt_cmpR (op_neD (room65' hr)) (pe_lcB (own := [("call", 8), ("wanted", 9)]) (by rfl) (fun _ => rfl) sc_law.nd (pi_list (pv 7)) (blkOk_by (own := [("call", 8), ("wanted", 9)]) (N := ["script", "m", "custom", "family", "turn", "one", "due", "calls", "call", "wanted"]) (sc := defScope s_law) (by decide +kernel)) (fun B _ _ _ _ _ => (show PG _ _ (gTup K 2 (gCons (gName 8) (gCons (gName 9) gNil))) from pg_tup rfl (pgs_cons (pg_name (i := 8) sc_law.nd rfl (Or.inl rfl)) (pgs_cons (pg_name (i := 9) sc_law.nd rfl (Or.inl rfl)) pgs_nil)))) (fun B _ _ _ _ _ => (pts_one (pt_not (pt_val (pe_callN (k_like B) free (hr.mono (by decide)) rfl (passL : Passes (L2.CX P w) _ E0) (pa_cons (pe_callN (k_word B) free (hr.mono (by decide)) rfl (passL : Passes (L2.CX P w) _ E0) (pa_cons (pv 8) pa_nil)) (pa_cons (pv 9) pa_nil))))))) (fun B _ _ _ _ _ => pe_int)) (pe_lst pa_nil) (nomark _)) (pss_one (ps_ret pe_bl)) pss_nil) (pss_one (ps_if (pt_not (pt_val (pe_callN k_law_like free (hr.mono (by decide)) rfl passL (pa_cons (pe_callN k_is_custom free (hr.mono (by decide)) rfl passL (pa_cons (pv 5) pa_nil)) (pa_cons (pe_cmpR op_eq (pe_ix (show IxR _ (rIxT K) from ix_tup) (pv 6) pe_int (fun _ _ => rfl)) pe_str (nomark _)) pa_nil))))) (pss_one (ps_ret pe_bl)) pss_nil)))))))) (pss_one (ps_ret pe_bl))))))), ?_⟩
    -- m = _law_begun(script)
    refine ⟨_, rfl, a, ns, rfl, ha, l63, fun m c0 g H1 s1 nm ng d1 => ?_⟩
    have tab1 := tabs.ext s1
    -- custom = _law_custom(m, 1 + _law_draw(m, 3))
    refine ⟨_, rfl, _, rfl, m, c0, g, 0, 3, rfl, d1, by omega, by omega, by omega, fun H2 r kp2 d2 r0 r3 => ?_⟩
    refine ⟨_, _, rfl, rfl, m, c0, g, 0 + 1, 1 + r, rfl, d2, by omega, by omega, by omega, fun H3 n3 vC dC kp3 d3 n3l dtC _ hC => ?_⟩
    have tab3 := tabs_dr (tabs_dr tab1 d1 kp2) d2 kp3
    obtain ⟨shC, okC, smC⟩ := shw_custom hC
    have odC : Okd dC := okd_iff.mpr ⟨okC.1, by have := okC.2; omega⟩
    -- the custom itself
    refine ⟨_, rfl, vC, dC, m, g, rfl, dtC, odC, fun _ H4 s4 => ?_, fun wd h => by rw [hC] at h; cases h⟩
    refine ⟨_, rfl, vC, vC, dC, rfl, (dtC.same s4).dp, (dtC.same s4).dp, shC, _, rfl, ?_⟩
    refine iteF ?_
    refine ⟨_, rfl, vC, dC, m, g, rfl, dtC.same s4, odC, fun H5 s5 => ?_⟩
    rw [hC]
    refine ⟨.bl true, .bl true, .bool true, rfl, .bl _, .bl _, shw_bl, _, rfl, ?_⟩
    refine iteF ?_
    -- family = ((0, True, ()),)
    have tb5 : Dr H5 m c0 g n3 := (d3.same s4).same s5
    refine ⟨Nat.zero_le _, fun b nb => ⟨by show 3 ≤ sizeLine; decide, fun l nl => ⟨by show 1 ≤ sizeLine; decide, fun F nF => ?_⟩⟩⟩
    have f1 : upd H5 b (.tup []) b = some (.tup []) := upd_same
    have s6 := same_upd (o := .tup []) nb
    generalize upd H5 b (.tup []) = H6 at nl nF f1 s6 ⊢
    have f2 : upd H6 l (.tup [.int 0, .bl true, .ref b]) l = some (.tup [.int 0, .bl true, .ref b]) := upd_same
    have s7 := same_upd (o := .tup [.int 0, .bl true, .ref b]) nl
    generalize upd H6 l (.tup [.int 0, .bl true, .ref b]) = H7 at nF f2 s7 ⊢
    have f3 : upd H7 F (.tup [.ref l]) F = some (.tup [.ref l]) := upd_same
    have s8 := same_upd (o := .tup [.ref l]) nF
    generalize upd H7 F (.tup [.ref l]) = H8 at f3 s8 ⊢
    have s38 : Same H3 H8 := (((s4.trans s5).trans s6).trans s7).trans s8
    have L8 : Ls H8 m c0 g n3 vC dC F l b Pt := ⟨d3.same s38, dtC.same s38, ⟨f3, s8 _ _ f2, s8 _ _ (s7 _ _ f1)⟩, tab3.ext s38⟩
    clear tb5 f1 f2 f3 s4 s5 s6 s7 s8 s38 nb nl nF
    obtain ⟨ds, rfl, l1, ne⟩ := cust_rows hC
    refine ⟨6, rfl, by decide, by decide, ?_⟩
    refine for_it walk_range (fun i σ H => ∃ (n : Int) (v4 v5 v6 v7 v8 v9 : Option V), Ls H m c0 g n vC (.tuple ds) F l b Pt ∧ n ≤ 2000 + 12 * (i : Int) ∧ σ = [some (.ref a), some (.ref m), some vC, some (.ref F), v4, v5, v6, v7, v8, v9])
      ⟨n3, _, _, _, _, _, _, L8, by omega, rfl⟩ (fun _ _ _ _ _ => trivial) ?_ ?_
    · rintro i x σ Ha Hb hi ⟨n, v4, v5, v6, v7, v8, v9, La, nl, rfl⟩ ⟨rfl, hx⟩
      subst hx
      -- one = _law_spoilt(m, custom)
      refine ⟨_, rfl, _, rfl, m, c0, g, n, vC, ds, 5, rfl, La.dr, by omega, La.dt, okC, by decide, smC, l1, ne, fun Hc n' v' d' kp' dr' hn dt' ok' => ?_⟩
      have Lc := La.kp kp' dr'
      have od' : Okd d' := okd_iff.mpr ⟨ok'.1, by have := ok'.2; omega⟩
      -- due = (_law_fault(one) or 'let', True)
      refine nm_via ?_
      dsimp only
      refine (seq_via (fun σ' H' => ∃ du, σ' = [some (.ref a), some (.ref m), some vC, some (.ref F), some (.int (0 + (i : Int))), some v', some (.ref du), v7, v8, v9] ∧ H' du = some (.tup [.str ((fault d').getD "let"), .bl true]) ∧ Ls H' m c0 g n' vC (.tuple ds) F l b Pt ∧ Dt H' m g v' d') (fun N hN => ?_) ?_)
      · refine ⟨_, rfl, v', d', m, g, rfl, dt', od', fun Hd sd => ⟨_, tru_fault d', ?_⟩⟩
        have fin : ∀ W : Str, (fault d').getD "let" = W → ∀ du, Hd du = none → N [some (.ref a), some (.ref m), some vC, some (.ref F), some (.int (0 + (i : Int))), some v', some (.ref du), v7, v8, v9] (upd Hd du (.tup [.str W, .bl true])) := fun W hW du ndu => by
          have se := sd.trans (same_upd (o := .tup [.str W, .bl true]) ndu)
          exact hN _ _ ⟨du, rfl, by rw [hW]; exact upd_same, Lc.same se, dt'.same se⟩
        cases hf : fault d' with
        | none =>
          rw [hf] at fin
          exact (if_neg (by simp)).mpr ⟨by show 2 ≤ sizeLine; decide, fun du ndu => fin _ rfl du ndu⟩
        | some wd =>
          rw [hf] at fin
          exact (if_pos rfl).mpr ⟨by show 2 ≤ sizeLine; decide, fun du ndu => fin _ rfl du ndu⟩
      rintro σ' He ⟨du, rfl, hdu, Le, dte⟩
      -- calls = [..]
      have x0 : LamX.ExtN He He := LamX.ExtN.refl He
      have tb0 := Le.tab
      refine ⟨tb0, fun f1 G1 e1 t1 _ at1 => ⟨_, rfl, by show 2 ≤ sizeLine; decide, fun p1 np1 => ?_⟩⟩
      have hp1 : upd G1 p1 (.tup [.ref f1, .ref du]) p1 = some (.tup [.ref f1, .ref du]) := upd_same
      have s1 := same_upd (o := .tup [.ref f1, .ref du]) np1
      have x1 := (x0.trans e1).trans (LamX.ExtN.of s1)
      have tb1 := t1.ext s1
      have bt1 := at1.same s1
      clear at1
      generalize upd G1 p1 (.tup [.ref f1, .ref du]) = M1 at hp1 s1 x1 tb1 bt1 hp1 ⊢
      refine ⟨tb1, fun f2 G2 e2 t2 _ at2 => ⟨_, rfl, by show 2 ≤ sizeLine; decide, fun p2 np2 => ?_⟩⟩
      have hp2 : upd G2 p2 (.tup [.ref f2, .ref du]) p2 = some (.tup [.ref f2, .ref du]) := upd_same
      have s2 := same_upd (o := .tup [.ref f2, .ref du]) np2
      have x2 := (x1.trans e2).trans (LamX.ExtN.of s2)
      have tb2 := t2.ext s2
      have bt2 := at2.same s2
      have bt1 := (bt1.extN e2).same s2
      have hp1 := s2 _ _ (e2 _ _ hp1 (fun ps z => by cases z))
      clear at2
      generalize upd G2 p2 (.tup [.ref f2, .ref du]) = M2 at hp2 s2 x2 tb2 bt1 hp1 bt2 hp2 ⊢
      refine ⟨tb2, fun f3 G3 e3 t3 _ at3 => ⟨_, rfl, by show 2 ≤ sizeLine; decide, fun p3 np3 => ?_⟩⟩
      have hp3 : upd G3 p3 (.tup [.ref f3, .ref du]) p3 = some (.tup [.ref f3, .ref du]) := upd_same
      have s3 := same_upd (o := .tup [.ref f3, .ref du]) np3
      have x3 := (x2.trans e3).trans (LamX.ExtN.of s3)
      have tb3 := t3.ext s3
      have bt3 := at3.same s3
      have bt1 := (bt1.extN e3).same s3
      have hp1 := s3 _ _ (e3 _ _ hp1 (fun ps z => by cases z))
      have bt2 := (bt2.extN e3).same s3
      have hp2 := s3 _ _ (e3 _ _ hp2 (fun ps z => by cases z))
      clear at3
      generalize upd G3 p3 (.tup [.ref f3, .ref du]) = M3 at hp3 s3 x3 tb3 bt1 hp1 bt2 hp2 bt3 hp3 ⊢
      refine ⟨tb3, fun f4 G4 e4 t4 _ at4 => ⟨_, rfl, by show 2 ≤ sizeLine; decide, fun p4 np4 => ?_⟩⟩
      have hp4 : upd G4 p4 (.tup [.ref f4, .ref du]) p4 = some (.tup [.ref f4, .ref du]) := upd_same
      have s4 := same_upd (o := .tup [.ref f4, .ref du]) np4
      have x4 := (x3.trans e4).trans (LamX.ExtN.of s4)
      have tb4 := t4.ext s4
      have bt4 := at4.same s4
      have bt1 := (bt1.extN e4).same s4
      have hp1 := s4 _ _ (e4 _ _ hp1 (fun ps z => by cases z))
      have bt2 := (bt2.extN e4).same s4
      have hp2 := s4 _ _ (e4 _ _ hp2 (fun ps z => by cases z))
      have bt3 := (bt3.extN e4).same s4
      have hp3 := s4 _ _ (e4 _ _ hp3 (fun ps z => by cases z))
      clear at4
      generalize upd G4 p4 (.tup [.ref f4, .ref du]) = M4 at hp4 s4 x4 tb4 bt1 hp1 bt2 hp2 bt3 hp3 bt4 hp4 ⊢
      refine ⟨by show 4 ≤ sizeLine; decide, fun D nD => ?_⟩
      have hD : upd M4 D (.lst [.ref p1, .ref p2, .ref p3, .ref p4]) D = some (.lst [.ref p1, .ref p2, .ref p3, .ref p4]) := upd_same
      have s5 := same_upd (o := .lst [.ref p1, .ref p2, .ref p3, .ref p4]) nD
      have x5 := x4.trans (LamX.ExtN.of s5)
      have tb5 := tb4.ext s5
      have bt1 := bt1.same s5
      have bt2 := bt2.same s5
      have bt3 := bt3.same s5
      have bt4 := bt4.same s5
      have hp1 := s5 _ _ hp1
      have hp2 := s5 _ _ hp2
      have hp3 := s5 _ _ hp3
      have hp4 := s5 _ _ hp4
      have far : ∀ b u, He b = some u → (∀ ps, u ≠ .tbl ps) → b ≠ D := fun b u e n => ne_of_none (x4 b u e n) nD
      generalize upd M4 D (.lst [.ref p1, .ref p2, .ref p3, .ref p4]) = M5 at hD x5 tb5 bt1 bt2 bt3 bt4 hp1 hp2 hp3 hp4 ⊢
      have mk : ∀ Hq : Hp, (∀ env params body scope f, LamAt env params body scope f M5 → LamAt env params body scope f Hq) → (∀ p xs, M5 p = some (.tup xs) → Hq p = some (.tup xs)) → LamX.ExtN He Hq → LamX.Tabs [(Pt, lawQ)] Hq → ∀ v ∈ [V.ref p1, V.ref p2, V.ref p3, V.ref p4], Itm (cxOf (L2.CX P w) P w K mg base ["script", "m", "custom", "family", "turn", "one", "due", "calls", "call", "wanted"] "law" (defScope s_law) f (.ref c) A outer s H E) [some (.ref a), some (.ref m), some vC, some (.ref F), some (.int (0 + (i : Int))), some v', some (.ref du), some (.ref D), v8, v9] C (fault d') du Hq v := by
        intro Hq kl kt xq tq v hv
        have dtq := dte.ext xq
        have Lq := Le.ext xq tq
        have hduq := xq _ _ hdu (fun ps z => by cases z)
        simp only [List.mem_cons, List.not_mem_nil, or_false] at hv
        rcases hv with z | z | z | z <;> subst z
        · exact itm_mk (X := cxOf (L2.CX P w) P w K mg base ["script", "m", "custom", "family", "turn", "one", "due", "calls", "call", "wanted"] "law" (defScope s_law) f (.ref c) A outer s H E) (tb := fun E => tCall (spNeed C) [] E (tCons (tVar 5) tNil)) (kl _ _ _ _ _ bt1) (kt _ _ hp1) (LamX.lamS_by (sc := defScope s_law) (by decide +kernel)) (no_free (sc := defScope s_law) (by decide +kernel)) rfl (fun _ _ _ _ _ => rfl) (fun B A outer s H E c hr free => (pe_callN (k_need B) free (hr.mono (by decide)) rfl lam_pass (pa_cons (pv 5) pa_nil))) (fun H' s => acts_need (dtq.same s) od' rfl)
        · exact itm_mk (X := cxOf (L2.CX P w) P w K mg base ["script", "m", "custom", "family", "turn", "one", "due", "calls", "call", "wanted"] "law" (defScope s_law) f (.ref c) A outer s H E) (tb := fun E => tCall (spHeir C) [] E (tCons (tVar 5) (tCons (tIf (tTest (tOp rEq (tOp (rIxT K) (tVar 6) (tC (.int 0))) (tC (.str "let")))) (tVar 3) (tC .non)) tNil))) (kl _ _ _ _ _ bt2) (kt _ _ hp2) (LamX.lamS_by (sc := defScope s_law) (by decide +kernel)) (no_free (sc := defScope s_law) (by decide +kernel)) rfl (fun _ _ _ _ _ => rfl) (fun B A outer s H E c hr free => (pe_callN (k_heir B) free (hr.mono (by decide)) rfl lam_pass (pa_cons (pv 5) (pa_cons (pe_ifExp (pt_cmpR op_eq (pe_ix (show IxR _ (rIxT K) from ix_tup) (pv 6) pe_int (fun _ _ => rfl)) pe_str (nomark _)) (pv 3) pe_non) pa_nil)))) (fun H' s => acts_heir (dtq.same s) od' (Lq.fam.same s) (s _ _ hduq) rfl rfl rfl)
        · exact itm_mk (X := cxOf (L2.CX P w) P w K mg base ["script", "m", "custom", "family", "turn", "one", "due", "calls", "call", "wanted"] "law" (defScope s_law) f (.ref c) A outer s H E) (tb := fun E => tCall (spSame C) [] E (tCons (tVar 5) (tCons (tVar 5) tNil))) (kl _ _ _ _ _ bt3) (kt _ _ hp3) (LamX.lamS_by (sc := defScope s_law) (by decide +kernel)) (no_free (sc := defScope s_law) (by decide +kernel)) rfl (fun _ _ _ _ _ => rfl) (fun B A outer s H E c hr free => (pe_callN (k_same B) free (hr.mono (by decide)) rfl lam_pass (pa_cons (pv 5) (pa_cons (pv 5) pa_nil)))) (fun H' s => acts_same (dtq.same s) od' rfl)
        · exact itm_mk (X := cxOf (L2.CX P w) P w K mg base ["script", "m", "custom", "family", "turn", "one", "due", "calls", "call", "wanted"] "law" (defScope s_law) f (.ref c) A outer s H E) (tb := fun E => tCall (spSame C) [] E (tCons (tVar 2) (tCons (tIf (tTest (tOp rNe (tOp (rIxT K) (tVar 6) (tC (.int 0))) (tC (.str "let")))) (tVar 5) (tVar 2)) tNil))) (kl _ _ _ _ _ bt4) (kt _ _ hp4) (LamX.lamS_by (sc := defScope s_law) (by decide +kernel)) (no_free (sc := defScope s_law) (by decide +kernel)) rfl (fun _ _ _ _ _ => rfl) (fun B A outer s H E c hr free => (pe_callN (k_same B) free (hr.mono (by decide)) rfl lam_pass (pa_cons (pv 2) (pa_cons (pe_ifExp (pt_cmpR op_ne (pe_ix (show IxR _ (rIxT K) from ix_tup) (pv 6) pe_int (fun _ _ => rfl)) pe_str (nomark _)) (pv 5) (pv 2)) pa_nil)))) (fun H' s => acts_both (dtq.same s) od' (Lq.dt.same s) odC hC (s _ _ hduq) rfl rfl rfl)
      have five : ∀ Hq : Hp, (∀ env params body scope f, LamAt env params body scope f M5 → LamAt env params body scope f Hq) → True := fun _ _ => trivial
      refine nm_via ?_
      dsimp only
      refine seq_via (fun σ' H' => ∃ xs, σ' = [some (.ref a), some (.ref m), some vC, some (.ref F), some (.int (0 + (i : Int))), some v', some (.ref du), some (.ref D), v8, v9] ∧ H' D = some (.lst xs) ∧ xs.length ≤ 5 ∧ Ls H' m c0 g n' vC (.tuple ds) F l b Pt ∧ Dt H' m g v' d' ∧ H' du = some (.tup [.str ((fault d').getD "let"), .bl true]) ∧
        ∀ v ∈ xs, Itm (cxOf (L2.CX P w) P w K mg base ["script", "m", "custom", "family", "turn", "one", "due", "calls", "call", "wanted"] "law" (defScope s_law) f (.ref c) A outer s H E) σ' C (fault d') du H' v) (fun N hN => ?_) ?_
      · have hdu5 := x5 _ _ hdu (fun ps z => by cases z)
        refine ⟨_, rfl, du, _, 0, _, rfl, rfl, SqT.of hdu5, at0, rfl, _, rfl, ?_⟩
        cases hf : fault d' with
        | none =>
          refine (if_neg (by simp)).mpr (hN _ _ ⟨_, rfl, hD, by simp, Le.ext x5 tb5, dte.ext x5, hdu5, ?_⟩)
          exact mk M5 (fun _ _ _ _ _ h => h) (fun _ _ h => h) x5 tb5
        | some wd =>
          refine (if_pos (by have := (word_tru wd (fault_word hf)).2.1; simpa using this)).mpr ?_
          refine ⟨_, rfl, .inl ⟨rfl, _, SqL.of hD⟩, tb5, fun f5 G5 e5 t5 _ at5 => ⟨_, rfl, by show 2 ≤ sizeLine; decide, fun p5 np5 => ?_⟩⟩
          have hp5 : upd G5 p5 (.tup [.ref f5, .ref du]) p5 = some (.tup [.ref f5, .ref du]) := upd_same
          have s6 := same_upd (o := .tup [.ref f5, .ref du]) np5
          have y6 := e5.trans (LamX.ExtN.of s6)
          have tb6 := t5.ext s6
          have bt5 := at5.same s6
          clear at5
          generalize upd G5 p5 (.tup [.ref f5, .ref du]) = M6 at hp5 s6 y6 tb6 bt5 ⊢
          have hD6 := y6 _ _ hD (fun ps z => by cases z)
          refine ⟨D, _, _, rfl, rfl, hD6, by show 4 < sizeLine; decide, ?_⟩
          have hD7 : upd M6 D (.lst ([.ref p1, .ref p2, .ref p3, .ref p4] ++ [.ref p5])) D = some (.lst ([.ref p1, .ref p2, .ref p3, .ref p4] ++ [.ref p5])) := upd_same
          have y7 : ∀ b u, M6 b = some u → b ≠ D → upd M6 D (.lst ([.ref p1, .ref p2, .ref p3, .ref p4] ++ [.ref p5])) b = some u := fun b u e n => (upd_ne n).trans e
          have tb7 : LamX.Tabs [(Pt, lawQ)] (upd M6 D (.lst ([.ref p1, .ref p2, .ref p3, .ref p4] ++ [.ref p5]))) := by
            refine tabs_kp (a := D) (a' := D) tb6 (fun x o h1 h2 _ => y7 x o h1 h2) (fun ps z => ?_) (fun ps z => ?_) fun x q e => ⟨fun z => ?_, fun z => ?_⟩
            · rw [hD6] at z
              cases z
            · rw [hD6] at z
              cases z
            · rw [z, hD6] at e
              unfold LamX.CodeO at e
              cases e
            · rw [z, hD6] at e
              unfold LamX.CodeO at e
              cases e
          generalize upd M6 D (.lst ([.ref p1, .ref p2, .ref p3, .ref p4] ++ [.ref p5])) = M7 at hD7 y7 tb7 ⊢
          have tt : ∀ p xs, M6 p = some (.tup xs) → M7 p = some (.tup xs) := fun p xs e => y7 _ _ e fun z => by rw [z, hD6] at e; cases e
          have x7 : LamX.ExtN He M7 := fun b u e n => y7 b u (y6 b u (x5 b u e n) n) (far b u e n)
          have kl : ∀ env params body scope f, LamAt env params body scope f M6 → LamAt env params body scope f M7 := fun _ _ _ _ _ a => a.kn hD6 fun b u e n _ => y7 b u e n
          have dt7 := dte.ext x7
          refine hN _ _ ⟨_, rfl, hD7, by simp, Le.ext x7 tb7, dt7, x7 _ _ hdu (fun ps z => by cases z), ?_⟩
          intro v hv
          rcases List.mem_append.mp hv with hv | hv
          · exact mk M7 (fun _ _ _ _ _ a => kl _ _ _ _ _ (a.extN y6)) (fun p xs e => tt _ _ (y6 _ _ e (fun ps z => by cases z))) x7 tb7 v hv
          · rw [List.mem_singleton.mp hv]
            exact itm_mk (X := cxOf (L2.CX P w) P w K mg base ["script", "m", "custom", "family", "turn", "one", "due", "calls", "call", "wanted"] "law" (defScope s_law) f (.ref c) A outer s H E) (tb := fun E => tCall (spRenum C) [] E (tCons (tVar 5) (tCons (tC .non) (tCons (tC .non) tNil)))) (kl _ _ _ _ _ bt5) (tt _ _ hp5) (LamX.lamS_by (sc := defScope s_law) (by decide +kernel)) (no_free (sc := defScope s_law) (by decide +kernel)) rfl (fun _ _ _ _ _ => rfl) (fun B A outer s H E c hr free => (pe_callN (k_ren B) free (hr.mono (by decide)) rfl lam_pass (pa_cons (pv 5) (pa_cons pe_non (pa_cons pe_non pa_nil))))) (fun H' s => acts_ren (dt7.same s) od' hf rfl)
      rintro σ' Hx ⟨xs, rfl, hDx, l5, Lx, dtx, hdux, items⟩
      -- [1 for call, wanted in calls if not _law_like(_law_word(call), wanted)] != []
      refine ⟨_, rfl, D, rfl, ⟨_, SqL.of hDx⟩, fun D2 nD2 B kc => ?_⟩
      refine lc_filt (walk_list (xs := xs)) (fun _ => false) (fun _ => .int 1) (fun H' s' => SqL.of (s' _ _ hDx)) (fun i H x H' y => by obtain ⟨rfl, _⟩ := y; exact Same.refl _) nD2 (small_of (k := 5) l5 (by decide)) (fun i x H1 H2 Qy Qn hi y s1 q1 q2 => ?_) (fun H1 s1 hD2 => ?_)
      · obtain ⟨rfl, hy⟩ := y
        obtain ⟨p, fI, R, act, rfl, hp, fo, hR, ac, lp⟩ := items x (List.mem_of_getElem? hy)
        refine ⟨p, _, rfl, SqT.of (s1 _ _ hp), rfl, _, _, rfl, _, _, rfl, rfl, rfl, ?_⟩
        refine ⟨_, rfl, fI, R, act, fault d', rfl, fo.same s1, fun H' s' => hR _ (s1.trans s'), lp B kc, ac _ s1, fun p2 H3 s3 hp2 => ?_⟩
        have sh := shw_due _ (due_word d')
        refine ⟨_, rfl, .ref p2, .ref du, .tuple [.str ((fault d').getD "let"), .bool true], rfl, .tup (SqT.of hp2) (.cons (.str _) (.cons (.bl _) .nil)), .tup (SqT.of (s3 _ _ (s1 _ _ hdux))) (.cons (.str _) (.cons (.bl _) .nil)), sh, _, rfl, ?_⟩
        exact (if_neg (by simp)).mpr (q2 rfl H3 s3)
      · have hD3 : H1 D2 = some (.lst []) := by rw [hD2]; simp
        clear hD2
        refine ⟨Nat.zero_le _, fun e ne => ?_⟩
        have he : upd H1 e (.lst []) e = some (.lst []) := upd_same
        have se := s1.trans (same_upd (o := .lst []) ne)
        have hD4 : upd H1 e (.lst []) D2 = some (.lst []) := (upd_ne (ne_of_none hD3 ne)).trans hD3
        generalize upd H1 e (.lst []) = H4 at he se hD4 ⊢
        refine ⟨.list [], .list [], .lst (SqL.of hD4) .nil, .lst (SqL.of he) .nil, rfl, rfl, _, rfl, ?_⟩
        rw [eqv_list]
        refine (if_neg (by simp)).mpr ?_
        -- is_custom(one)
        refine ⟨_, rfl, v', d', m, g, rfl, dtx.same se, od', fun H5 s5 => ?_⟩
        refine ⟨_, rfl, du, _, 0, _, rfl, rfl, SqT.of (s5 _ _ (se _ _ hdux)), at0, rfl, ?_⟩
        rw [due_none]
        refine ⟨_, _, .bool (fault d').isNone, rfl, .bl _, .bl _, shw_bl, _, rfl, ?_⟩
        refine (if_neg (by simp)).mpr ?_
        exact ⟨n', _, _, _, _, _, _, (Lx.same se).same s5, by omega, rfl⟩
    · rintro σ Hz ⟨n, v4, v5, v6, v7, v8, v9, La, nl, rfl⟩
      exact k Hz
  obtain ⟨t, h1, h2⟩ := key
  exact ⟨t, h1.nox, h2⟩
end
end Hk
set_option Elab.async false
set_option linter.all false
set_option maxRecDepth 100000
set_option maxHeartbeats 4000000
namespace Hk
open PySem PySem.Spec PyProof.Rows L2
/-! ### the part of the heap that the head looks at: no empty table -/
def emptyTab (o : Obj) : Bool := match o.cls, o.data with
  | .none, .fields vs => vs.isEmpty
  | _, _ => false
def reach (g : Addr → Option Obj) : Nat → List Addr
  | 0 => [mainGlobals, cStatics]
  | n + 1 => He.growD g (reach g n)
def seen (g : Addr → Option Obj) (a : Addr) : Option Obj := match g a with
  | some o => if emptyTab o = true then none else some o
  | none => none
def fragZ (n : Nat) (g : Addr → Option Obj) : PySem.W.Frag := He.frG (seen g) (reach g n)
theorem seen_some {g : Addr → Option Obj} {a : Addr} {o : Obj} (e : seen g a = some o) : g a = some o ∧ emptyTab o = false := by
  unfold seen at e
  cases q : g a with
  | none => rw [q] at e; cases e
  | some u =>
    rw [q] at e
    cases p : emptyTab u with
    | true => simp [p] at e
    | false =>
      simp [p] at e
      subst e
      exact ⟨rfl, p⟩
theorem fragZ_at {n : Nat} {g : Addr → Option Obj} {a : Addr} {o : Obj} (e : (fragZ n g).lookup a = some o) : g a = some o ∧ emptyTab o = false := seen_some (He.frG_at _ e)
/-! ### the error's text -/
abbrev s_BadCustom___init__ : Stmt := inClass (top 4) 0
abbrev s_HeirError___init__ : Stmt := inClass (top 2) 0
theorem word_text : ∃ p1 p2 a1 a2 a3 a4 a5 a6 q1 q2 q3 q4 : Pos, defArgs s_BadCustom___init__ = PySem.OwnX.bA "word" p1 p2 ∧ defBody s_BadCustom___init__ = PySem.OwnX.bB "word" a1 a2 a3 a4 a5 a6 q1 q2 q3 q4 ∧ defScope s_BadCustom___init__ = PySem.OwnX.bS "word" ∧ (a3.endLine == a5.line) = true :=
  ⟨_, _, _, _, _, _, _, _, _, _, _, _, rfl, rfl, rfl, rfl⟩
theorem base_text : ∃ p1 p2 q1 q2 q3 q4 : Pos, defArgs s_HeirError___init__ = PySem.OwnX.hA p1 p2 ∧ defBody s_HeirError___init__ = PySem.OwnX.hB q1 q2 q3 q4 ∧ defScope s_HeirError___init__ = PySem.OwnX.hS :=
  ⟨_, _, _, _, _, _, rfl, rfl, rfl⟩
/-! ### the tests -/
def clsB (K : PySem.W.Frag) (C : Addr) : Bool := match K.lookup C with
  | some ⟨.type t, _, .cls cd, sl⟩ => decide (t = "type") && match cd.mro, sl.toList with
    | .ref C' :: bm, [_, _, _, _, some (.builtin n), _] => (decide (C' = C) && decide (n = "ValueError.__new__")) && ((!cd.hasDel && cd.hasDict) && PySem.HandSPX.refsVE bm)
    | _, _ => false
  | _ => false
theorem clsB_ok {K : PySem.W.Frag} {C : Addr} (h : clsB K C = true) :
    ∃ n q N bs bm sn sub ab col dd k0 k1 k2 k3 k5, K.lookup C = some (excClassObj n q C N bs bm true sn sub ab col dd k0 k1 k2 k3 k5 "ValueError.__new__") ∧ PySem.HandSPX.refsVE bm = true := by
  unfold clsB at h
  split at h
  · rename_i t dd cd sl ho
    obtain ⟨ht, hh⟩ := He.ba h
    clear h
    have ht := of_decide_eq_true ht
    subst ht
    split at hh
    · rename_i C' bm k0 k1 k2 k3 n k5 hm hs
      obtain ⟨h1, h2⟩ := He.ba hh
      obtain ⟨h3, h4⟩ := He.ba h1
      obtain ⟨h5, h6⟩ := He.ba h2
      obtain ⟨h7, h8⟩ := He.ba h5
      have e3 := of_decide_eq_true h3
      have e4 := of_decide_eq_true h4
      subst e3 e4
      obtain ⟨nm, bs, mro, ns, qn, hd, sn, sub, ab, col, del⟩ := cd
      dsimp only at hm h7 h8
      subst hm h8
      obtain rfl : del = false := by simpa using h7
      have hsl : sl = #[k0, k1, k2, k3, some (.builtin "ValueError.__new__"), k5] := by
        obtain ⟨l⟩ := sl
        exact congrArg Array.mk hs
      subst hsl
      exact ⟨_, _, _, _, _, _, _, _, _, _, _, _, _, _, _, ho, h6⟩
    · cases hh
  · cases h
abbrev FnN : Type := Option (Str × Str × Arguments × FuncBody × Scope × Addr × Addr)
def fnN (K : PySem.W.Frag) (f : Addr) : FnN := match K.lookup f with
  | some ⟨_, _, .func fd, _⟩ => some (fd.name, fd.qualname, fd.params, fd.body, fd.scope, fd.globals, fd.builtins)
  | _ => none
def noDfl (fd : FuncData) : Bool := match fd.defaults, fd.kwdefaults with
  | .none, .none => true
  | _, _ => false
def initB (K : PySem.W.Frag) (f C : Addr) (file : Str) : Bool := match K.lookup f with
  | some ⟨_, _, .func fd, _⟩ => noDfl fd && (PySem.W.codeIn K fd.code fd.qualname && ((match fd.closure with
      | [(x, cc)] => decide (x = "__class__") && (match K.lookup cc with
        | some ⟨_, _, .cell (some (.ref C')), _⟩ => decide (C' = C)
        | _ => false)
      | _ => false) && (match fd.code with
      | .ref cda => (match K.lookup cda with
        | some ⟨_, _, .fields vs, _⟩ => (match (vs[2]? : Option Value) with
          | some (.str t _) => decide (t = file)
          | _ => false)
        | _ => false)
      | _ => false)))
  | _ => false
def baseB (K : PySem.W.Frag) (f : Addr) : Bool := match K.lookup f with
  | some ⟨_, _, .func fd, _⟩ => noDfl fd && (PySem.W.codeIn K fd.code fd.qualname && fd.closure.isEmpty)
  | _ => false
def testL (K : PySem.W.Frag) (C B fI fB : Addr) (file : Str) : List Bool :=
  [clsB K C, He.eqO (PySem.W.findIn K (.ref C) "__setattr__") (some (some (.builtin "object.__setattr__"))), He.eqO (PySem.W.findIn K (.ref C) "__getattribute__") (some (some (.builtin "BaseException.__getattribute__"))),
   He.eqO (PySem.W.findIn K (.ref C) "__getattr__") (some none), He.eqO (PySem.W.findIn K (.ref C) "things") (some none), He.eqO (PySem.W.findIn K (.ref C) "word") (some none), He.eqO (PySem.W.findIn K (.ref C) "__init__") (some (some (.ref fI))),
   decide (PySem.W.typeIn K (.ref fI) = some (.type "function")), He.eqO (PySem.W.ks_superIn K C C "__init__") (some (some (.ref fB))), decide (PySem.W.typeIn K (.ref fB) = some (.type "function")), PySem.W.keepIn K (.ref C),
   decide (PySem.W.subIn K (.ref C) (.type "BaseException") = some true), decide (PySem.W.typeIn K (.ref C) = some (.type "type")), PySem.W.hasDictIn K C, decide (PySem.W.exmOne K (.ref C) (.ref C) = some true),
   decide (PySem.W.mroIn K C (.ref C) = some true), He.eqO (PySem.W.nsIn K cStatics "thirdparty.any") (some none), initB K fI C file, baseB K fB, He.eqO (PySem.W.findIn K (.ref C) "__class__") (some (some (.builtin "object.__class__"))),
   He.eqO (PySem.W.specialIn K (.builtin "object.__class__") "__get__") (some (some (.builtin "getset_descriptor.__get__"))), decide (PySem.W.takesIn K (.builtin "object.__class__") = some true), decide (PySem.W.mroIn K C (.type "object") = some true),
   decide (PySem.W.kitOne K (.ref C) (.ref B) = some true), decide (PySem.W.kitOne K (.ref C) (.type "ValueError") = some true)]
def valI : FnN := some ("__init__", "BadCustom.__init__", defArgs s_BadCustom___init__, .stmts (defBody s_BadCustom___init__), defScope s_BadCustom___init__, mainGlobals, builtinsNs)
def valB : FnN := some ("__init__", "HeirError.__init__", defArgs s_HeirError___init__, .stmts (defBody s_HeirError___init__), defScope s_HeirError___init__, mainGlobals, builtinsNs)
structure OwnK (K : PySem.W.Frag) (C B fI fB : Addr) (file : Str) : Prop where
  all : (testL K C B fI fB file).all id = true
  fi : fnN K fI = valI
  fb : fnN K fB = valB
theorem OwnK.at {K : PySem.W.Frag} {C B fI fB : Addr} {file : Str} (o : OwnK K C B fI fB file) (i : Nat) {b : Bool} (h : (testL K C B fI fB file)[i]? = some b := by rfl) : b = true :=
  List.all_eq_true.mp o.all b (List.mem_of_getElem? h)
theorem fn_of {K : PySem.W.Frag} {f : Addr} {n q : Str} {pa : Arguments} {bd : FuncBody} {sc : Scope} {gl bu : Addr} (e : fnN K f = some (n, q, pa, bd, sc, gl, bu)) :
    ∃ oc od fd osl, K.lookup f = some ⟨oc, od, .func fd, osl⟩ ∧ fd.name = n ∧ fd.qualname = q ∧ fd.params = pa ∧ fd.body = bd ∧ fd.scope = sc ∧ fd.globals = gl ∧ fd.builtins = bu := by
  unfold fnN at e
  split at e
  · rename_i oc od fd osl ho
    have e2 := Option.some.inj e
    simp only [Prod.mk.injEq] at e2
    obtain ⟨h1, h2, h3, h4, h5, h6, h7⟩ := e2
    exact ⟨_, _, _, _, ho, h1, h2, h3, h4, h5, h6, h7⟩
  · cases e
theorem noDfl_ok {fd : FuncData} (h : noDfl fd = true) : fd.defaults = .none ∧ fd.kwdefaults = .none := by
  unfold noDfl at h
  split at h
  · rename_i a b
    exact ⟨a, b⟩
  · cases h
theorem own_txt {P : Program} {K : PySem.W.Frag} {mg : Str → Option Value} {C B fI fB : Addr} (o : OwnK K C B fI fB P.main.file) (gC : mg "BadCustom" = some (.ref C)) (nsup : mg "super" = none) (tops : (P.main.scope.names.lookup ("super" : Str)).isSome = false) :
    PySem.OwnX.OwnTxt P K mg "BadCustom" "word" C B fI fB where
  fld := ⟨by decide, by decide, by decide, by decide, by decide, by decide⟩
  gC := gC
  cls := clsB_ok (o.at 0)
  sa := He.eqO_ok (o.at 1)
  ga := He.eqO_ok (o.at 2)
  gg := He.eqO_ok (o.at 3)
  noT := He.eqO_ok (o.at 4)
  noF := He.eqO_ok (o.at 5)
  iC := He.eqO_ok (o.at 6)
  tC := of_decide_eq_true (o.at 7)
  sup := He.eqO_ok (o.at 8)
  tB := of_decide_eq_true (o.at 9)
  kC := o.at 10
  exC := of_decide_eq_true (o.at 11)
  tyC := of_decide_eq_true (o.at 12)
  hdC := o.at 13
  te := of_decide_eq_true (o.at 14)
  selfC := of_decide_eq_true (o.at 15)
  opq := He.eqO_ok (o.at 16)
  nsup := nsup
  tops := tops
  fnI := by
    obtain ⟨oc, od, fd, osl, ho, h1, h2, h3, h4, h5, h6, h7⟩ := fn_of o.fi
    have t := o.at 17
    unfold initB at t
    rw [ho] at t
    obtain ⟨t1, ta⟩ := He.ba t
    obtain ⟨t2, tb⟩ := He.ba ta
    obtain ⟨t3, t4⟩ := He.ba tb
    clear t ta tb
    obtain ⟨d1, d2⟩ := noDfl_ok t1
    obtain ⟨n1, n2, n3, n4, n5, n6, n7, n8, n9, n10, n11, n12, n13, n14, n15⟩ := fd
    dsimp only at h1 h2 h3 h4 h5 h6 h7 d1 d2 t2 t3 t4
    subst h1 h2 h3 h4 h5 h6 h7 d1 d2
    split at t3
    · rename_i x cc
      obtain ⟨t5, t6⟩ := He.ba t3
      clear t3
      have ex := of_decide_eq_true t5
      subst ex
      split at t6
      · rename_i cl cld C' csl hcc
        have eC := of_decide_eq_true t6
        subst eC
        split at t4
        · rename_i cda
          split at t4
          · rename_i ccl cdd vs ccs hcda
            split at t4
            · rename_i tt tf hvs
              have et := of_decide_eq_true t4
              subst et
              obtain ⟨p1, p2, a1, a2, a3, a4, a5, a6, q1, q2, q3, q4, w1, w2, w3, w4⟩ := word_text
              refine ⟨_, oc, od, n10, n11, n12, cda, cc, n14, osl, p1, p2, a1, a2, a3, a4, a5, a6, q1, q2, q3, q4, ?_, t2, w4, fun x v => rfl, ⟨ccl, cdd, vs, ccs, tf, hcda, hvs⟩, cl, cld, csl, hcc⟩
              rw [ho, w1, w2, w3]
            · cases t4
          · cases t4
        · cases t4
      · cases t6
    · cases t3
  fnB := by
    obtain ⟨oc, od, fd, osl, ho, h1, h2, h3, h4, h5, h6, h7⟩ := fn_of o.fb
    have t := o.at 18
    unfold baseB at t
    rw [ho] at t
    obtain ⟨t1, t⟩ := He.ba t
    obtain ⟨t2, t3⟩ := He.ba t
    obtain ⟨d1, d2⟩ := noDfl_ok t1
    obtain ⟨n1, n2, n3, n4, n5, n6, n7, n8, n9, n10, n11, n12, n13, n14, n15⟩ := fd
    dsimp only at h1 h2 h3 h4 h5 h6 h7 d1 d2 t2 t3
    subst h1 h2 h3 h4 h5 h6 h7 d1 d2
    obtain rfl : n7 = [] := List.isEmpty_iff.mp t3
    obtain ⟨p1, p2, q1, q2, q3, q4, w1, w2, w3⟩ := base_text
    refine ⟨_, oc, od, n10, n11, n12, n13, n14, osl, p1, p2, q1, q2, q3, q4, ?_, t2, ?_⟩
    · rw [ho, w1, w2, w3]
    · unfold PySem.W.fnIn
      rw [ho]
theorem exc_c {K : PySem.W.Frag} {C B fI fB : Addr} {file : Str} (o : OwnK K C B fI fB file) : ExcC K C :=
  ⟨He.eqO_ok (o.at 2), He.eqO_ok (o.at 3), of_decide_eq_true (o.at 11), o.at 13, He.eqO_ok (o.at 19), He.eqO_ok (o.at 20), of_decide_eq_true (o.at 21), of_decide_eq_true (o.at 22)⟩
theorem kit_1 {K : PySem.W.Frag} {C B fI fB : Addr} {file : Str} (o : OwnK K C B fI fB file) : PySem.W.kitOne K (.ref C) (.ref B) = some true := of_decide_eq_true (o.at 23)
theorem kit_2 {K : PySem.W.Frag} {C B fI fB : Addr} {file : Str} (o : OwnK K C B fI fB file) : PySem.W.kitOne K (.ref C) (.type "ValueError") = some true := of_decide_eq_true (o.at 24)
end Hk
set_option Elab.async false
set_option linter.all false
set_option maxRecDepth 100000
set_option maxHeartbeats 0
namespace Hk
open PySem PySem.Spec PyProof.Rows L2
def dd0 : He.DefD := ⟨("is_whole", none), "is_whole", "is_whole", defArgs (top 8), defBody (top 8), defScope (top 8), [], []⟩
def dd1 : He.DefD := ⟨("is_truth", none), "is_truth", "is_truth", defArgs (top 9), defBody (top 9), defScope (top 9), [], []⟩
def dd2 : He.DefD := ⟨("is_between", none), "is_between", "is_between", defArgs (top 10), defBody (top 10), defScope (top 10), [], []⟩
def dd3 : He.DefD := ⟨("is_number_row", none), "is_number_row", "is_number_row", defArgs (top 11), defBody (top 11), defScope (top 11), [], []⟩
def dd4 : He.DefD := ⟨("need_between", none), "need_between", "need_between", defArgs (top 12), defBody (top 12), defScope (top 12), [], []⟩
def dd5 : He.DefD := ⟨("need_marks", none), "need_marks", "need_marks", defArgs (top 13), defBody (top 13), defScope (top 13), [], []⟩
def dd6 : He.DefD := ⟨("is_truth_row", none), "is_truth_row", "is_truth_row", defArgs (top 16), defBody (top 16), defScope (top 16), [], []⟩
def dd7 : He.DefD := ⟨("is_pair", none), "is_pair", "is_pair", defArgs (top 17), defBody (top 17), defScope (top 17), [], []⟩
def dd8 : He.DefD := ⟨("is_cell", none), "is_cell", "is_cell", defArgs (top 18), defBody (top 18), defScope (top 18), [], []⟩
def dd9 : He.DefD := ⟨("is_read", none), "is_read", "is_read", defArgs (top 19), defBody (top 19), defScope (top 19), [], []⟩
def dd10 : He.DefD := ⟨("is_close_row", none), "is_close_row", "is_close_row", defArgs (top 20), defBody (top 20), defScope (top 20), [], []⟩
def dd11 : He.DefD := ⟨("is_close", none), "is_close", "is_close", defArgs (top 21), defBody (top 21), defScope (top 21), [], []⟩
def dd12 : He.DefD := ⟨("custom_fault", none), "custom_fault", "custom_fault", defArgs (top 22), defBody (top 22), defScope (top 22), [], []⟩
def dd13 : He.DefD := ⟨("need_custom", none), "need_custom", "need_custom", defArgs (top 23), defBody (top 23), defScope (top 23), [], []⟩
def dd14 : He.DefD := ⟨("is_custom", none), "is_custom", "is_custom", defArgs (top 24), defBody (top 24), defScope (top 24), [], []⟩
def dd15 : He.DefD := ⟨("same_marks", none), "same_marks", "same_marks", defArgs (top 25), defBody (top 25), defScope (top 25), [], []⟩
def dd16 : He.DefD := ⟨("renumbered", none), "renumbered", "renumbered", defArgs (top 28), defBody (top 28), defScope (top 28), [], []⟩
def dd17 : He.DefD := ⟨("is_line", none), "is_line", "is_line", defArgs (top 33), defBody (top 33), defScope (top 33), [], []⟩
def dd18 : He.DefD := ⟨("is_row_of_lines", none), "is_row_of_lines", "is_row_of_lines", defArgs (top 34), defBody (top 34), defScope (top 34), [], []⟩
def dd19 : He.DefD := ⟨("wrong_line", none), "wrong_line", "wrong_line", defArgs (top 35), defBody (top 35), defScope (top 35), [], []⟩
def dd20 : He.DefD := ⟨("need_lines", none), "need_lines", "need_lines", defArgs (top 36), defBody (top 36), defScope (top 36), [], []⟩
def dd21 : He.DefD := ⟨("need_family", none), "need_family", "need_family", defArgs (top 37), defBody (top 37), defScope (top 37), [.int 3], []⟩
def dd22 : He.DefD := ⟨("line_sizes", none), "line_sizes", "line_sizes", defArgs (top 38), defBody (top 38), defScope (top 38), [], []⟩
def dd23 : He.DefD := ⟨("Shelf", some "__init__"), "__init__", "Shelf.__init__", defArgs (inClass (top 40) 0), defBody (inClass (top 40) 0), defScope (inClass (top 40) 0), [], []⟩
def dd24 : He.DefD := ⟨("Shelf", some "keep"), "keep", "Shelf.keep", defArgs (inClass (top 40) 1), defBody (inClass (top 40) 1), defScope (inClass (top 40) 1), [], []⟩
def dd25 : He.DefD := ⟨("Shelf", some "keep_family"), "keep_family", "Shelf.keep_family", defArgs (inClass (top 40) 2), defBody (inClass (top 40) 2), defScope (inClass (top 40) 2), [], []⟩
def dd26 : He.DefD := ⟨("Reader", some "__init__"), "__init__", "Reader.__init__", defArgs (inClass (top 42) 0), defBody (inClass (top 42) 0), defScope (inClass (top 42) 0), [], []⟩
def dd27 : He.DefD := ⟨("Reader", some "catch_up"), "catch_up", "Reader.catch_up", defArgs (inClass (top 42) 1), defBody (inClass (top 42) 1), defScope (inClass (top 42) 1), [], []⟩
def dd28 : He.DefD := ⟨("Reader", some "heir_of"), "heir_of", "Reader.heir_of", defArgs (inClass (top 42) 2), defBody (inClass (top 42) 2), defScope (inClass (top 42) 2), [], []⟩
def dd29 : He.DefD := ⟨("behind_row", none), "behind_row", "behind_row", defArgs (top 43), defBody (top 43), defScope (top 43), [], []⟩
def dd30 : He.DefD := ⟨("need_read", none), "need_read", "need_read", defArgs (top 44), defBody (top 44), defScope (top 44), [], []⟩
def dd31 : He.DefD := ⟨("read_lines", none), "read_lines", "read_lines", defArgs (top 45), defBody (top 45), defScope (top 45), [], []⟩
def dd32 : He.DefD := ⟨("read_family", none), "read_family", "read_family", defArgs (top 46), defBody (top 46), defScope (top 46), [], []⟩
def dd33 : He.DefD := ⟨("heir", none), "heir", "heir", defArgs (top 48), defBody (top 48), defScope (top 48), [], []⟩
def dd34 : He.DefD := ⟨("_law_mixed", none), "_law_mixed", "_law_mixed", defArgs (top 50), defBody (top 50), defScope (top 50), [], []⟩
def dd35 : He.DefD := ⟨("_law_folded", none), "_law_folded", "_law_folded", defArgs (top 51), defBody (top 51), defScope (top 51), [], []⟩
def dd36 : He.DefD := ⟨("_law_draw", none), "_law_draw", "_law_draw", defArgs (top 52), defBody (top 52), defScope (top 52), [], []⟩
def dd37 : He.DefD := ⟨("_law_begun", none), "_law_begun", "_law_begun", defArgs (top 53), defBody (top 53), defScope (top 53), [], []⟩
def dd38 : He.DefD := ⟨("_law_like", none), "_law_like", "_law_like", defArgs (top 54), defBody (top 54), defScope (top 54), [], []⟩
def dd39 : He.DefD := ⟨("_law_of", none), "_law_of", "_law_of", defArgs (top 55), defBody (top 55), defScope (top 55), [], []⟩
def dd40 : He.DefD := ⟨("_law_is_int", none), "_law_is_int", "_law_is_int", defArgs (top 56), defBody (top 56), defScope (top 56), [], []⟩
def dd41 : He.DefD := ⟨("_law_custom", none), "_law_custom", "_law_custom", defArgs (top 57), defBody (top 57), defScope (top 57), [], []⟩
def dd42 : He.DefD := ⟨("_law_read_cell", none), "_law_read_cell", "_law_read_cell", defArgs (top 58), defBody (top 58), defScope (top 58), [], []⟩
def dd43 : He.DefD := ⟨("_law_close_cell", none), "_law_close_cell", "_law_close_cell", defArgs (top 59), defBody (top 59), defScope (top 59), [], []⟩
def dd44 : He.DefD := ⟨("_law_are_truths", none), "_law_are_truths", "_law_are_truths", defArgs (top 60), defBody (top 60), defScope (top 60), [], []⟩
def dd45 : He.DefD := ⟨("_law_is_cell", none), "_law_is_cell", "_law_is_cell", defArgs (top 61), defBody (top 61), defScope (top 61), [], []⟩
def dd46 : He.DefD := ⟨("_law_is_rows", none), "_law_is_rows", "_law_is_rows", defArgs (top 62), defBody (top 62), defScope (top 62), [], []⟩
def dd47 : He.DefD := ⟨("_law_is_read", none), "_law_is_read", "_law_is_read", defArgs (top 63), defBody (top 63), defScope (top 63), [], []⟩
def dd48 : He.DefD := ⟨("_law_is_close", none), "_law_is_close", "_law_is_close", defArgs (top 64), defBody (top 64), defScope (top 64), [], []⟩
def dd49 : He.DefD := ⟨("_law_fault", none), "_law_fault", "_law_fault", defArgs (top 65), defBody (top 65), defScope (top 65), [], []⟩
def dd50 : He.DefD := ⟨("_law_spoilt", none), "_law_spoilt", "_law_spoilt", defArgs (top 66), defBody (top 66), defScope (top 66), [], []⟩
def dd51 : He.DefD := ⟨("_law_deeper", none), "_law_deeper", "_law_deeper", defArgs (top 67), defBody (top 67), defScope (top 67), [], []⟩
def dd52 : He.DefD := ⟨("_law_other", none), "_law_other", "_law_other", defArgs (top 68), defBody (top 68), defScope (top 68), [], []⟩
def dd53 : He.DefD := ⟨("_law_word", none), "_law_word", "_law_word", defArgs (top 69), defBody (top 69), defScope (top 69), [], []⟩
def dd54 : He.DefD := ⟨("law", none), "law", "law", defArgs (top 70), defBody (top 70), defScope (top 70), [], []⟩
def fn0 : List He.DefD := [dd0, dd1, dd2, dd3, dd4, dd5, dd6, dd7, dd8, dd9, dd10, dd11]
def fn1 : List He.DefD := [dd12, dd13, dd14, dd15, dd16, dd17, dd18, dd19, dd20, dd21, dd22, dd23]
def fn2 : List He.DefD := [dd24, dd25, dd26, dd27, dd28, dd29, dd30, dd31, dd32, dd33, dd34, dd35]
def fn3 : List He.DefD := [dd36, dd37, dd38, dd39, dd40, dd41, dd42, dd43, dd44, dd45, dd46, dd47]
def fn4 : List He.DefD := [dd48, dd49, dd50, dd51, dd52, dd53, dd54]
def fnL : List He.DefD := fn0 ++ fn1 ++ fn2 ++ fn3 ++ fn4
def fa0 : List He.Fa := [.glo "is_whole", .glo "is_truth", .glo "is_between", .glo "is_number_row", .glo "need_between", .glo "need_marks", .glo "is_truth_row", .glo "is_pair", .glo "is_cell", .glo "is_read", .glo "is_close_row", .glo "is_close"]
def fa1 : List He.Fa := [.glo "custom_fault", .glo "need_custom", .glo "is_custom", .glo "same_marks", .glo "renumbered", .glo "is_line", .glo "is_row_of_lines", .glo "wrong_line", .glo "need_lines", .glo "need_family", .glo "line_sizes", .glo "behind_row"]
def fa2 : List He.Fa := [.glo "need_read", .glo "read_lines", .glo "read_family", .glo "heir", .glo "_law_mixed", .glo "_law_folded", .glo "_law_draw", .glo "_law_begun", .glo "_law_like", .glo "_law_of", .glo "_law_is_int", .glo "_law_custom"]
def fa3 : List He.Fa := [.glo "_law_read_cell", .glo "_law_close_cell", .glo "_law_are_truths", .glo "_law_is_cell", .glo "_law_is_rows", .glo "_law_is_read", .glo "_law_is_close", .glo "_law_fault", .glo "_law_spoilt", .glo "_law_deeper", .glo "_law_other", .glo "_law_word"]
def fa4 : List He.Fa := [.glo "law", .glo "Shelf", .glo "Reader", .glo "BadCustom", .glo "HeirError", .free "int", .free "len", .free "range", .free "enumerate", .free "isinstance", .free "all", .free "sum"]
def fa5 : List He.Fa := [.free "repr", .free "tuple", .free "list", .free "str", .free "bool", .free "ValueError", .free "super", .int "MOST_STATES" 8, .int "MOST_CHILDREN" 600, .int "MOST_LINES" 2000, .int "MOST_MEMBERS" (10 ^ 60), .cls "Shelf"]
def fa6 : List He.Fa := [.cls "Reader", .mkr "Shelf", .mkr "Reader", .noat "Shelf" "lines", .noat "Shelf" "numbers", .noat "Reader" "read", .noat "Reader" "close", .noat "Reader" "shelf", .noat "Reader" "ranks", .noat "Reader" "picks", .noat "Reader" "held", .meth "Reader" "catch_up"]
def fa7 : List He.Fa := [.meth "Reader" "heir_of", .meth "Shelf" "keep", .meth "Shelf" "keep_family"]
def faL : List He.Fa := fa0 ++ fa1 ++ fa2 ++ fa3 ++ fa4 ++ fa5 ++ fa6 ++ fa7
abbrev RR : PySem.W.OpenRow := PySem.W.OpenLaw.row PySem.Challenge.rw_heirlines_k15_whole_customs_judged
abbrev AlZ : Type := He.AlD × Bool × FnN × FnN
def obsK (K : PySem.W.Frag) : AlZ :=
  (He.obsD faL fnL K, (testL K (He.ga K "BadCustom") (He.ga K "HeirError") (He.ma K (He.ga K "BadCustom") "__init__") (He.ma K (He.ga K "HeirError") "__init__") PySem.Challenge.pw_heirlines_k15_whole_customs_judged.main.file).all id,
    fnN K (He.ma K (He.ga K "BadCustom") "__init__"), fnN K (He.ma K (He.ga K "HeirError") "__init__"))
def valZ : AlZ := (He.valD fnL, true, valI, valB)
/-- what the end leans on: no empty table is looked at -/
def SaysZ (K : PySem.W.Frag) : Prop := obsK K = valZ ∧ ∀ a o, K.lookup a = some o → emptyTab o = false
def hk1 : PySem.W.Hook where
  α := AlZ
  obs := fun s => obsK (fragZ 5 s.heap.get?)
  val := fun _ => valZ
  says := fun _ h => ∃ K : PySem.W.Frag, K.In h ∧ SaysZ K
  of := fun _ _ e => ⟨_, fun _ _ q => (fragZ_at q).1, e, fun _ _ q => (fragZ_at q).2⟩
  keeps := fun _ _ _ ⟨K, hK, c⟩ k => ⟨K, PySem.W.Frag.In.keeps hK k, c⟩
def ob1 (s : PySem.W.SharedT) : AlZ := obsK (fragZ 5 (HandSHeadRun.getT s))
theorem ob1_eq (s : PySem.W.SharedT) : ob1 s = hk1.obs s.abs := by
  have e : HandSHeadRun.getT s = s.abs.heap.get? := funext (HandSHeadRun.getT_eq s)
  unfold ob1
  rw [e] <;> rfl
def loose0 : List PySem.Str := ["_wall", "HeirError", "BadFamily", "BadCustom", "BadMarks", "BadNumber", "is_whole", "is_truth", "is_between", "is_number_row", "need_between", "need_marks"]
def loose1 : List PySem.Str := ["MOST_STATES", "is_truth_row", "is_pair", "is_cell", "is_read", "is_close_row", "is_close", "custom_fault", "need_custom", "is_custom", "same_marks", "is_turn"]
def loose2 : List PySem.Str := ["turned", "renumbered", "MOST_LINES", "MOST_CHILDREN", "MOST_MEMBERS", "is_line", "is_row_of_lines", "wrong_line", "need_lines", "need_family", "line_sizes", "Shelf"]
def loose3 : List PySem.Str := ["Reader", "behind_row", "need_read", "read_lines", "read_family", "heir", "_law_mixed", "_law_folded", "_law_draw", "_law_begun", "_law_like", "_law_of"]
def loose4 : List PySem.Str := ["_law_is_int", "_law_custom", "_law_read_cell", "_law_close_cell", "_law_are_truths", "_law_is_cell", "_law_is_rows", "_law_is_read", "_law_is_close", "_law_fault", "_law_spoilt", "_law_deeper"]
def loose5 : List PySem.Str := ["_law_other", "_law_word"]
def loose : List PySem.Str := loose0 ++ loose1 ++ loose2 ++ loose3 ++ loose4 ++ loose5
theorem run1 (w : World) : HandSHeadRun.RunEq RR (PySem.W.view RR.prog [70]) hk1 ob1 8000 loose w := by
  intro os
  kernel_rfl
end Hk
set_option Elab.async false
set_option linter.all false
set_option maxRecDepth 100000
set_option maxHeartbeats 4000000
namespace Hk
open PySem PySem.Spec PyProof.Rows L2
abbrev PW : Program := PySem.Challenge.pw_heirlines_k15_whole_customs_judged
abbrev zC (K : PySem.W.Frag) : Addr := He.ga K "BadCustom"
abbrev zB (K : PySem.W.Frag) : Addr := He.ga K "HeirError"
abbrev zI (K : PySem.W.Frag) : Addr := He.ma K (He.ga K "BadCustom") "__init__"
abbrev zF (K : PySem.W.Frag) : Addr := He.ma K (He.ga K "HeirError") "__init__"
abbrev zS (K : PySem.W.Frag) : Addr := He.ga K "Shelf"
abbrev zR (K : PySem.W.Frag) : Addr := He.ga K "Reader"
theorem at_fun {K : PySem.W.Frag} {x q : Str} {st : Stmt} {f : Addr} {fd : FuncData} (F : FunD K x q (defArgs st) (defBody st) (defScope st) [] [] f fd) : Fun K x q st f fd := by
  have kp := F.kp
  obtain ⟨oc, od, dV, kV, doc, pm, an, cdv, ct, osl, rfl, lk, hcd, hD, _⟩ := F.ex
  rcases hD with ⟨_, rfl⟩ | ⟨e, _⟩
  · exact ⟨⟨oc, od, kV, doc, pm, an, cdv, ct, osl, rfl, lk, hcd⟩, kp⟩
  · exact absurd rfl e
section
variable {K : PySem.W.Frag} {h : Heap} {mg : Str → Option Value}
theorem says_d (c : SaysZ K) : He.SaysD faL fnL K := congrArg (fun z : AlZ => z.1) c.1
theorem own_k (c : SaysZ K) : OwnK K (zC K) (zB K) (zI K) (zF K) PW.main.file :=
  ⟨congrArg (fun z : AlZ => z.2.1) c.1, congrArg (fun z : AlZ => z.2.2.1) c.1, congrArg (fun z : AlZ => z.2.2.2) c.1⟩
theorem no_super : (PW.main.scope.names.lookup ("super" : Str)).isSome = false := by decide +kernel

theorem txt (X : K.In h) (G : h.Ns mainGlobals mg) (c : SaysZ K) : Txt K mg :=
  ⟨He.free_ok X G ((says_d c).fact 53 (f := .free "int") rfl), He.free_ok X G ((says_d c).fact 54 (f := .free "len") rfl), He.free_ok X G ((says_d c).fact 55 (f := .free "range") rfl), He.free_ok X G ((says_d c).fact 56 (f := .free "enumerate") rfl), He.free_ok X G ((says_d c).fact 57 (f := .free "isinstance") rfl), He.free_ok X G ((says_d c).fact 58 (f := .free "all") rfl), He.free_ok X G ((says_d c).fact 59 (f := .free "sum") rfl), He.free_ok X G ((says_d c).fact 60 (f := .free "repr") rfl), He.free_ok X G ((says_d c).fact 61 (f := .free "tuple") rfl), He.free_ok X G ((says_d c).fact 62 (f := .free "list") rfl), He.free_ok X G ((says_d c).fact 63 (f := .free "str") rfl), He.free_ok X G ((says_d c).fact 64 (f := .free "bool") rfl)⟩
theorem own_t (X : K.In h) (G : h.Ns mainGlobals mg) (c : SaysZ K) : PySem.OwnX.OwnTxt PW K mg "BadCustom" "word" (zC K) (zB K) (zI K) (zF K) :=
  own_txt (own_k c) (He.glo_ok X G ((says_d c).fact 51 (f := .glo "BadCustom") rfl)) (He.free_ok X G ((says_d c).fact 66 (f := .free "super") rfl)) no_super
theorem cl2 (c : SaysZ K) : Cl2 K (zS K) (zR K) :=
  ⟨He.cls_ok ((says_d c).fact 71 (f := .cls "Shelf") rfl), He.cls_ok ((says_d c).fact 72 (f := .cls "Reader") rfl), He.noat_ok ((says_d c).fact 75 (f := .noat "Shelf" "lines") rfl), He.noat_ok ((says_d c).fact 76 (f := .noat "Shelf" "numbers") rfl), He.noat_ok ((says_d c).fact 77 (f := .noat "Reader" "read") rfl), He.noat_ok ((says_d c).fact 78 (f := .noat "Reader" "close") rfl), He.noat_ok ((says_d c).fact 79 (f := .noat "Reader" "shelf") rfl), He.noat_ok ((says_d c).fact 80 (f := .noat "Reader" "ranks") rfl), He.noat_ok ((says_d c).fact 81 (f := .noat "Reader" "picks") rfl), He.noat_ok ((says_d c).fact 82 (f := .noat "Reader" "held") rfl)⟩
theorem at_is_whole (X : K.In h) (G : h.Ns mainGlobals mg) (c : SaysZ K) : At K mg "is_whole" s_is_whole ["value"] := by
  obtain ⟨fd, F⟩ := (says_d c).def_ 0 (d := dd0) rfl
  exact ⟨_, fd, at_fun F, He.glo_ok X G ((says_d c).fact 0 (f := .glo "is_whole") rfl), FunD.bindsN F fun _ _ _ _ _ _ us hl => match us, hl with | [_], _ => rfl⟩
theorem kk_is_whole (X : K.In h) (G : h.Ns mainGlobals mg) (c : SaysZ K) {w : World} (base : Heap) : Kn PW w K mg base 1 "is_whole" ["value"] (spD1 isWh) := ok_is_whole (txt X G c) (at_is_whole X G c)
theorem at_is_truth (X : K.In h) (G : h.Ns mainGlobals mg) (c : SaysZ K) : At K mg "is_truth" s_is_truth ["value"] := by
  obtain ⟨fd, F⟩ := (says_d c).def_ 1 (d := dd1) rfl
  exact ⟨_, fd, at_fun F, He.glo_ok X G ((says_d c).fact 1 (f := .glo "is_truth") rfl), FunD.bindsN F fun _ _ _ _ _ _ us hl => match us, hl with | [_], _ => rfl⟩
theorem kk_is_truth (X : K.In h) (G : h.Ns mainGlobals mg) (c : SaysZ K) {w : World} (base : Heap) : Kn PW w K mg base 1 "is_truth" ["value"] (spD1 isB) := ok_is_truth (txt X G c) (at_is_truth X G c)
theorem at_is_between (X : K.In h) (G : h.Ns mainGlobals mg) (c : SaysZ K) : At K mg "is_between" s_is_between ["value", "low", "high"] := by
  obtain ⟨fd, F⟩ := (says_d c).def_ 2 (d := dd2) rfl
  exact ⟨_, fd, at_fun F, He.glo_ok X G ((says_d c).fact 2 (f := .glo "is_between") rfl), FunD.bindsN F fun _ _ _ _ _ _ us hl => match us, hl with | [_, _, _], _ => rfl⟩
theorem kk_is_between (X : K.In h) (G : h.Ns mainGlobals mg) (c : SaysZ K) {w : World} (base : Heap) : Kn PW w K mg base 2 "is_between" ["value", "low", "high"] (spD1I isBt) := ok_is_between (txt X G c) (kk_is_whole X G c base) (at_is_between X G c)
theorem at_is_truth_row (X : K.In h) (G : h.Ns mainGlobals mg) (c : SaysZ K) : At K mg "is_truth_row" s_is_truth_row ["value"] := by
  obtain ⟨fd, F⟩ := (says_d c).def_ 6 (d := dd6) rfl
  exact ⟨_, fd, at_fun F, He.glo_ok X G ((says_d c).fact 6 (f := .glo "is_truth_row") rfl), FunD.bindsN F fun _ _ _ _ _ _ us hl => match us, hl with | [_], _ => rfl⟩
theorem kk_is_truth_row (X : K.In h) (G : h.Ns mainGlobals mg) (c : SaysZ K) {w : World} (base : Heap) : Kn PW w K mg base 2 "is_truth_row" ["value"] (spD1 isTRow) := ok_is_truth_row (txt X G c) (He.int_ok X G ((says_d c).fact 67 (f := .int "MOST_STATES" 8) rfl)) (kk_is_truth X G c base) (at_is_truth_row X G c)
theorem at_is_pair (X : K.In h) (G : h.Ns mainGlobals mg) (c : SaysZ K) : At K mg "is_pair" s_is_pair ["value"] := by
  obtain ⟨fd, F⟩ := (says_d c).def_ 7 (d := dd7) rfl
  exact ⟨_, fd, at_fun F, He.glo_ok X G ((says_d c).fact 7 (f := .glo "is_pair") rfl), FunD.bindsN F fun _ _ _ _ _ _ us hl => match us, hl with | [_], _ => rfl⟩
theorem kk_is_pair (X : K.In h) (G : h.Ns mainGlobals mg) (c : SaysZ K) {w : World} (base : Heap) : Kn PW w K mg base 1 "is_pair" ["value"] (spD1 isPair) := ok_is_pair (txt X G c) (at_is_pair X G c)
theorem at_is_cell (X : K.In h) (G : h.Ns mainGlobals mg) (c : SaysZ K) : At K mg "is_cell" s_is_cell ["value", "holds", "words"] := by
  obtain ⟨fd, F⟩ := (says_d c).def_ 8 (d := dd8) rfl
  exact ⟨_, fd, at_fun F, He.glo_ok X G ((says_d c).fact 8 (f := .glo "is_cell") rfl), FunD.bindsN F fun _ _ _ _ _ _ us hl => match us, hl with | [_, _, _], _ => rfl⟩
theorem kk_is_cell (X : K.In h) (G : h.Ns mainGlobals mg) (c : SaysZ K) {w : World} (base : Heap) : Kn PW w K mg base 3 "is_cell" ["value", "holds", "words"] spCell := ok_is_cell (txt X G c) (kk_is_pair X G c base) (kk_is_between X G c base) (at_is_cell X G c)
theorem at_is_read (X : K.In h) (G : h.Ns mainGlobals mg) (c : SaysZ K) : At K mg "is_read" s_is_read ["value", "stands", "ranks"] := by
  obtain ⟨fd, F⟩ := (says_d c).def_ 9 (d := dd9) rfl
  exact ⟨_, fd, at_fun F, He.glo_ok X G ((says_d c).fact 9 (f := .glo "is_read") rfl), FunD.bindsN F fun _ _ _ _ _ _ us hl => match us, hl with | [_, _, _], _ => rfl⟩
theorem kk_is_read (X : K.In h) (G : h.Ns mainGlobals mg) (c : SaysZ K) {w : World} (base : Heap) : Kn PW w K mg base 4 "is_read" ["value", "stands", "ranks"] spRead := ok_is_read (txt X G c) (kk_is_cell X G c base) (at_is_read X G c)
theorem at_is_close_row (X : K.In h) (G : h.Ns mainGlobals mg) (c : SaysZ K) : At K mg "is_close_row" s_is_close_row ["value", "stands", "ranks", "own"] := by
  obtain ⟨fd, F⟩ := (says_d c).def_ 10 (d := dd10) rfl
  exact ⟨_, fd, at_fun F, He.glo_ok X G ((says_d c).fact 10 (f := .glo "is_close_row") rfl), FunD.bindsN F fun _ _ _ _ _ _ us hl => match us, hl with | [_, _, _, _], _ => rfl⟩
theorem kk_is_close_row (X : K.In h) (G : h.Ns mainGlobals mg) (c : SaysZ K) {w : World} (base : Heap) : Kn PW w K mg base 4 "is_close_row" ["value", "stands", "ranks", "own"] spCloseRow := ok_is_close_row (txt X G c) (kk_is_cell X G c base) (at_is_close_row X G c)
theorem at_is_close (X : K.In h) (G : h.Ns mainGlobals mg) (c : SaysZ K) : At K mg "is_close" s_is_close ["value", "marks", "stands", "ranks"] := by
  obtain ⟨fd, F⟩ := (says_d c).def_ 11 (d := dd11) rfl
  exact ⟨_, fd, at_fun F, He.glo_ok X G ((says_d c).fact 11 (f := .glo "is_close") rfl), FunD.bindsN F fun _ _ _ _ _ _ us hl => match us, hl with | [_, _, _, _], _ => rfl⟩
theorem kk_is_close (X : K.In h) (G : h.Ns mainGlobals mg) (c : SaysZ K) {w : World} (base : Heap) : Kn PW w K mg base 5 "is_close" ["value", "marks", "stands", "ranks"] spClose := ok_is_close (txt X G c) (kk_is_pair X G c base) (kk_is_close_row X G c base) (at_is_close X G c)
theorem at_custom_fault (X : K.In h) (G : h.Ns mainGlobals mg) (c : SaysZ K) : At K mg "custom_fault" s_custom_fault ["value"] := by
  obtain ⟨fd, F⟩ := (says_d c).def_ 12 (d := dd12) rfl
  exact ⟨_, fd, at_fun F, He.glo_ok X G ((says_d c).fact 12 (f := .glo "custom_fault") rfl), FunD.bindsN F fun _ _ _ _ _ _ us hl => match us, hl with | [_], _ => rfl⟩
theorem kk_custom_fault (X : K.In h) (G : h.Ns mainGlobals mg) (c : SaysZ K) {w : World} (base : Heap) : Kn PW w K mg base 6 "custom_fault" ["value"] spFault := ok_custom_fault (txt X G c) (kk_is_between X G c base) (kk_is_truth_row X G c base) (kk_is_read X G c base) (kk_is_close X G c base) (at_custom_fault X G c)
theorem at_need_custom (X : K.In h) (G : h.Ns mainGlobals mg) (c : SaysZ K) : At K mg "need_custom" s_need_custom ["custom"] := by
  obtain ⟨fd, F⟩ := (says_d c).def_ 13 (d := dd13) rfl
  exact ⟨_, fd, at_fun F, He.glo_ok X G ((says_d c).fact 13 (f := .glo "need_custom") rfl), FunD.bindsN F fun _ _ _ _ _ _ us hl => match us, hl with | [_], _ => rfl⟩
theorem kk_need_custom (X : K.In h) (G : h.Ns mainGlobals mg) (c : SaysZ K) {w : World} (base : Heap) : Kn PW w K mg base 7 "need_custom" ["custom"] (spNeed (zC K)) := ok_need_custom (own_t X G c) (kk_custom_fault X G c base) (at_need_custom X G c)
theorem at_is_custom (X : K.In h) (G : h.Ns mainGlobals mg) (c : SaysZ K) : At K mg "is_custom" s_is_custom ["value"] := by
  obtain ⟨fd, F⟩ := (says_d c).def_ 14 (d := dd14) rfl
  exact ⟨_, fd, at_fun F, He.glo_ok X G ((says_d c).fact 14 (f := .glo "is_custom") rfl), FunD.bindsN F fun _ _ _ _ _ _ us hl => match us, hl with | [_], _ => rfl⟩
theorem kk_is_custom (X : K.In h) (G : h.Ns mainGlobals mg) (c : SaysZ K) {w : World} (base : Heap) : Kn PW w K mg base 7 "is_custom" ["value"] spIsC := ok_is_custom (kk_custom_fault X G c base) (at_is_custom X G c)
theorem at_same_marks (X : K.In h) (G : h.Ns mainGlobals mg) (c : SaysZ K) : At K mg "same_marks" s_same_marks ["custom", "other"] := by
  obtain ⟨fd, F⟩ := (says_d c).def_ 15 (d := dd15) rfl
  exact ⟨_, fd, at_fun F, He.glo_ok X G ((says_d c).fact 15 (f := .glo "same_marks") rfl), FunD.bindsN F fun _ _ _ _ _ _ us hl => match us, hl with | [_, _], _ => rfl⟩
theorem kk_same_marks (X : K.In h) (G : h.Ns mainGlobals mg) (c : SaysZ K) {w : World} (base : Heap) : Kn PW w K mg base 8 "same_marks" ["custom", "other"] (spSame (zC K)) := ok_same_marks (kk_need_custom X G c base) (at_same_marks X G c)
theorem at_renumbered (X : K.In h) (G : h.Ns mainGlobals mg) (c : SaysZ K) : At K mg "renumbered" s_renumbered ["custom", "stands", "ranks"] := by
  obtain ⟨fd, F⟩ := (says_d c).def_ 16 (d := dd16) rfl
  exact ⟨_, fd, at_fun F, He.glo_ok X G ((says_d c).fact 16 (f := .glo "renumbered") rfl), FunD.bindsN F fun _ _ _ _ _ _ us hl => match us, hl with | [_, _, _], _ => rfl⟩
theorem kk_renumbered (X : K.In h) (G : h.Ns mainGlobals mg) (c : SaysZ K) {w : World} (base : Heap) : Kn PW w K mg base 8 "renumbered" ["custom", "stands", "ranks"] (spRenum (zC K)) := ok_renumbered (kk_need_custom X G c base) (at_renumbered X G c)
theorem at_L_law_is_int (X : K.In h) (G : h.Ns mainGlobals mg) (c : SaysZ K) : At K mg "_law_is_int" s_law_is_int ["thing", "low", "high"] := by
  obtain ⟨fd, F⟩ := (says_d c).def_ 40 (d := dd40) rfl
  exact ⟨_, fd, at_fun F, He.glo_ok X G ((says_d c).fact 34 (f := .glo "_law_is_int") rfl), FunD.bindsN F fun _ _ _ _ _ _ us hl => match us, hl with | [_, _, _], _ => rfl⟩
theorem kk_law_is_int (X : K.In h) (G : h.Ns mainGlobals mg) (c : SaysZ K) {w : World} (base : Heap) : Kn PW w K mg base 1 "_law_is_int" ["thing", "low", "high"] (spD1I isBt) := ok_law_is_int (txt X G c) (at_L_law_is_int X G c)
theorem at_L_law_are_truths (X : K.In h) (G : h.Ns mainGlobals mg) (c : SaysZ K) : At K mg "_law_are_truths" s_law_are_truths ["some"] := by
  obtain ⟨fd, F⟩ := (says_d c).def_ 44 (d := dd44) rfl
  exact ⟨_, fd, at_fun F, He.glo_ok X G ((says_d c).fact 38 (f := .glo "_law_are_truths") rfl), FunD.bindsN F fun _ _ _ _ _ _ us hl => match us, hl with | [_], _ => rfl⟩
theorem kk_law_are_truths (X : K.In h) (G : h.Ns mainGlobals mg) (c : SaysZ K) {w : World} (base : Heap) : Kn PW w K mg base 1 "_law_are_truths" ["some"] (spD1 isTRow) := ok_law_are_truths (txt X G c) (at_L_law_are_truths X G c)
theorem at_L_law_is_cell (X : K.In h) (G : h.Ns mainGlobals mg) (c : SaysZ K) : At K mg "_law_is_cell" s_law_is_cell ["cell", "truths", "choices"] := by
  obtain ⟨fd, F⟩ := (says_d c).def_ 45 (d := dd45) rfl
  exact ⟨_, fd, at_fun F, He.glo_ok X G ((says_d c).fact 39 (f := .glo "_law_is_cell") rfl), FunD.bindsN F fun _ _ _ _ _ _ us hl => match us, hl with | [_, _, _], _ => rfl⟩
theorem kk_law_is_cell (X : K.In h) (G : h.Ns mainGlobals mg) (c : SaysZ K) {w : World} (base : Heap) : Kn PW w K mg base 2 "_law_is_cell" ["cell", "truths", "choices"] spLCell := ok_law_is_cell (txt X G c) (kk_law_is_int X G c base) (at_L_law_is_cell X G c)
theorem at_L_law_is_rows (X : K.In h) (G : h.Ns mainGlobals mg) (c : SaysZ K) : At K mg "_law_is_rows" s_law_is_rows ["some", "many", "width"] := by
  obtain ⟨fd, F⟩ := (says_d c).def_ 46 (d := dd46) rfl
  exact ⟨_, fd, at_fun F, He.glo_ok X G ((says_d c).fact 40 (f := .glo "_law_is_rows") rfl), FunD.bindsN F fun _ _ _ _ _ _ us hl => match us, hl with | [_, _, _], _ => rfl⟩
theorem kk_law_is_rows (X : K.In h) (G : h.Ns mainGlobals mg) (c : SaysZ K) {w : World} (base : Heap) : Kn PW w K mg base 1 "_law_is_rows" ["some", "many", "width"] spRows := ok_law_is_rows (txt X G c) (at_L_law_is_rows X G c)
theorem at_L_law_is_read (X : K.In h) (G : h.Ns mainGlobals mg) (c : SaysZ K) : At K mg "_law_is_read" s_law_is_read ["stands_so", "ranks_so", "read_so"] := by
  obtain ⟨fd, F⟩ := (says_d c).def_ 47 (d := dd47) rfl
  exact ⟨_, fd, at_fun F, He.glo_ok X G ((says_d c).fact 41 (f := .glo "_law_is_read") rfl), FunD.bindsN F fun _ _ _ _ _ _ us hl => match us, hl with | [_, _, _], _ => rfl⟩
theorem kk_law_is_read (X : K.In h) (G : h.Ns mainGlobals mg) (c : SaysZ K) {w : World} (base : Heap) : Kn PW w K mg base 3 "_law_is_read" ["stands_so", "ranks_so", "read_so"] spLRead := ok_law_is_read (txt X G c) (kk_law_is_rows X G c base) (kk_law_is_cell X G c base) (at_L_law_is_read X G c)
theorem at_L_law_is_close (X : K.In h) (G : h.Ns mainGlobals mg) (c : SaysZ K) : At K mg "_law_is_close" s_law_is_close ["marks", "stands_so", "ranks_so", "close_so"] := by
  obtain ⟨fd, F⟩ := (says_d c).def_ 48 (d := dd48) rfl
  exact ⟨_, fd, at_fun F, He.glo_ok X G ((says_d c).fact 42 (f := .glo "_law_is_close") rfl), FunD.bindsN F fun _ _ _ _ _ _ us hl => match us, hl with | [_, _, _, _], _ => rfl⟩
theorem kk_law_is_close (X : K.In h) (G : h.Ns mainGlobals mg) (c : SaysZ K) {w : World} (base : Heap) : Kn PW w K mg base 3 "_law_is_close" ["marks", "stands_so", "ranks_so", "close_so"] spLClose := ok_law_is_close (txt X G c) (kk_law_is_rows X G c base) (kk_law_is_cell X G c base) (at_L_law_is_close X G c)
theorem at_L_law_fault (X : K.In h) (G : h.Ns mainGlobals mg) (c : SaysZ K) : At K mg "_law_fault" s_law_fault ["some"] := by
  obtain ⟨fd, F⟩ := (says_d c).def_ 49 (d := dd49) rfl
  exact ⟨_, fd, at_fun F, He.glo_ok X G ((says_d c).fact 43 (f := .glo "_law_fault") rfl), FunD.bindsN F fun _ _ _ _ _ _ us hl => match us, hl with | [_], _ => rfl⟩
theorem kk_law_fault (X : K.In h) (G : h.Ns mainGlobals mg) (c : SaysZ K) {w : World} (base : Heap) : Kn PW w K mg base 4 "_law_fault" ["some"] spFault := ok_law_fault (txt X G c) (kk_law_is_int X G c base) (kk_law_are_truths X G c base) (kk_law_is_read X G c base) (kk_law_is_close X G c base) (at_L_law_fault X G c)
theorem at_L_law_mixed (X : K.In h) (G : h.Ns mainGlobals mg) (c : SaysZ K) : At K mg "_law_mixed" s_law_mixed ["cell", "n"] := by
  obtain ⟨fd, F⟩ := (says_d c).def_ 34 (d := dd34) rfl
  exact ⟨_, fd, at_fun F, He.glo_ok X G ((says_d c).fact 28 (f := .glo "_law_mixed") rfl), FunD.bindsN F fun _ _ _ _ _ _ us hl => match us, hl with | [_, _], _ => rfl⟩
theorem kk_mixed (X : K.In h) (G : h.Ns mainGlobals mg) (c : SaysZ K) {w : World} (base : Heap) : Kn PW w K mg base 1 "_law_mixed" ["cell", "n"] sp_mixed := ok_mixed (txt X G c) (at_L_law_mixed X G c)
theorem at_L_law_draw (X : K.In h) (G : h.Ns mainGlobals mg) (c : SaysZ K) : At K mg "_law_draw" s_law_draw ["m", "limit"] := by
  obtain ⟨fd, F⟩ := (says_d c).def_ 36 (d := dd36) rfl
  exact ⟨_, fd, at_fun F, He.glo_ok X G ((says_d c).fact 30 (f := .glo "_law_draw") rfl), FunD.bindsN F fun _ _ _ _ _ _ us hl => match us, hl with | [_, _], _ => rfl⟩
theorem kk_draw (X : K.In h) (G : h.Ns mainGlobals mg) (c : SaysZ K) {w : World} (base : Heap) : Kn PW w K mg base 2 "_law_draw" ["m", "limit"] sp_draw := ok_draw (txt X G c) (kk_mixed X G c base) (at_L_law_draw X G c)
theorem at_L_law_folded (X : K.In h) (G : h.Ns mainGlobals mg) (c : SaysZ K) : At K mg "_law_folded" s_law_folded ["script"] := by
  obtain ⟨fd, F⟩ := (says_d c).def_ 35 (d := dd35) rfl
  exact ⟨_, fd, at_fun F, He.glo_ok X G ((says_d c).fact 29 (f := .glo "_law_folded") rfl), FunD.bindsN F fun _ _ _ _ _ _ us hl => match us, hl with | [_], _ => rfl⟩
theorem kk_law_folded (X : K.In h) (G : h.Ns mainGlobals mg) (c : SaysZ K) {w : World} (base : Heap) : Kn PW w K mg base 1 "_law_folded" ["script"] (spFolded K) := ok_law_folded (txt X G c) (at_L_law_folded X G c)
theorem at_L_law_begun (X : K.In h) (G : h.Ns mainGlobals mg) (c : SaysZ K) : At K mg "_law_begun" s_law_begun ["script"] := by
  obtain ⟨fd, F⟩ := (says_d c).def_ 37 (d := dd37) rfl
  exact ⟨_, fd, at_fun F, He.glo_ok X G ((says_d c).fact 31 (f := .glo "_law_begun") rfl), FunD.bindsN F fun _ _ _ _ _ _ us hl => match us, hl with | [_], _ => rfl⟩
theorem kk_law_begun (X : K.In h) (G : h.Ns mainGlobals mg) (c : SaysZ K) {w : World} (base : Heap) : Kn PW w K mg base 2 "_law_begun" ["script"] (spBegun K) := ok_law_begun (txt X G c) (kk_law_folded X G c base) (at_L_law_begun X G c)
theorem at_L_law_of (X : K.In h) (G : h.Ns mainGlobals mg) (c : SaysZ K) : At K mg "_law_of" s_law_of ["m", "some"] := by
  obtain ⟨fd, F⟩ := (says_d c).def_ 39 (d := dd39) rfl
  exact ⟨_, fd, at_fun F, He.glo_ok X G ((says_d c).fact 33 (f := .glo "_law_of") rfl), FunD.bindsN F fun _ _ _ _ _ _ us hl => match us, hl with | [_, _], _ => rfl⟩
theorem kk_law_of (X : K.In h) (G : h.Ns mainGlobals mg) (c : SaysZ K) {w : World} (base : Heap) : Kn PW w K mg base 3 "_law_of" ["m", "some"] spOf := ok_law_of (txt X G c) (kk_draw X G c base) (at_L_law_of X G c)
theorem at_L_law_read_cell (X : K.In h) (G : h.Ns mainGlobals mg) (c : SaysZ K) : At K mg "_law_read_cell" s_law_read_cell ["m", "stands_so", "stand", "truth"] := by
  obtain ⟨fd, F⟩ := (says_d c).def_ 42 (d := dd42) rfl
  exact ⟨_, fd, at_fun F, He.glo_ok X G ((says_d c).fact 36 (f := .glo "_law_read_cell") rfl), FunD.bindsN F fun _ _ _ _ _ _ us hl => match us, hl with | [_, _, _, _], _ => rfl⟩
theorem kk_law_read_cell (X : K.In h) (G : h.Ns mainGlobals mg) (c : SaysZ K) {w : World} (base : Heap) : Kn PW w K mg base 4 "_law_read_cell" ["m", "stands_so", "stand", "truth"] spReadCell := ok_law_read_cell (txt X G c) (kk_draw X G c base) (kk_law_of X G c base) (at_L_law_read_cell X G c)
theorem at_L_law_close_cell (X : K.In h) (G : h.Ns mainGlobals mg) (c : SaysZ K) : At K mg "_law_close_cell" s_law_close_cell ["m", "ranks_so", "truth", "is_alive"] := by
  obtain ⟨fd, F⟩ := (says_d c).def_ 43 (d := dd43) rfl
  exact ⟨_, fd, at_fun F, He.glo_ok X G ((says_d c).fact 37 (f := .glo "_law_close_cell") rfl), FunD.bindsN F fun _ _ _ _ _ _ us hl => match us, hl with | [_, _, _, _], _ => rfl⟩
theorem kk_law_close_cell (X : K.In h) (G : h.Ns mainGlobals mg) (c : SaysZ K) {w : World} (base : Heap) : Kn PW w K mg base 4 "_law_close_cell" ["m", "ranks_so", "truth", "is_alive"] spCloseCell := ok_law_close_cell (txt X G c) (kk_draw X G c base) (kk_law_of X G c base) (at_L_law_close_cell X G c)
theorem at_L_law_custom (X : K.In h) (G : h.Ns mainGlobals mg) (c : SaysZ K) : At K mg "_law_custom" s_law_custom ["m", "marks"] := by
  obtain ⟨fd, F⟩ := (says_d c).def_ 41 (d := dd41) rfl
  exact ⟨_, fd, at_fun F, He.glo_ok X G ((says_d c).fact 35 (f := .glo "_law_custom") rfl), FunD.bindsN F fun _ _ _ _ _ _ us hl => match us, hl with | [_, _], _ => rfl⟩
theorem kk_law_custom (X : K.In h) (G : h.Ns mainGlobals mg) (c : SaysZ K) {w : World} (base : Heap) : Kn PW w K mg base 5 "_law_custom" ["m", "marks"] spCustom := ok_law_custom (txt X G c) (kk_draw X G c base) (kk_law_read_cell X G c base) (kk_law_close_cell X G c base) (at_L_law_custom X G c)
theorem at_L_law_other (X : K.In h) (G : h.Ns mainGlobals mg) (c : SaysZ K) : At K mg "_law_other" s_law_other ["m", "thing"] := by
  obtain ⟨fd, F⟩ := (says_d c).def_ 52 (d := dd52) rfl
  exact ⟨_, fd, at_fun F, He.glo_ok X G ((says_d c).fact 46 (f := .glo "_law_other") rfl), FunD.bindsN F fun _ _ _ _ _ _ us hl => match us, hl with | [_, _], _ => rfl⟩
theorem kk_law_other (X : K.In h) (G : h.Ns mainGlobals mg) (c : SaysZ K) {w : World} (base : Heap) : Kn PW w K mg base 4 "_law_other" ["m", "thing"] spOther := ok_law_other (txt X G c) (kk_draw X G c base) (kk_law_of X G c base) (at_L_law_other X G c)
theorem at_L_law_deeper (X : K.In h) (G : h.Ns mainGlobals mg) (c : SaysZ K) : At K mg "_law_deeper" s_law_deeper ["m", "thing"] := by
  obtain ⟨fd, F⟩ := (says_d c).def_ 51 (d := dd51) rfl
  exact ⟨_, fd, at_fun F, He.glo_ok X G ((says_d c).fact 45 (f := .glo "_law_deeper") rfl), FunD.bindsN F fun _ _ _ _ _ _ us hl => match us, hl with | [_, _], _ => rfl⟩
theorem kk_law_deeper (X : K.In h) (G : h.Ns mainGlobals mg) (c : SaysZ K) {w : World} (base : Heap) : Kn PW w K mg base 5 "_law_deeper" ["m", "thing"] spDeeper := ok_law_deeper (txt X G c) (kk_draw X G c base) (kk_law_other X G c base) (at_L_law_deeper X G c)
theorem at_L_law_spoilt (X : K.In h) (G : h.Ns mainGlobals mg) (c : SaysZ K) : At K mg "_law_spoilt" s_law_spoilt ["m", "thing"] := by
  obtain ⟨fd, F⟩ := (says_d c).def_ 50 (d := dd50) rfl
  exact ⟨_, fd, at_fun F, He.glo_ok X G ((says_d c).fact 44 (f := .glo "_law_spoilt") rfl), FunD.bindsN F fun _ _ _ _ _ _ us hl => match us, hl with | [_, _], _ => rfl⟩
theorem kk_law_spoilt (X : K.In h) (G : h.Ns mainGlobals mg) (c : SaysZ K) {w : World} (base : Heap) : Kn PW w K mg base 6 "_law_spoilt" ["m", "thing"] spSpoilt := ok_law_spoilt (txt X G c) (kk_draw X G c base) (kk_law_other X G c base) (kk_law_deeper X G c base) (at_L_law_spoilt X G c)
theorem at_Shelf_init (X : K.In h) (G : h.Ns mainGlobals mg) (c : SaysZ K) : IAt K mg (He.ga K "Shelf") "Shelf" "Shelf.__init__" s_Shelf___init__ ["self"] := by
  obtain ⟨fd, F⟩ := (says_d c).def_ 23 (d := dd23) rfl
  exact ⟨_, fd, at_fun F, He.mkr_ok ((says_d c).fact 73 (f := .mkr "Shelf") rfl), He.glo_ok X G ((says_d c).fact 49 (f := .glo "Shelf") rfl), FunD.bindsN F fun _ _ _ _ _ _ us hl => match us, hl with | [_], _ => rfl⟩
theorem kk_ShI (X : K.In h) (G : h.Ns mainGlobals mg) (c : SaysZ K) {w : World} (base : Heap) : In_ PW w K mg base 1 (zS K) "Shelf" ["self"] (spShI (zS K)) := ok_ShI (txt X G c) (cl2 c) (at_Shelf_init X G c)
theorem at_Shelf_keep (c : SaysZ K) : MAt K (He.ga K "Shelf") "keep" "Shelf.keep" s_Shelf_keep ["self", "mark", "is_alive", "children"] := by
  obtain ⟨fd, F⟩ := (says_d c).def_ 24 (d := dd24) rfl
  exact ⟨_, fd, at_fun F, He.meth_ok ((says_d c).fact 85 (f := .meth "Shelf" "keep") rfl), FunD.bindsN F fun _ _ _ _ _ _ us hl => match us, hl with | [_, _, _, _], _ => rfl⟩
theorem kk_keep (X : K.In h) (G : h.Ns mainGlobals mg) (c : SaysZ K) {w : World} (base : Heap) : Mn PW w K mg base 1 (zS K) "keep" ["self", "mark", "is_alive", "children"] (spKeep (zS K)) := ok_keep (txt X G c) (cl2 c) (at_Shelf_keep c)
theorem at_Shelf_keep_family (c : SaysZ K) : MAt K (He.ga K "Shelf") "keep_family" "Shelf.keep_family" s_Shelf_keep_family ["self", "family"] := by
  obtain ⟨fd, F⟩ := (says_d c).def_ 25 (d := dd25) rfl
  exact ⟨_, fd, at_fun F, He.meth_ok ((says_d c).fact 86 (f := .meth "Shelf" "keep_family") rfl), FunD.bindsN F fun _ _ _ _ _ _ us hl => match us, hl with | [_, _], _ => rfl⟩
theorem kk_keepF (X : K.In h) (G : h.Ns mainGlobals mg) (c : SaysZ K) {w : World} (base : Heap) : Mn PW w K mg base 2 (zS K) "keep_family" ["self", "family"] (spKeepF (zS K)) := ok_keepF (txt X G c) (cl2 c) (kk_keep X G c base) (at_Shelf_keep_family c)
theorem at_Reader_init (X : K.In h) (G : h.Ns mainGlobals mg) (c : SaysZ K) : IAt K mg (He.ga K "Reader") "Reader" "Reader.__init__" s_Reader___init__ ["self", "custom", "shelf"] := by
  obtain ⟨fd, F⟩ := (says_d c).def_ 26 (d := dd26) rfl
  exact ⟨_, fd, at_fun F, He.mkr_ok ((says_d c).fact 74 (f := .mkr "Reader") rfl), He.glo_ok X G ((says_d c).fact 50 (f := .glo "Reader") rfl), FunD.bindsN F fun _ _ _ _ _ _ us hl => match us, hl with | [_, _, _], _ => rfl⟩
theorem kk_RdI (X : K.In h) (G : h.Ns mainGlobals mg) (c : SaysZ K) {w : World} (base : Heap) : In_ PW w K mg base 1 (zR K) "Reader" ["self", "custom", "shelf"] (spRdI (zR K)) := ok_RdI (txt X G c) (cl2 c) (at_Reader_init X G c)
theorem at_behind_row (X : K.In h) (G : h.Ns mainGlobals mg) (c : SaysZ K) : At K mg "behind_row" s_behind_row ["read", "ranks"] := by
  obtain ⟨fd, F⟩ := (says_d c).def_ 29 (d := dd29) rfl
  exact ⟨_, fd, at_fun F, He.glo_ok X G ((says_d c).fact 23 (f := .glo "behind_row") rfl), FunD.bindsN F fun _ _ _ _ _ _ us hl => match us, hl with | [_, _], _ => rfl⟩
theorem kk_behind (X : K.In h) (G : h.Ns mainGlobals mg) (c : SaysZ K) {w : World} (base : Heap) : Fk PW w K mg base 1 "behind_row" ["read", "ranks"] spBehind := ok_behind (txt X G c) (at_behind_row X G c)
theorem at_Reader_catch_up (c : SaysZ K) : MAt K (He.ga K "Reader") "catch_up" "Reader.catch_up" s_Reader_catch_up ["self"] := by
  obtain ⟨fd, F⟩ := (says_d c).def_ 27 (d := dd27) rfl
  exact ⟨_, fd, at_fun F, He.meth_ok ((says_d c).fact 83 (f := .meth "Reader" "catch_up") rfl), FunD.bindsN F fun _ _ _ _ _ _ us hl => match us, hl with | [_], _ => rfl⟩
theorem kk_catch (X : K.In h) (G : h.Ns mainGlobals mg) (c : SaysZ K) {w : World} (base : Heap) : Mn PW w K mg base 2 (zR K) "catch_up" ["self"] (spCatch (zS K) (zR K)) := ok_catch (txt X G c) (cl2 c) (kk_behind X G c base) (at_Reader_catch_up c)
theorem at_Reader_heir_of (c : SaysZ K) : MAt K (He.ga K "Reader") "heir_of" "Reader.heir_of" s_Reader_heir_of ["self", "top"] := by
  obtain ⟨fd, F⟩ := (says_d c).def_ 28 (d := dd28) rfl
  exact ⟨_, fd, at_fun F, He.meth_ok ((says_d c).fact 84 (f := .meth "Reader" "heir_of") rfl), FunD.bindsN F fun _ _ _ _ _ _ us hl => match us, hl with | [_, _], _ => rfl⟩
theorem kk_heir_of (X : K.In h) (G : h.Ns mainGlobals mg) (c : SaysZ K) {w : World} (base : Heap) : Mn PW w K mg base 3 (zR K) "heir_of" ["self", "top"] (spHeirOf (zS K) (zR K)) := ok_heir_of (txt X G c) (cl2 c) (kk_catch X G c base) (at_Reader_heir_of c)
theorem at_need_between (X : K.In h) (G : h.Ns mainGlobals mg) (c : SaysZ K) : At K mg "need_between" s_need_between ["value", "low", "high"] := by
  obtain ⟨fd, F⟩ := (says_d c).def_ 4 (d := dd4) rfl
  exact ⟨_, fd, at_fun F, He.glo_ok X G ((says_d c).fact 4 (f := .glo "need_between") rfl), FunD.bindsN F fun _ _ _ _ _ _ us hl => match us, hl with | [_, _, _], _ => rfl⟩
theorem kk_need_between (X : K.In h) (G : h.Ns mainGlobals mg) (c : SaysZ K) {w : World} (base : Heap) : Kn PW w K mg base 3 "need_between" ["value", "low", "high"] spNeedB := ok_need_between (txt X G c) (kk_is_between X G c base) (at_need_between X G c)
theorem at_need_marks (X : K.In h) (G : h.Ns mainGlobals mg) (c : SaysZ K) : At K mg "need_marks" s_need_marks ["marks"] := by
  obtain ⟨fd, F⟩ := (says_d c).def_ 5 (d := dd5) rfl
  exact ⟨_, fd, at_fun F, He.glo_ok X G ((says_d c).fact 5 (f := .glo "need_marks") rfl), FunD.bindsN F fun _ _ _ _ _ _ us hl => match us, hl with | [_], _ => rfl⟩
theorem kk_need_marks (X : K.In h) (G : h.Ns mainGlobals mg) (c : SaysZ K) {w : World} (base : Heap) : Kn PW w K mg base 4 "need_marks" ["marks"] spNeedM := ok_need_marks (txt X G c) (kk_need_between X G c base) (at_need_marks X G c)
theorem at_is_number_row (X : K.In h) (G : h.Ns mainGlobals mg) (c : SaysZ K) : At K mg "is_number_row" s_is_number_row ["value", "most", "high"] := by
  obtain ⟨fd, F⟩ := (says_d c).def_ 3 (d := dd3) rfl
  exact ⟨_, fd, at_fun F, He.glo_ok X G ((says_d c).fact 3 (f := .glo "is_number_row") rfl), FunD.bindsN F fun _ _ _ _ _ _ us hl => match us, hl with | [_, _, _], _ => rfl⟩
theorem kk_is_number_row (X : K.In h) (G : h.Ns mainGlobals mg) (c : SaysZ K) {w : World} (base : Heap) : Kn PW w K mg base 1 "is_number_row" ["value", "most", "high"] spRow0 := ok_is_number_row (txt X G c) (at_is_number_row X G c)
theorem at_is_line (X : K.In h) (G : h.Ns mainGlobals mg) (c : SaysZ K) : At K mg "is_line" s_is_line ["value", "place", "marks"] := by
  obtain ⟨fd, F⟩ := (says_d c).def_ 17 (d := dd17) rfl
  exact ⟨_, fd, at_fun F, He.glo_ok X G ((says_d c).fact 17 (f := .glo "is_line") rfl), FunD.bindsN F fun _ _ _ _ _ _ us hl => match us, hl with | [_, _, _], _ => rfl⟩
theorem kk_is_line (X : K.In h) (G : h.Ns mainGlobals mg) (c : SaysZ K) {w : World} (base : Heap) : Kn PW w K mg base 3 "is_line" ["value", "place", "marks"] spLine := ok_is_line (txt X G c) (He.int_ok X G ((says_d c).fact 68 (f := .int "MOST_CHILDREN" 600) rfl)) (kk_is_between X G c base) (kk_is_truth X G c base) (kk_is_number_row X G c base) (at_is_line X G c)
theorem at_is_row_of_lines (X : K.In h) (G : h.Ns mainGlobals mg) (c : SaysZ K) : At K mg "is_row_of_lines" s_is_row_of_lines ["value"] := by
  obtain ⟨fd, F⟩ := (says_d c).def_ 18 (d := dd18) rfl
  exact ⟨_, fd, at_fun F, He.glo_ok X G ((says_d c).fact 18 (f := .glo "is_row_of_lines") rfl), FunD.bindsN F fun _ _ _ _ _ _ us hl => match us, hl with | [_], _ => rfl⟩
theorem kk_is_row_of_lines (X : K.In h) (G : h.Ns mainGlobals mg) (c : SaysZ K) {w : World} (base : Heap) : Kn PW w K mg base 1 "is_row_of_lines" ["value"] spIsRow := ok_is_row_of_lines (txt X G c) (He.int_ok X G ((says_d c).fact 69 (f := .int "MOST_LINES" 2000) rfl)) (at_is_row_of_lines X G c)
theorem at_wrong_line (X : K.In h) (G : h.Ns mainGlobals mg) (c : SaysZ K) : At K mg "wrong_line" s_wrong_line ["family", "marks"] := by
  obtain ⟨fd, F⟩ := (says_d c).def_ 19 (d := dd19) rfl
  exact ⟨_, fd, at_fun F, He.glo_ok X G ((says_d c).fact 19 (f := .glo "wrong_line") rfl), FunD.bindsN F fun _ _ _ _ _ _ us hl => match us, hl with | [_, _], _ => rfl⟩
theorem kk_wrong_line (X : K.In h) (G : h.Ns mainGlobals mg) (c : SaysZ K) {w : World} (base : Heap) : Kn PW w K mg base 4 "wrong_line" ["family", "marks"] spWrong := ok_wrong_line (txt X G c) (kk_is_line X G c base) (at_wrong_line X G c)
theorem at_need_lines (X : K.In h) (G : h.Ns mainGlobals mg) (c : SaysZ K) : At K mg "need_lines" s_need_lines ["family", "marks"] := by
  obtain ⟨fd, F⟩ := (says_d c).def_ 20 (d := dd20) rfl
  exact ⟨_, fd, at_fun F, He.glo_ok X G ((says_d c).fact 20 (f := .glo "need_lines") rfl), FunD.bindsN F fun _ _ _ _ _ _ us hl => match us, hl with | [_, _], _ => rfl⟩
theorem kk_need_lines (X : K.In h) (G : h.Ns mainGlobals mg) (c : SaysZ K) {w : World} (base : Heap) : Kn PW w K mg base 5 "need_lines" ["family", "marks"] spLines := ok_need_lines (kk_is_row_of_lines X G c base) (kk_wrong_line X G c base) (at_need_lines X G c)
theorem at_line_sizes (X : K.In h) (G : h.Ns mainGlobals mg) (c : SaysZ K) : At K mg "line_sizes" s_line_sizes ["lines"] := by
  obtain ⟨fd, F⟩ := (says_d c).def_ 22 (d := dd22) rfl
  exact ⟨_, fd, at_fun F, He.glo_ok X G ((says_d c).fact 22 (f := .glo "line_sizes") rfl), FunD.bindsN F fun _ _ _ _ _ _ us hl => match us, hl with | [_], _ => rfl⟩
theorem kk_line_sizes (X : K.In h) (G : h.Ns mainGlobals mg) (c : SaysZ K) {w : World} (base : Heap) : Kn PW w K mg base 1 "line_sizes" ["lines"] spSizes := ok_line_sizes (txt X G c) (at_line_sizes X G c)
theorem at_need_family (X : K.In h) (G : h.Ns mainGlobals mg) (c : SaysZ K) : AtD K mg "need_family" s_need_family ["family", "marks"] [.int 3] := by
  obtain ⟨fd, F⟩ := (says_d c).def_ 21 (d := dd21) rfl
  obtain ⟨ds, v, b⟩ := FunD.binds1 (ps := ["family", "marks"]) F 2 1 (by simp [He.DefD.dvs, dd21]) (by simp [He.DefD.dvs, dd21]) fun T kV doc pm an cdv ct us its hu hi => by
    match us, its, hu, hi with
    | [x, y], [z], _, _ => exact ⟨_, rfl, rfl⟩
  cases v
  exact ⟨_, fd, F, He.glo_ok X G ((says_d c).fact 21 (f := .glo "need_family") rfl), b⟩
theorem kk_need_family (X : K.In h) (G : h.Ns mainGlobals mg) (c : SaysZ K) {w : World} (base : Heap) : Kn PW w K mg base 6 "need_family" ["family", "marks"] spFamily := ok_need_family (txt X G c) (He.int_ok X G ((says_d c).fact 70 (f := .int "MOST_MEMBERS" (10 ^ 60)) rfl)) (kk_need_marks X G c base) (kk_need_lines X G c base) (kk_line_sizes X G c base) (at_need_family X G c)
theorem at_need_read (X : K.In h) (G : h.Ns mainGlobals mg) (c : SaysZ K) : At K mg "need_read" s_need_read ["custom", "family"] := by
  obtain ⟨fd, F⟩ := (says_d c).def_ 30 (d := dd30) rfl
  exact ⟨_, fd, at_fun F, He.glo_ok X G ((says_d c).fact 24 (f := .glo "need_read") rfl), FunD.bindsN F fun _ _ _ _ _ _ us hl => match us, hl with | [_, _], _ => rfl⟩
theorem kk_need_read (X : K.In h) (G : h.Ns mainGlobals mg) (c : SaysZ K) {w : World} (base : Heap) : Kn PW w K mg base 8 "need_read" ["custom", "family"] (spNeedRead (zC K)) := ok_need_read (kk_need_custom X G c base) (kk_need_family X G c base) (at_need_read X G c)
theorem at_read_lines (X : K.In h) (G : h.Ns mainGlobals mg) (c : SaysZ K) : At K mg "read_lines" s_read_lines ["custom", "lines"] := by
  obtain ⟨fd, F⟩ := (says_d c).def_ 31 (d := dd31) rfl
  exact ⟨_, fd, at_fun F, He.glo_ok X G ((says_d c).fact 25 (f := .glo "read_lines") rfl), FunD.bindsN F fun _ _ _ _ _ _ us hl => match us, hl with | [_, _], _ => rfl⟩
theorem kk_read_lines (X : K.In h) (G : h.Ns mainGlobals mg) (c : SaysZ K) {w : World} (base : Heap) : Kn PW w K mg base 4 "read_lines" ["custom", "lines"] (spReadL (zS K) (zR K)) := ok_read_lines (cl2 c) (kk_ShI X G c base) (kk_RdI X G c base) (kk_keepF X G c base) (kk_catch X G c base) (at_read_lines X G c)
theorem at_read_family (X : K.In h) (G : h.Ns mainGlobals mg) (c : SaysZ K) : At K mg "read_family" s_read_family ["custom", "family"] := by
  obtain ⟨fd, F⟩ := (says_d c).def_ 32 (d := dd32) rfl
  exact ⟨_, fd, at_fun F, He.glo_ok X G ((says_d c).fact 26 (f := .glo "read_family") rfl), FunD.bindsN F fun _ _ _ _ _ _ us hl => match us, hl with | [_, _], _ => rfl⟩
theorem kk_read_family (X : K.In h) (G : h.Ns mainGlobals mg) (c : SaysZ K) {w : World} (base : Heap) : Kn PW w K mg base 9 "read_family" ["custom", "family"] (spReadF (zC K) (zS K) (zR K)) := ok_read_family (kk_need_read X G c base) (kk_read_lines X G c base) (at_read_family X G c)
theorem at_heir (X : K.In h) (G : h.Ns mainGlobals mg) (c : SaysZ K) : At K mg "heir" s_heir ["custom", "family"] := by
  obtain ⟨fd, F⟩ := (says_d c).def_ 33 (d := dd33) rfl
  exact ⟨_, fd, at_fun F, He.glo_ok X G ((says_d c).fact 27 (f := .glo "heir") rfl), FunD.bindsN F fun _ _ _ _ _ _ us hl => match us, hl with | [_, _], _ => rfl⟩
theorem kk_heir (X : K.In h) (G : h.Ns mainGlobals mg) (c : SaysZ K) {w : World} (base : Heap) : Kn PW w K mg base 10 "heir" ["custom", "family"] (spHeir (zC K)) := ok_heir (cl2 c) (kk_read_family X G c base) (kk_heir_of X G c base) (at_heir X G c)
theorem at_L_law_like (X : K.In h) (G : h.Ns mainGlobals mg) (c : SaysZ K) : At K mg "_law_like" s_law_like ["got", "due"] := by
  obtain ⟨fd, F⟩ := (says_d c).def_ 38 (d := dd38) rfl
  exact ⟨_, fd, at_fun F, He.glo_ok X G ((says_d c).fact 32 (f := .glo "_law_like") rfl), FunD.bindsN F fun _ _ _ _ _ _ us hl => match us, hl with | [_, _], _ => rfl⟩
theorem kk_law_like (X : K.In h) (G : h.Ns mainGlobals mg) (c : SaysZ K) {w : World} (base : Heap) : Kn PW w K mg base 1 "_law_like" ["got", "due"] (spLike K) := ok_law_like (txt X G c) (at_L_law_like X G c)
theorem at_L_law_word (X : K.In h) (G : h.Ns mainGlobals mg) (c : SaysZ K) : At K mg "_law_word" s_law_word ["call"] := by
  obtain ⟨fd, F⟩ := (says_d c).def_ 53 (d := dd53) rfl
  exact ⟨_, fd, at_fun F, He.glo_ok X G ((says_d c).fact 47 (f := .glo "_law_word") rfl), FunD.bindsN F fun _ _ _ _ _ _ us hl => match us, hl with | [_], _ => rfl⟩
theorem kk_law_word (X : K.In h) (G : h.Ns mainGlobals mg) (c : SaysZ K) {w : World} (base : Heap) : Kn PW w K mg base 12 "_law_word" ["call"] (spWord PW w K mg base 11 (zC K)) := ok_law_word (txt X G c) (own_t X G c) (exc_c (own_k c)) (He.glo_ok X G ((says_d c).fact 52 (f := .glo "HeirError") rfl)) (He.free_ok X G ((says_d c).fact 65 (f := .free "ValueError") rfl)) (kit_1 (own_k c)) (kit_2 (own_k c)) (at_L_law_word X G c)
theorem law_g (X : K.In h) (G : h.Ns mainGlobals mg) (c : SaysZ K) {w : World} {base : Heap} {co Pt fa : Addr} {fd : FuncData} (TB : LamX.TabB base mg co Pt) (F : Fun K "law" "law" s_law fa fd) (code : fd.code = .ref co) : FnG PW w K mg base (L2.CX PW w) 13 fa fd ["script"] (spLaw K Pt lawQ) :=
  ok_law (txt X G c) TB F code (kk_law_begun X G c base) (kk_law_custom X G c base) (kk_draw X G c base) (kk_law_like X G c base) (kk_need_custom X G c base) (kk_is_custom X G c base) (kk_law_spoilt X G c base) (kk_law_fault X G c base)
    (fun B => kk_law_like X G c B) (fun B => kk_need_custom X G c B) (fun B => kk_heir X G c B) (fun B => kk_same_marks X G c B) (fun B => kk_renumbered X G c B) (fun B => kk_law_word X G c B)
end
end Hk
set_option Elab.async false
set_option linter.all false
set_option maxRecDepth 100000
set_option maxHeartbeats 4000000
namespace Hk
open PySem PySem.Spec PyProof.Rows L2
theorem law_fun {K : PySem.W.Frag} (c : SaysZ K) : ∃ fd, Fun K "law" "law" s_law (He.ga K "law") fd ∧ ∀ (s : Shared) (u : Value), BindsTo s fd ⟨[u], []⟩ [("script", u)] := by
  obtain ⟨fd, F⟩ := (says_d c).def_ 54 (d := dd54) rfl
  exact ⟨fd, at_fun F, fun s u => FunD.bindsA (ps := ["script"]) F (fun _ _ _ _ _ _ us hl => match us, hl with | [_], _ => rfl) s [u] rfl⟩
/-- the law is entered: its table is empty, all else that is not followed is the ground -/
theorem law_entered {K : PySem.W.Frag} {mg mb : Str → Option Value} {w : World} {s1 : Shared} {fa a co Pt : Addr} {fd : FuncData} {vs : List Value} {ns : List Int} (X : K.In s1.heap) (hns : s1.heap.Ns mainGlobals mg) (hb : s1.heap.Ns builtinsNs mb)
    (hbb : ∀ x : Str, x ≠ "__name__" → mb x = bootBuiltins x) (lim : s1.heap.NoLimit) (gens : s1.gens = #[]) (tabP : s1.heap.TableAt co Pt #[]) (hdP : PySem.W.CodeHd s1.heap co Pt) (noP : K.lookup Pt = none)
    (hbm : ∃ (bm : Addr) (ob : Obj), mg "__builtins__" = some (.ref bm) ∧ bm ≠ builtinsNs ∧ s1.heap.get? bm = some ob ∧ ob.cls = .type "module" ∧ ob.dict = some builtinsNs ∧ ob.data = .plain)
    (ha : s1.heap.get? a = some { cls := .type "list", data := .seq vs.toArray }) (hi : IntsAre vs ns) (l63 : ns.length ≤ 63)
    (F : ∀ base : Heap, LamX.TabB base mg co Pt → FnG PW w K mg base (L2.CX PW w) 13 fa fd ["script"] (spLaw K Pt lawQ)) (bind : ∀ (s : Shared) (u : Value), BindsTo s fd ⟨[u], []⟩ [("script", u)]) :
    codeAny (model PW w) callerA (.call (.ref fa) ⟨[.ref a], []⟩) (fun r s' => r = .ok (.ret (.bool true)) ∧ OldK s1.heap s'.heap ∧ s'.os = s1.os ∧ AllBare s'.gens) s1 := by
  have hP : s1.heap.get? Pt = some { cls := .none, data := .fields #[] } := tabP.2
  have rv := vals_ints hi
  have lv : vs.length = ns.length := hi.length
  have small : vs.length ≤ sizeLine := Nat.le_trans (by rw [lv]; exact l63) (by decide)
  have aP : a ≠ Pt := fun z => by
    rw [z, hP] at ha
    cases ha
  let oa : Obj := { cls := .type "list", data := .seq vs.toArray }
  let H : Hp := fun b => if b = Pt then some (.tbl #[]) else if b = a ∧ K.lookup a = none then some (.frz oa (.lst (ns.map V.int))) else none
  have HP : H Pt = some (.tbl #[]) := if_pos rfl
  have Hcase : ∀ b u, H b = some u → (b = Pt ∧ u = .tbl #[]) ∨ (b = a ∧ K.lookup a = none ∧ u = .frz oa (.lst (ns.map V.int))) := fun b u e => by
    by_cases h1 : b = Pt
    · have z : some (HO.tbl #[]) = some u := (if_pos h1).symm.trans e
      exact .inl ⟨h1, (Option.some.inj z).symm⟩
    · by_cases h2 : b = a ∧ K.lookup a = none
      · have z : some (HO.frz oa (.lst (ns.map V.int))) = some u := (if_pos h2).symm.trans ((if_neg h1).symm.trans e)
        exact .inr ⟨h2.1, h2.2, (Option.some.inj z).symm⟩
      · have z : none = some u := (if_neg h2).symm.trans ((if_neg h1).symm.trans e)
        cases z
  have Ha : SqL K H a (ns.map V.int) := by
    cases q : K.lookup a with
    | none => exact .inl (.inr ⟨oa, (if_neg aP).trans (if_pos ⟨rfl, q⟩)⟩)
    | some o =>
      have e := X a o q
      rw [ha] at e
      cases e
      exact .inr ⟨_, vs.toArray, _, q, rfl, rfl, rfl, by rw [List.size_toArray]; exact small, by simpa using rv⟩
  have plain : ∀ {b : Addr} {o : Obj}, s1.heap.get? b = some o → (∀ us n, o.data ≠ .seq us n) → o.data ≠ .fields #[] → H b = none := fun {b o} e d1 d2 => by
    cases q : H b with
    | none => rfl
    | some u =>
      rcases Hcase b u q with ⟨z, _⟩ | ⟨z, _⟩
      · rw [z, hP] at e
        cases e
        exact (d2 rfl).elim
      · rw [z, ha] at e
        cases e
        exact (d1 _ _ rfl).elim
  have onG : ∀ {b : Addr} {o : Obj}, s1.heap.get? b = some o → H b = none → (hidT s1.heap H).get? b = some o := fun e n => hidT_get e n
  have nsG : ∀ {b : Addr} {m : Str → Option Value}, s1.heap.Ns b m → (hidT s1.heap H).Ns b m := fun {b m} ⟨o, es, ep, e, d, r⟩ =>
    ⟨o, es, ep, onG e (plain e (fun us n z => by rw [d] at z; cases z) fun z => by rw [d] at z; cases z), d, r⟩
  have inG : K.In (hidT s1.heap H) := fun b o e => onG (X b o e) (by
    cases q : H b with
    | none => rfl
    | some u =>
      rcases Hcase b u q with ⟨z, _⟩ | ⟨z, z2, _⟩
      · rw [z, noP] at e
        cases e
      · rw [z, z2] at e
        cases e)
  have modG : L2.Mod K mg (hidT s1.heap H) := by
    obtain ⟨mc, h1, h2⟩ := lim
    exact ⟨inG, nsG hns, ⟨mb, nsG hb, hbb⟩, mc, nsG h1, h2⟩
  have tabG : LamX.TabB (hidT s1.heap H) mg co Pt := by
    refine ⟨?_, ?_, fun z => ?_⟩
    · obtain ⟨o, us, x1, x2, x3, x4, x5, x6, x7, e1, r1, r2, r3, rest⟩ := hdP
      refine ⟨o, us, x1, x2, x3, x4, x5, x6, x7, onG e1 (plain e1 (fun vs n z => ?_) fun z => ?_), r1, r2, r3, rest⟩
      · rw [r2] at z
        cases z
      · rw [r2] at z
        cases z
        simp at r3
    · obtain ⟨bm, ob, b1, b2, b3, b4, b5, b6⟩ := hbm
      refine ⟨bm, ob, b1, b2, fun z => ?_, fun z => ?_, onG b3 (plain b3 (fun us n z => ?_) fun z => ?_), b4, b5, b6⟩
      · obtain ⟨o, es, ep, e, d, _⟩ := hns
        rw [z, e] at b3
        cases b3
        rw [d] at b6
        cases b6
      · rw [z, hP] at b3
        cases b3
        cases b6
      · rw [b6] at z
        cases z
      · rw [b6] at z
        cases z
    · obtain ⟨o, es, ep, e, d, _⟩ := hns
      rw [z, hP] at e
      cases e
      cases d
  have okH : HOk PW w H s1.heap := fun b u e => by
    rcases Hcase b u e with ⟨rfl, rfl⟩ | ⟨rfl, _, rfl⟩
    · exact hP
    · exact ⟨ha, by rw [List.length_map, ← lv]; exact small, vs, _, rv, ha⟩
  have env : Env0 PW w K mg (hidT s1.heap H) callerA [] s1 H := ⟨rfl, modG, fun b o e => of_hidT e, Nat.le_of_eq (hidT_size _ _), trivial, fun b z => absurd (show b ∈ ([] : List Addr) from z) (by simp), okH, .of_eq gens⟩
  have tabs : LamX.Tabs [(Pt, lawQ)] H := fun p hp => by
    rw [List.mem_singleton.mp hp]
    exact LamX.TabS.nil HP
  refine codeAny_mono ((F _ tabG).goes callerA [] s1 H ⟨[.ref a], []⟩ [.ref a] [.ref a] (fun v _ => v = .bl true) (fun _ _ _ => False) ⟨rfl, by decide, by decide⟩ rfl env (bind s1 (.ref a)) (.cons rfl .nil) ⟨a, ns, rfl, Ha, l63, tabs, fun _ => rfl⟩) ?_
  intro r s2 h
  match r, h with
  | .error e, h =>
    obtain ⟨_, _, _, _, _, _, _, _, _, _, _, _, z⟩ := h
    exact z.elim
  | .ok (.ret u), ⟨v, H2, os, bare, un, ok2, rel, q⟩ =>
    have q : v = .bl true := q
    subst q
    obtain rfl : u = Value.bool true := rel
    obtain ⟨more, hm⟩ := un.tbls Pt #[] HP
    have grown : s2.heap.get? Pt = some { cls := .none, data := .fields (#[] ++ more) } := ok2 Pt _ hm
    rw [Array.empty_append] at grown
    have stays : ∀ b o, b ≠ Pt → s1.heap.get? b = some o → s2.heap.get? b = some o := fun b o nb e => by
      cases z : H b with
      | none => exact un.keep b o e z (by intro y; cases y) (by intro y; cases y)
      | some u =>
        rcases Hcase b u z with ⟨y, _⟩ | ⟨rfl, _, rfl⟩
        · exact absurd y nb
        · obtain ⟨e1, _⟩ := ok2 b _ (un.frzs b oa _ z)
          rw [ha] at e
          cases e
          exact e1
    refine ⟨rfl, ⟨fun b o e => ?_, fun b o e => ?_⟩, os, bare⟩
    · by_cases hb2 : b = Pt
      · subst hb2
        rw [hP] at e
        cases e
        exact .inr (.inl ⟨tabP.isCodeTable, rfl, #[], more, rfl, by rw [Array.empty_append]; exact grown⟩)
      · exact .inl (stays b o hb2 e)
    · by_cases hb2 : b = Pt
      · exact ⟨_, by rw [hb2]; exact grown⟩
      · exact ⟨o, stays b o hb2 e⟩
end Hk
open PySem PySem.W PySem.Calls PyProof.Rows
theorem PySem.Challenge.cw_heirlines_k15_whole_customs_judged_holds : PySem.Challenge.rw_heirlines_k15_whole_customs_judged.Holds := by
  w_on; o_law
  refine HandSHeadRun.head_any (r := Hk.RR) (q := view Hk.RR.prog [70]) (H := Hk.hk1) (ob := Hk.ob1) (M := 8000) (loose := Hk.loose) (d := HandSHeadRun.topDef Hk.RR.prog 70) (kwd := []) Hk.ob1_eq
    (by kernel_rfl) (fun s => by kernel_rfl) Hk.run1 (by kernel_rfl) (by kernel_rfl) (by kernel_rfl) (by rfl) (by first | assumption | decide +kernel) (by decide +kernel) ⟨rfl, rfl, rfl, rfl, rfl, by decide +kernel⟩ ?hw ?hc
  case hw => w_witness2
  case hc =>
    refine Att.attach_callB (n := 63) rfl (by kernel_rfl) fun w s₀ s1 mg mb fa o pm cd doc a vs ns G Y ho hd hcd hmg0 hobj hints hlen hbits hg => ?_
    obtain ⟨K, KX, c⟩ := Y
    have hmg : mg ("law" : PySem.Str) = some (.ref fa) := by
      have e : (HandSHeadRun.topDef Hk.RR.prog 70).name = ("law" : PySem.Str) := by kernel_rfl
      rw [← e]
      exact hmg0
    have hrec : ((recsOf (view Hk.RR.prog [70])).any fun e => e.name == ("law" : PySem.Str)) = true := by kernel_rfl
    obtain ⟨dL, hm, hn⟩ := List.any_eq_true.mp hrec
    obtain ⟨fa2, o2, fd2, co, Pt, h1, h2, h3, h4, h5, h6⟩ := G.T.tab dL hm
    rw [show dL.name = ("law" : PySem.Str) from beq_iff_eq.mp hn, hmg] at h1
    cases h1
    obtain ⟨fd, F1, bnd⟩ := Hk.law_fun c
    have eF : He.ga K ("law" : PySem.Str) = fa := by
      have z := hmg.symm.trans (He.glo_ok KX G.T.g ((Hk.says_d c).fact 48 (f := .glo "law") rfl))
      cases z
      rfl
    rw [eF] at F1
    obtain ⟨oc, od, kV, doc2, pm2, an, cdv, ct, osl, e1, lk, _⟩ := F1.ex
    have code : fd.code = .ref co := by
      have z := KX _ _ lk
      rw [h2] at z
      cases z
      cases h3
      exact h4
    have noP : K.lookup Pt = none := by
      cases q : K.lookup Pt with
      | none => rfl
      | some o =>
        have z := KX _ _ q
        rw [h6.2] at z
        cases z
        have y := c.2 _ _ q
        cases y
    exact Hk.law_entered KX G.T.g G.T.b G.T.builtins G.T.nolimit hg h6 (PySem.W.CodeHd.of h5 h6) noP G.T.bmain hobj hints hlen (fun base TB => Hk.law_g KX G.T.g c TB F1 code) bnd
