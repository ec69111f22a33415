import PyProof.Rows.All
import Wide.All
import OpenK.AllK
import Wide.FinOn
import HandS.ForMost
import HandS.ForExc
import HandS.ExcInit
import HandS.ExcSuper
import KE.KExcLine
import PyProof.FString
import PyProof.FString4
import HandS.TryMany
import HandS.ExcField
import HandS.IsInst
import HandS.Property
import HandS.TupAny
import HandS.SortKw
import HandS.Evl
import HandS.Conv
import HandS.More
import HandS.Walk
import KE.SortKeyHeap
import KE.SortData
import HandS.GenBody
import HandS.GenYield
import HandS.GenList
import PyProof.ForAny
import HandS.TryOnly
import HandS.Deep
import KE.GoesEnum
import HandS.Gcd
import HandS.Wide
import HandS.Defaults
import PySem.Challenge.RW_nowaittasks_k63_order_of_giving
import KE.RegKSuper
import KE.RegKTryMore
set_option Elab.async false
set_option linter.all false
set_option maxRecDepth 100000
set_option maxHeartbeats 8000000
/-! Er: errors of the program: a class over a class over Exception, whose own __init__ says super().__init__(text) and then stores one attribute. -/
namespace Er
open PySem PySem.Spec PyProof.Rows L2 Builtin Builtin.ObjectAttr
abbrev exBm : List Value := [.type "Exception", .type "BaseException", .type "object"]
/-- the text handed to super().__init__ : a str, nothing else changes -/
def TxtArg (prog : Program) (w : World) (A : Around) (E : Value → Shared → Prop) (env : Env) (m : Str → Option Value) (eT : Expr) : Prop :=
  ∀ (s : Shared) (Q : Value → Shared → Prop), s.heap.Ns env.locals m → (∀ x tk t', Q (.str x tk) { s with toks := t' }) → wpAny (model prog w) A (eval eT env) Q E s

section
variable {prog : Program} {w : World} {A : Around} {E : Value → Shared → Prop} {R : Result → Shared → Prop} {h : Heap} {g : Array GenState} {d : Drawn} {t : Nat} {os : OsState}
/-- self.f = v, the first attribute of an exception that stands at x -/
theorem store1 {K : W.Frag} {f : Str} {v : Value} {x C t1 : Addr} {Q : Unit → Shared → Prop} (X : K.In h) (hx : h.get? x = some (HandSPX.excO C t1)) (hov : W.excOver K C exBm = true) (hhd : W.hasDictIn K C = true) (htk : W.takerIn K C f = some none)
    (hsa : W.findIn K (.ref C) "__setattr__" = some (some (.builtin "object.__setattr__")))
    (hq : ∀ h' tk' dx, (∀ b o, b ≠ x → h.get? b = some o → h'.get? b = some o) → h.objs.size ≤ dx → dx ≠ x → h'.get? x = some { cls := .ref C, dict := some dx, data := .fields #[.ref t1, .none, .none, .none, .bool false, .none] } →
      h'.Ns1 dx (fun y => if y = f then some v else none) → Q () ⟨h', g, d, tk', os⟩) :
    wpAny (model prog w) A (setAttr (.ref x) f v) Q E ⟨h, g, d, t, os⟩ := by
  have I : W.InstAt h x (HandSPX.excO C t1) C none := ⟨hx, rfl, rfl, trivial⟩
  have hxs : x ≠ h.objs.size := Nat.ne_of_lt (Heap.lt_size hx)
  refine W.set_plain X I hsa (W.osa_openX F.store_Exception X I hov htk fun b => ?_)
  obtain ⟨cd, hc, hd'⟩ := W.any_some hhd
  have hcls : W.Looks (model prog w) h (classData C) cd := W.looks_clsIn X hc
  obtain ⟨nm, bs, mro, ns, qn, hd, sn, sb, ab, col, del⟩ := cd
  dsimp only at hd'
  subst hd'
  show wpAny _ _ (storeInOwnDict (.ref x) (.ref C) _ f v b) _ _ _
  unfold storeInOwnDict ownDictForStores
  repeat (first | with_reducible refine HandSPX.store_in_new ?_ ?_ | with_reducible refine wpAny_loadPart_at hx ?_ | with_reducible refine hcls.at ?_ | wp_step)
  · exact ⟨_, #[], _, (Heap.get?_update_ne _ _ _ _ hxs.symm).trans (Heap.get?_push_at rfl rfl), rfl, fun e he => absurd he (by simp), fun _ => rfl⟩
  · intro h' tk' hn hs
    have hx1 : (h.push { cls := .type "dict", data := .dict #[] }).get? x = some (HandSPX.excO C t1) := Heap.get?_push_of_some _ hx
    refine hq h' tk' h.objs.size (fun b o hb ho => ?_) (Nat.le_refl _) hxs.symm ((hs.2 x hxs).trans (Heap.get?_update_self _ hx1 rfl)) hn
    have e1 := hs.2 b (Nat.ne_of_lt (Heap.lt_size ho))
    exact e1.trans ((Heap.get?_update_ne _ _ _ _ hb).trans (Heap.get?_push_of_some _ ho))
end
end Er
namespace Er
open PySem PySem.Spec PyProof.Rows L2 Builtin Builtin.ObjectAttr

/-- what the written part says of the class at C with its __init__ at fI -/
structure XC (K : PySem.W.Frag) (C fI : Addr) (f : Str) : Prop where
  ini : PySem.W.excInitIn K C exBm "Exception.__new__" = true
  ov : PySem.W.excOver K C exBm = true
  hd : PySem.W.hasDictIn K C = true
  tk : PySem.W.takerIn K C f = some none
  sa : PySem.W.findIn K (.ref C) "__setattr__" = some (some (.builtin "object.__setattr__"))
  exC : PySem.W.subIn K (.ref C) (.type "BaseException") = some true
  exE : PySem.W.subIn K (.ref C) (.type "Exception") = some true
  tyC : PySem.W.typeIn K (.ref C) = some (.type "type")
  kC : PySem.W.keepIn K (.ref C) = true
  slf : PySem.W.mroIn K C (.ref C) = some true
  iC : PySem.W.findIn K (.ref C) "__init__" = some (some (.ref fI))
  tI : PySem.W.typeIn K (.ref fI) = some (.type "function")
  sup : PySem.W.ks_superIn K C C "__init__" = some (some (.builtin "Exception.__init__"))
  opq : PySem.W.nsIn K cStatics "thirdparty.any" = some none

abbrev initBody (f x : Str) (eT : Expr) (p0 p1 p2 p3 p4 p5 p6 p7 p8 : Pos) : List Stmt :=
  [.Expr (.Call (.Attribute (.Call (.Name "super" p0) [] [] p1) "__init__" p2) [eT] [] p3) p4, .Assign [.Attribute (.Name "self" p5) f p6] (.Name x p7) p8]
abbrev args2 (a : Addr) (x : Str) (u : Value) : List (Str × Value) := [("self", .ref a), (x, u)]

section
variable {prog : Program} {w : World} {A : Around} {R : Result → Shared → Prop} {h : Heap} {g : Array GenState} {d : Drawn} {t : Nat} {os : OsState}
theorem run_init {K : W.Frag} {mg : Str → Option Value} {f x nm qual : Str} {params : Arguments} {scope : Scope} {eT : Expr} {p0 p1 p2 p3 p4 p5 p6 p7 p8 : Pos} {fI cc cda C a t1 : Addr} {u : Value}
    {dV kV doc pm ct oc ccl cl : Value} {an od cdd cld : Option Addr} {osl ccs csl : Array (Option Value)} {vs : Array Value} {file : Str} {tf : Tok} {ar : Arg} {body : List Stmt}
    (T : XC K C fI f) (X : K.In h) (hlim : h.NoLimit) (hG : h.Ns mainGlobals mg) (hms : mg "super" = none) (hB : ∃ mb, h.Ns builtinsNs mb ∧ ∀ y : Str, y ≠ "__name__" → mb y = bootBuiltins y) (hroom : A.depth < recursionLimit)
    (lf : K.lookup fI = some ⟨oc, od, .func (W.fnX nm qual params body scope [("__class__", cc)] dV kV doc pm an (.ref cda) ct), osl⟩)
    (hbody : body = initBody f x eT p0 p1 p2 p3 p4 p5 p6 p7 p8)
    (hcd : W.codeIn K (.ref cda) qual = true) (lcode : K.lookup cda = some ⟨ccl, cdd, .fields vs, ccs⟩) (hvs : vs[2]? = some (.str file tf)) (hfile : ((prog.main.file : Str) == file) = true)
    (lcell : K.lookup cc = some ⟨cl, cld, .cell (some (.ref C)), csl⟩) (htop : (prog.main.scope.names.lookup ("super" : Str)).isSome = false)
    (hpar : (params.posonlyargs ++ params.args).head? = some ar) (har : ar.arg = "self")
    (hbind : ∀ s : Shared, BindsTo s (W.fnX nm qual params body scope [("__class__", cc)] dV kV doc pm an (.ref cda) ct) ⟨[.ref a, u], []⟩ (args2 a x u))
    (ksup : scope.names.lookup ("super" : Str) = some .globalImplicit) (kcls : scope.names.lookup ("__class__" : Str) = some .free) (kslf : scope.names.lookup ("self" : Str) = some .local) (kx : scope.names.lookup x = some .local)
    (kk : scope.kind = .function) (kco : scope.isCoroutine = false) (kgen : scope.isGenerator = false) (kcell : ∀ y ∈ scope.names, y.2 ≠ .cell) (hxs : ¬ x = "self") (hxd : (x == ("__debug__" : Str)) = false)
    (hT : ∀ L E, TxtArg prog w (A.deeper (W.envX qual scope L fI (.ref cda) [("__class__", cc)])) E (W.envX qual scope L fI (.ref cda) [("__class__", cc)]) (fun y => (args2 a x u).reverse.lookup y) eT)
    (hsw1 : ∀ L, swapsWith (.Name x p7) (some (.Attribute (.Name "self" p5) f p6)) p8.line (W.envX qual scope L fI (.ref cda) [("__class__", cc)]) = pure false)
    (hst : ∀ L, starEach [eT] (W.envX qual scope L fI (.ref cda) [("__class__", cc)]) = [(false, eval eT (W.envX qual scope L fI (.ref cda) [("__class__", cc)]))])
    (hev : ∀ L, ∃ pl : Sem Bool, eval (.Call (.Attribute (.Call (.Name "super" p0) [] [] p1) "__init__" p2) [eT] [] p3) (W.envX qual scope L fI (.ref cda) [("__class__", cc)]) = (do
      let ov ← attributeBase (.Call (.Name "super" p0) [] [] p1) "__init__" (W.envX qual scope L fI (.ref cda) [("__class__", cc)]) (eval (.Call (.Name "super" p0) [] [] p1) (W.envX qual scope L fI (.ref cda) [("__class__", cc)]))
      standAt p2.atName
      let (f, first) ← holding [ov] (getMethod ov "__init__" pl)
      callWith p3 f first (backTo p3 (starEach [eT] (W.envX qual scope L fI (.ref cda) [("__class__", cc)]))) []))
    (hsw0 : ∀ L, swapsWith (.Call (.Attribute (.Call (.Name "super" p0) [] [] p1) "__init__" p2) [eT] [] p3) none p4.line (W.envX qual scope L fI (.ref cda) [("__class__", cc)]) = pure false)
    (he : h.get? a = some (HandSPX.excO C t1)) (hKa : K.lookup a = none)
    (hq : ∀ h' t' dx t2, (∀ b o, b ≠ a → h.get? b = some o → h'.get? b = some o) → h.objs.size ≤ dx → dx ≠ a → h'.get? a = some { cls := .ref C, dict := some dx, data := .fields #[.ref t2, .none, .none, .none, .bool false, .none] } →
      h'.Ns1 dx (fun y => if y = f then some u else none) → R (.ok (.ret .none)) ⟨h', g, d, t', os⟩) :
    codeAny (model prog w) A (.call (.ref fI) ⟨[.ref a, u], []⟩) R ⟨h, g, d, t, os⟩ := by
  subst hbody
  obtain ⟨nmC, N', qn, bs, bm, hdct, sn, sub, ab, col, dd, k0, k1, k2, k3, k5, hC, hTT⟩ := W.excInit_of X T.ini
  refine ks_codeAny_call_defAt hroom (X _ _ lf) rfl hlim (W.codeRec_of X hcd) rfl (hbind _) kcell (fun y hy => ?_) (fun h0 hns hk => ?_) kco kgen kk
  · rcases List.mem_cons.mp hy with rfl | hy
    · exact kslf
    rcases List.mem_cons.mp hy with rfl | hy
    · exact kx
    cases hy
  have X0 : K.In h0 := X.keeps hk
  have hns' : h0.Ns h.objs.size (fun y => (args2 a x u).reverse.lookup y) := hns
  have ha0 : h0.get? a = some (HandSPX.excO C t1) := hk _ _ he
  have I0 : W.InstAt h0 a (HandSPX.excO C t1) C none := ⟨ha0, rfl, rfl, trivial⟩
  obtain ⟨cdD, hcl⟩ : ∃ cd, W.clsIn K C = some cd := by
    obtain ⟨cd, q, _⟩ := W.any_some T.hd
    exact ⟨cd, q⟩
  obtain ⟨oD, hD1, hD2⟩ : ∃ oD, h0.get? C = some oD ∧ oD.data = .cls cdD := by
    unfold W.clsIn at hcl
    split at hcl
    · rename_i c d' cd' sl ho
      cases hcl
      exact ⟨_, X0 _ _ ho, rfl⟩
    · cases hcl
  have aC : a ≠ C := W.ks_ne X0 I0 hcl
  obtain ⟨mb, hb1, hb2⟩ := hB
  obtain ⟨pl, hev⟩ := hev h.objs.size
  have look1 : (args2 a x u).reverse.lookup ("self" : Str) = some (Value.ref a) := by
    show ([(x, u), ("self", Value.ref a)] : List (Str × Value)).lookup ("self" : Str) = some (Value.ref a)
    have e1 : (("self" : Str) == x) = false := by simpa using fun z => hxs z.symm
    simp [List.lookup, e1]
  have look2 : (args2 a x u).reverse.lookup x = some u := by
    show ([(x, u), ("self", Value.ref a)] : List (Str × Value)).lookup x = some u
    simp [List.lookup]
  refine ks_wpAt_execs_cons (ks_wpAt_Expr_any (ks_wpAt_MethodCall (pl := pl) ?_ hev) (by show interactive (W.envX qual scope h.objs.size fI (.ref cda) [("__class__", cc)]) = false; unfold interactive; simp [W.envX, newEnv, kk]) (hsw0 _))
  refine ks_wpAt_super_base (ar := ar) ksup kcls (by decide) rfl (X0 _ _ lf) rfl hpar rfl (X0 _ _ lcode) rfl hvs hfile htop ?_
  refine W.ks_loadName_global kk ksup (Calls.loadGlobal_builtin (hG.keeps hk) hms (hb1.keeps hk) ((hb2 _ (by decide)).trans (by decide +kernel)) ⟨rfl, ?_⟩)
  refine wpAny_loadName_free kk kcls rfl ⟨_, X0 _ _ lcell, rfl⟩ ?_
  rw [har]
  refine wpAny_loadName_local (v := .ref a) kk kslf hns' look1 ?_
  refine ks_wpAny_isType_cls hD1 hD2 ⟨rfl, ?_⟩
  refine ks_wpAny_call_super hD1 hD2 ha0 rfl (fun c e => by cases e) (W.looks_mroIn X0 T.slf) (fun h1 e1 k1' => ?_)
  have X1 : K.In h1 := X0.keeps k1'
  have I1 : W.InstAt h1 a (HandSPX.excO C t1) C none := ⟨k1' _ _ ha0, rfl, rfl, trivial⟩
  have hsi := T.sup
  unfold W.ks_superIn at hsi
  rw [hcl] at hsi
  refine W.kxs_getMethod W.kxs_Exception e1 (W.looks_opaque X1 T.opq) (l₀ := cdD.mro) ?_ rfl X1 hsi (I1.type.andThen (W.looks_subIn X1 T.exE)) aC (by decide) ?_
  · exact fun A Q E s k q => wpAny_bind ((W.looks_clsIn X1 hcl) A _ E s k (wpAny_pure q))
  have k2' : ∀ b o, h0.get? b = some o → (h1.push (W.kxs_mw "Exception.__init__" a)).get? b = some o := fun b o z => Heap.get?_push_of_some _ (k1' _ _ z)
  have hu : (h1.push (W.kxs_mw "Exception.__init__" a)).get? h1.objs.size = some (W.kxs_mw "Exception.__init__" a) := Heap.get?_push_at rfl rfl
  show wpAny _ _ (callWith p3 (.ref h1.objs.size) [] (backTo p3 (starEach [eT] (W.envX qual scope h.objs.size fI (.ref cda) [("__class__", cc)]))) []) _ _ _
  rw [hst]
  refine W.kxs_callWith (i := "Exception.__init__") (x := a) rfl (Calls.evalArgs_plain (Calls.spliced_cons ?_))
  have hns2 : (h1.push (W.kxs_mw "Exception.__init__" a)).Ns h.objs.size (fun y => (args2 a x u).reverse.lookup y) := hns'.keeps k2'
  rw [if_neg Bool.false_ne_true]
  refine hT h.objs.size _ _ _ hns2 fun tx tk t' => ?_
  refine Calls.spliced_nil ⟨hu, ?_⟩
  refine PySem.ESX.call_bw (C := C) (k2' _ _ (hk _ _ hC)) (k2' _ _ ha0) hu (by show 1 ≤ sizeLine; decide) fun h3 t2 k3 e3 => ?_
  refine wpAt_of_wpAny (wpAny_execs_cons ?_)
  have kk3 : ∀ b o, b ≠ a → h0.get? b = some o → h3.get? b = some o := fun b o n z => k3 b o n (k2' _ _ z)
  have aL : h.objs.size ≠ a := Ne.symm (Nat.ne_of_lt (Heap.lt_size he))
  have X3 : K.In h3 := fun b o z => by
    have q := X0 b o z
    by_cases hb : b = a
    · subst hb
      rw [hKa] at z
      cases z
    · exact kk3 b o hb q
  have hns3 : h3.Ns h.objs.size (fun y => (args2 a x u).reverse.lookup y) := by
    obtain ⟨oL, es, ep, hL, r⟩ := hns'
    exact ⟨oL, es, ep, kk3 _ _ aL hL, r⟩
  refine plainObj_wpAny_Assign_Attribute ?_ (hsw1 _)
  refine PySem.ESX.ldL (v := u) hns3 look2 ?_ kk kx hxd
  refine PySem.ESX.ldL (v := .ref a) hns3 look1 ?_ kk kslf (by decide)
  refine store1 X3 e3 T.ov T.hd T.tk T.sa fun h4 t4 dx k4 n4 ne4 e4 s4 => ?_
  refine wpAny_execs_nil ?_
  refine hq h4 t4 dx t2 (fun b o n z => k4 b o n (kk3 b o n (hk b o z))) ?_ ne4 e4 s4
  obtain ⟨oL, es, ep, hL, r⟩ := hns3
  exact Nat.le_trans (Nat.le_of_lt (Heap.lt_size hL)) n4
end
end Er
namespace Er
open PySem PySem.Spec PyProof.Rows L2 Builtin Builtin.ObjectAttr

/-- called on a new exception at a, the __init__ at fI stores one attribute and returns -/
def InitRun (prog : Program) (w : World) (K : PySem.W.Frag) (mg : Str → Option Value) (C fI : Addr) (f : Str) (okU : Value → Prop) : Prop :=
  ∀ (A : Around) (R : Result → Shared → Prop) (h : Heap) (g : Array GenState) (d : Drawn) (t : Nat) (os : OsState) (a t1 : Addr) (u : Value), okU u → K.In h → h.NoLimit → h.Ns mainGlobals mg →
    (∃ mb, h.Ns builtinsNs mb ∧ ∀ y : Str, y ≠ "__name__" → mb y = bootBuiltins y) → A.depth < recursionLimit → h.get? a = some (HandSPX.excO C t1) → K.lookup a = none →
    (∀ h' t' dx t2, (∀ b o, b ≠ a → h.get? b = some o → h'.get? b = some o) → h.objs.size ≤ dx → dx ≠ a → h'.get? a = some { cls := .ref C, dict := some dx, data := .fields #[.ref t2, .none, .none, .none, .bool false, .none] } →
      h'.Ns1 dx (fun y => if y = f then some u else none) → R (.ok (.ret .none)) ⟨h', g, d, t', os⟩) →
    codeAny (model prog w) A (.call (.ref fI) ⟨[.ref a, u], []⟩) R ⟨h, g, d, t, os⟩

/-- C(e) made to be raised: the error's own dict is new and holds f = e -/
def tMkE (C : Addr) (f : Str) (okV : V → Prop) (ta : TA) : L2.St → Hp → XK → Prop := fun σ H Q => ta σ H fun vs H1 => ∃ v, vs = [v] ∧ okV v ∧ ∀ dx, H1 dx = none → Q (.ref C) (some dx) (upd H1 dx (.xd [(f, v)]))

section
variable {X : Cx} {e : Expr} {ta : TA} {f x : Str} {p pos : Pos} {C fI : Addr} {k : Nat} {okV : V → Prop} {okU : Value → Prop}
theorem pmk_er (T : XC X.K C fI f) (RI : InitRun X.prog X.w X.K X.mg C fI f okU) (hok : ∀ v u, RelV v u → okV v → okU u) (hr : Room (k + 1) X.A) (hg : Gl X x) (hm : X.mg x = some (.ref C)) (ha : PA X [e] ta)
    (hdb : (x == ("__debug__" : Str)) = false := by decide) (he : starEach [e] X.env = (false, eval e X.env) :: starEach [] X.env := by rfl) (hpl : (backTo pos (starEach [] X.env)).any (·.1) = false := by rfl) :
    PMk X (.Call (.Name x p) [e] [] pos) (tMkE C f okV ta) := by
  intro pins s σ H Q I h
  refine wpAny_Call_Name_kw (ld_glob I hg hm ?_ hdb)
  refine PySem.W.callWith_K (h₀ := X.base) I.ok.mod.kin T.kC (thn (ha.run pos pins s σ H _ I h) fun us s1 ⟨vs, H1, I1, r1, v, ev, hv, q1⟩ => ⟨I1.kIn, ?_⟩) he hpl
  subst ev
  show wpAny _ _ (call (.ref C) us) _ _ _
  obtain ⟨hp, g, dr, tk, os⟩ := s1
  cases r1 with
  | @cons _ u _ ur ra rr =>
  cases rr
  obtain ⟨nm, N', qn, bs, bm, hdct, sn, sub, ab, col, dd, k0, k1, k2, k3, k5, hC, hTT⟩ := PySem.W.excInit_of I1.kIn T.ini
  refine wpAny_call (HandSPX.call_own F.excBase_Exception hTT hC (PySem.W.looks_findIn I1.kIn T.iC) (fun self => PySem.W.bind_fn I1.kIn self T.tI) (by show 1 ≤ sizeLine; decide) ?_)
  have kk : ∀ b o, hp.get? b = some o → ((hp.push (PySem.W.kdv_tup [u])).push (HandSPX.excO C hp.objs.size)).get? b = some o := fun b o z => Heap.get?_push_of_some _ (Heap.get?_push_of_some _ z)
  have hget : ((hp.push (PySem.W.kdv_tup [u])).push (HandSPX.excO C hp.objs.size)).get? (hp.objs.size + 1) = some (HandSPX.excO C hp.objs.size) := by heap_get
  have nK : X.K.lookup (hp.objs.size + 1) = none := by
    cases z : X.K.lookup (hp.objs.size + 1) with
    | none => rfl
    | some o =>
      have y := Heap.lt_size (I1.kIn _ _ z)
      have y' : hp.objs.size + 1 < hp.objs.size := y
      omega
  have mb := I1.mod.blt
  obtain ⟨mb1, mb2, mb3⟩ := mb
  refine RI _ _ _ _ _ _ _ _ _ _ (hok _ _ ra hv) (I1.kIn.keeps kk) (I1.nolimit.keeps kk) ((I1.mod.glob.keeps I1.bk).keeps kk) ⟨mb1, (mb2.keeps I1.bk).keeps kk, mb3⟩ (hr.make C [u] []).depth hget nK fun h2 t2 dx ty k2 n2 ne2 e2 s2 => ?_
  have hsz : ((hp.push (PySem.W.kdv_tup [u])).push (HandSPX.excO C hp.objs.size)).objs.size = hp.objs.size + 2 := by simp [Heap.push]
  rw [hsz] at n2
  have na : ∀ {b : Addr} {o : Obj}, hp.get? b = some o → b ≠ hp.objs.size + 1 := fun {b o} z y => by
    have q := Heap.lt_size z
    rw [y] at q
    exact absurd q (Nat.not_lt.mpr (Nat.le_succ _))
  obtain ⟨G, g1, g2⟩ := restrict h2 fun b => decide (b ≠ hp.objs.size + 1)
  have gk : ∀ b, b ≠ hp.objs.size + 1 → G.get? b = h2.get? b := fun b hb => g1 b (decide_eq_true hb)
  have ge : G.get? (hp.objs.size + 1) = none := g2 _ (by simp)
  have nd : H1 dx = none := I1.hok.fresh (show hp.objs.size ≤ dx by have : hp.objs.size + 2 ≤ dx := n2; omega)
  have nHa : H1 (hp.objs.size + 1) = none := I1.hok.fresh (Nat.le_succ _)
  have J : Inv X pins σ (upd H1 dx (.xd [(f, v)])) ⟨G, g, dr, ty, os⟩ := by
    refine I1.laid (t' := ty) (a := dx) (o := .xd [(f, v)]) (h' := G) (fun b o z => ?_) (by have : hp.objs.size + 2 ≤ dx := n2; show hp.objs.size ≤ dx; omega) ?_
    · rw [gk b (na z)]
      exact k2 b o (na z) (kk b o z)
    · obtain ⟨oD, es, ep, hD, r⟩ := s2
      refine ⟨fun y => if y = f then some u else none, ⟨oD, es, ep, (gk dx ne2).trans hD, r⟩, fun y => ?_⟩
      show RelO (([(f, v)] : List (Str × V)).lookup y) (if y = f then some u else none)
      by_cases hy : y = f
      · subst hy
        rw [if_pos rfl]
        simp [List.lookup]
        exact ra
      · rw [if_neg hy]
        have z : (y == f) = false := by simpa using hy
        simp [List.lookup, z]
        trivial
  refine ⟨rfl, hp.objs.size + 1, _, _, ⟨G, g, dr, ty, os⟩, _, .ref C, some dx, rfl, J, fun b o z => ?_, ge, e2, ⟨rfl, rfl⟩, rfl, rfl, ?_, rfl, I1.bare, raises_own T.exC T.tyC, q1 dx nd⟩
  · by_cases hb : b = hp.objs.size + 1
    · rw [hb, ge] at z
      cases z
    · exact (gk b hb).symm.trans z
  · rw [upd_ne (Ne.symm ne2)]
    exact nHa
end
end Er
/-! try with several clauses, each with or without a name behind it -/
namespace Er
open PySem PySem.Spec PyProof.Rows L2

abbrev Suite := Addr → Value → Option Addr → TS
/-- behind a named clause the name is gone -/
def unName (i : Nat) (D : Ends) : Ends := { nx := fun σ H => D.nx (σ.set i none) H, rt := D.rt, bk := fun σ H => D.bk (σ.set i none) H, ct := fun σ H => D.ct (σ.set i none) H }
/-- what a chain of clauses wishes of an error of the body: (class, the name's slot if there is one, its suite's reading) -/
def wCh (K : PySem.W.Frag) (Wout : WX) (D : Ends) : List (Value × Option Nat × Suite) → WX
  | [] => Wout
  | (c, none, ts) :: r => fun cls d σ H => ∃ b, PySem.W.exmOne K cls c = some b ∧ (b = true → ∀ a, H a = none → ts a cls d D σ H) ∧ (b = false → wCh K Wout D r cls d σ H)
  | (c, some i, ts) :: r => fun cls d σ H => ∃ b, PySem.W.exmOne K cls c = some b ∧ (b = true → ∀ a, H a = none → ts a cls d (unName i D) (σ.set i (some (.ref a))) H) ∧ (b = false → wCh K Wout D r cls d σ H)
/-- the clauses' texts and their readings -/
inductive Clauses (X : Cx) : List ExceptHandler → List (Value × Option Nat × Suite) → Prop
  | nil : Clauses X [] []
  | plain {x : Str} {c : Value} {ts : Suite} {b0 : Stmt} {suite : List Stmt} {np p : Pos} {hds : List ExceptHandler} {l : List (Value × Option Nat × Suite)} (hc : Names X x c)
      (hs : ∀ (a : Addr) (oe : Obj) (cls : Value) (d : Option Addr) (pn : List (Addr × Obj)), Zc cls d oe → (∃ vs, oe.data = .fields vs) → PSs (X.suite a ((a, oe) :: pn)) (b0 :: suite) (ts a cls d)) (r : Clauses X hds l) :
      Clauses X (.ExceptHandler (some (.Name x np)) none (b0 :: suite) p :: hds) ((c, none, ts) :: l)
  | named {x n : Str} {i : Nat} {c : Value} {ts : Suite} {b0 : Stmt} {suite : List Stmt} {np p : Pos} {hds : List ExceptHandler} {l : List (Value × Option Nat × Suite)} (hc : Names X x c) (hi : X.N[i]? = some n) (hl : X.env.kindOf n = some .local)
      (hs : ∀ (a : Addr) (oe : Obj) (cls : Value) (d : Option Addr) (pn : List (Addr × Obj)), Zc cls d oe → (∃ vs, oe.data = .fields vs) → PSs (X.suite a ((a, oe) :: pn)) (b0 :: suite) (ts a cls d)) (r : Clauses X hds l) :
      Clauses X (.ExceptHandler (some (.Name x np)) (some n) (b0 :: suite) p :: hds) ((c, some i, ts) :: l)

/-- an error that came to a try of this frame -/
structure Came (X : Cx) (pins : List (Addr × Obj)) (σ : L2.St) (H : Hp) (a : Addr) (cls : Value) (d : Option Addr) (B : Heap) (sI s : Shared) : Prop where
  J : Inv X pins σ H sI
  nb : ∀ b o, sI.heap.get? b = some o → b ∉ frs X.stack → B.get? b = some o
  up : sI.heap.UpToSlots s.heap
  fl : HandSPX.FlyingZ B (X.env :: X.outer) a (Zc cls d) s.heap
  na : H a = none
  os : s.os = sI.os
  ag : AllBare s.gens
  nL : a ≠ X.env.locals
  nF : a ∉ X.fs

section
variable {X : Cx} {pins : List (Addr × Obj)} {σ : L2.St} {H : Hp} {a : Addr} {cls : Value} {d : Option Addr} {B : Heap} {sI s : Shared} {D : Ends} {Wout : WX}
theorem Came.inv (c : Came X pins σ H a cls d B sI s) : Inv X pins σ H s := c.J.landed c.nb c.fl.1 c.up c.os c.ag
theorem Came.on (c : Came X pins σ H a cls d B sI s) {h : Heap} (fl : HandSPX.FlyingZ B (X.env :: X.outer) a (Zc cls d) h) (u : s.heap.UpToSlots h) : Came X pins σ H a cls d B sI { s with heap := h } :=
  ⟨c.J, c.nb, c.up.trans u, fl, c.na, c.os, c.ag, c.nL, c.nF⟩
theorem Came.held (c : Came X pins σ H a cls d B sI s) : ∃ oe vs, s.heap.get? a = some oe ∧ Zc cls d oe ∧ oe.data = .fields vs ∧ Inv (X.suite a ((a, oe) :: (X.pn ++ pins))) [] σ H s := by
  obtain ⟨oe, vs, h1, h2, h3⟩ := c.fl.there
  exact ⟨oe, vs, h1, h2, h3, c.inv.suite h1 h3 c.na c.nL c.nF⟩
/-- one clause's test -/
theorem Came.test (c : Came X pins σ H a cls d B sI s) {x : Str} {cv : Value} {np : Pos} {b : Bool} (hc : Names X x cv) (hb : PySem.W.exmOne X.K cls cv = some b) {Q : Bool → Shared → Prop} {E : Value → Shared → Prop} (q : Q b s) :
    wpAny (model X.prog X.w) (X.A.mark (some (.ref a))) (eval (.Name x np) X.env) (fun v s1 => wpAny (model X.prog X.w) (X.A.mark (some (.ref a))) (excMatches (.ref a) v) Q E s1) E s := by
  obtain ⟨oe, vs, h1, h2, h3, S⟩ := c.held
  have LT : PySem.W.Looks (model X.prog X.w) s.heap (typeOf (.ref a)) cls := fun A Q E s k q => wpAny_typeOf_ref (k _ _ h1) (by rw [h2.1]; exact q)
  have LM := PySem.W.exm_one (M := model X.prog X.w) c.inv.kIn LT hb
  obtain ⟨hg, hd, hm | ⟨hm, hv, hn⟩⟩ := hc
  · exact ld_glob (X := X.suite a ((a, oe) :: (X.pn ++ pins))) S hg hm (LM.here q) hd
  · exact ld_blt (X := X.suite a ((a, oe) :: (X.pn ++ pins))) S hg hm hv (LM.here q) hn hd
/-- no clause is left: on it flies -/
theorem Came.out (c : Came X pins σ H a cls d B sI s) (hs : X.stack = X.env :: X.outer) (hf : X.env.frame = some X.env.locals) (tk : Takes X Wout) (w : Wout cls d σ H) :
    wpAny (model X.prog X.w) X.A (handleBy (.ref a) X.env []) (SP X pins D) X.xe s := by
  refine wpAny_handleBy_nil ?_
  have fl := c.fl
  obtain ⟨_, _, _, oe, vs, T, oT, ts, he, hz, hd, h1, hr⟩ := id fl
  have away : wpAny (model X.prog X.w) X.A (setFlight (.ref a) X.env.frame) (fun _ s4 => wpAny (model X.prog X.w) X.A (throw (.ref a) : Sem Flow) (SP X pins D) X.xe s4) X.xe s := by
    rw [hf]
    exact HandSPX.setFlight_upZ fl fun h4 held up4 => wpAny_throw (tk _ _ ⟨a, B, sI, pins, σ, H, cls, d, rfl, c.J, c.nb, c.up.trans up4, .inr (.inr (by rw [hs]; exact held)), c.na, c.os, c.ag, w⟩)
  unfold PySem.passOn
  refine wpAny_bind (wpAny_field he hd h1 ?_)
  rw [if_neg (by simp)]
  first
    | exact wpAny_bind (wpAny_pure (wpAny_bind away))
    | exact wpAny_bind away
theorem chain_ok (hs : X.stack = X.env :: X.outer) (hf : X.env.frame = some X.env.locals) (hN : X.N.Nodup) (tk : Takes X Wout) {hds : List ExceptHandler} {l : List (Value × Option Nat × Suite)} (hk : Clauses X hds l) :
    ∀ {s : Shared}, Came X pins σ H a cls d B sI s → wCh X.K Wout D l cls d σ H → wpAny (model X.prog X.w) X.A (handleBy (.ref a) X.env hds) (SP X pins D) X.xe s := by
  induction hk with
  | nil => exact fun c w => c.out hs hf tk w
  | @plain x cv ts b0 suite np p hds l hc hsu r ih =>
    intro s c w
    obtain ⟨b, hb, hy, hn⟩ := w
    refine wpAny_handleBy_cons (codeAny_handlers_test (c.test hc hb ?_)) (by intro q; cases q)
    cases b with
    | false =>
      show wpAny _ X.A (handleBy (.ref a) X.env hds) _ _ _
      exact ih c (hn rfl)
    | true =>
      refine codeAny_handlers_suite (HandSPX.lands_againZ c.fl fun h4 fl4 up4 => ?_)
      obtain ⟨oe, vs, h1, h2, h3, S⟩ := (c.on fl4 up4).held
      have ok := c.J.ok
      refine wpAny_mono ((hsu a oe cls d (X.pn ++ pins) h2 ⟨_, h3⟩).run [] _ _ H _ S (hy rfl a c.na)) (fun f s6 q => ?_) (fun _ _ z => False.elim z)
      cases f with
      | ret u =>
        obtain ⟨v6, σ6, H6, S6, r6, q6⟩ := q
        exact ⟨_, _, _, S6.unsuite ok, r6, q6⟩
      | next | brk | cont =>
        obtain ⟨σ6, H6, S6, q6⟩ := q
        exact ⟨_, _, S6.unsuite ok, q6⟩
  | @named x n i cv ts b0 suite np p hds l hc hi hl hsu r ih =>
    intro s c w
    obtain ⟨b, hb, hy, hn⟩ := w
    refine wpAny_handleBy_cons (codeAny_handlers_test (c.test hc hb ?_)) (by intro q; cases q)
    cases b with
    | false =>
      show wpAny _ X.A (handleBy (.ref a) X.env hds) _ _ _
      exact ih c (hn rfl)
    | true =>
      refine codeAny_handlers_suite_as (HandSPX.lands_againZ c.fl fun h4 fl4 up4 => ?_)
      obtain ⟨oe, vs, h1, h2, h3, S⟩ := (c.on fl4 up4).held
      have ok := c.J.ok
      refine store_ok (X := X.suite a ((a, oe) :: (X.pn ++ pins))) (v := .ref a) S hN hi (.inl hl) rfl (fun s5 S5 => ?_) (.inr hl)
      refine wpAny_mono ((hsu a oe cls d (X.pn ++ pins) h2 ⟨_, h3⟩).run [] s5 _ H _ S5 (hy rfl a c.na)) (fun f s6 q => ?_) (fun _ _ z => False.elim z)
      have gone : ∀ {σ6 : L2.St} {H6 : Hp} {Q : Shared → Prop}, Inv (X.suite a ((a, oe) :: (X.pn ++ pins))) [] σ6 H6 s6 → (∀ s7, Inv X pins (σ6.set i none) H6 s7 → Q s7) →
        wpAny (model X.prog X.w) X.A (do bindName X.env n .none; unbindBehindTheSuite X.env n p) (fun _ s7 => Q s7) X.xe s6 := fun S6 k => gone_ok (S6.unsuite ok) hN hi hl k
      cases f with
      | ret u =>
        obtain ⟨v6, σ6, H6, S6, r6, q6⟩ := q
        exact gone S6 fun s7 J7 => ⟨_, _, _, J7, r6, q6⟩
      | next | brk | cont =>
        obtain ⟨σ6, H6, S6, q6⟩ := q
        exact gone S6 fun s7 J7 => ⟨_, _, J7, q6⟩
end

section
variable {X : Cx} {body : List Stmt} {h0 : ExceptHandler} {hds : List ExceptHandler} {l : List (Value × Option Nat × Suite)} {pos : Pos} {tb : WX → TS} {Wout : WX}
/-- try: body except A as x: .. except B: .. -/
theorem ps_try_ch (hs : X.stack = X.env :: X.outer) (hf : X.env.frame = some X.env.locals) (hN : X.N.Nodup) (tk : Takes X Wout)
    (hb : ∀ (W : WX) (pn : List (Addr × Obj)) (xe : Value → Shared → Prop), Takes (X.tr pn xe) W → PassesOwn (model X.prog X.w) X.A X.env xe → PSs (X.tr pn xe) body (tb W)) (hh : Clauses X (h0 :: hds) l) :
    PS X (.Try body (h0 :: hds) [] [] pos) (fun D σ H => tb (wCh X.K Wout D l) D σ H) := by
  refine ⟨fun pins s σ H D I h => wpAny_Try_except ?_⟩
  have ok := I.ok
  have hfr : X.A.frames = some (X.env :: X.outer) := ok.frames.trans (congrArg some hs)
  refine wpAny_mono ((hb (wCh X.K Wout D l) (X.pn ++ pins) (fun e s1 => wpAny (model X.prog X.w) X.A (noteFrame e X.env) (fun _ s2 => wpAny (model X.prog X.w) X.A (setFlight e none) (fun _ s3 =>
    wpAny (model X.prog X.w) X.A (handleBy e X.env (h0 :: hds)) (SP X pins D) X.xe s3) X.xe s2) X.xe s1) (fun u s' xx => ?_) PassesOwn.looking).run [] s σ H D (I.toTry _) h) (fun f s1 q => ?_) (fun e s1 he => he)
  · obtain ⟨a, B, sI, pins', σ', H', cls, d, eu, J', nb, up, sky, na, os, ag, w⟩ := xx
    subst eu
    have sky' : Sky B (X.env :: X.outer) a (Zc cls d) X.env.locals s'.heap := by rw [← hs]; exact sky
    show wpAny (model X.prog X.w) X.A (noteFrame (.ref a) X.env) _ _ _
    refine Sky.land Zc.steady hfr hf sky' fun h3 fl3 up3 => ?_
    obtain ⟨oe, vs, he, hz, hd⟩ := fl3.there
    have far : a ∉ frs (X.env :: X.outer) := fun hm => by
      obtain ⟨_, o', e', nf⟩ := fl3.2.2.1.mem hm
      rw [he] at e'
      cases e'
      exact nf _ hd
    refine chain_ok hs hf hN tk hh ⟨J'.ofTry ok, nb, up.trans up3, fl3, na, os, ag, fun z => far (List.mem_filterMap.mpr ⟨X.env, List.mem_cons_self, by rw [hf, z]⟩), fun hm => ?_⟩ w
    obtain ⟨e, he', q'⟩ := List.mem_filterMap.mp hm
    exact far (List.mem_filterMap.mpr ⟨e, List.mem_cons_of_mem _ he', q'⟩)
  · cases f with
    | next =>
      obtain ⟨σ', H', J', q⟩ := q
      exact wpAny_execs_nil ⟨σ', H', J'.ofTry ok, q⟩
    | ret u =>
      obtain ⟨v, σ', H', J', r, q⟩ := q
      exact ⟨v, σ', H', J'.ofTry ok, r, q⟩
    | brk | cont =>
      obtain ⟨σ', H', J', q⟩ := q
      exact ⟨σ', H', J'.ofTry ok, q⟩
end
end Er
/-! a def, a method, a class of the program, each with its promise, in one word -/
namespace Er
open PySem PySem.Spec PyProof.Rows L2

/-- the def x keeps the promise sp -/
def Fok (P : Program) (w : World) (K : PySem.W.Frag) (mg : Str → Option Value) (base : Heap) (k : Nat) (x : Str) (ps : List Str) (sp : Sp) : Prop :=
  ∃ (f : Addr) (fd : FuncData), mg x = some (.ref f) ∧ PySem.W.keepIn K (.ref f) = true ∧ Binds K fd ps [] ∧ FnOk P w K mg base (L2.CX P w) k f fd ps sp
/-- the method m of the class at C keeps the promise sp -/
def Mok (P : Program) (w : World) (K : PySem.W.Frag) (mg : Str → Option Value) (base : Heap) (C : Addr) (k : Nat) (m : Str) (ps : List Str) (sp : Sp) : Prop :=
  ∃ (f : Addr) (fd : FuncData), Meth K C m f ∧ Binds K fd ps [] ∧ FnOk P w K mg base (L2.CX P w) k f fd ps sp
/-- the class x at C, its __init__ keeps the promise sp -/
def Cok (P : Program) (w : World) (K : PySem.W.Frag) (mg : Str → Option Value) (base : Heap) (C : Addr) (k : Nat) (x : Str) (ps : List Str) (sp : Sp) : Prop :=
  ∃ (f : Addr) (fd : FuncData), Mk K C f ∧ mg x = some (.ref C) ∧ Binds K fd ps [] ∧ FnOk P w K mg base (L2.CX P w) k f fd ps sp
/-- the property of the class at C -/
def Pok (P : Program) (w : World) (K : PySem.W.Frag) (mg : Str → Option Value) (base : Heap) (C : Addr) (k : Nat) (m : Str) (ps : List Str) (sp : Sp) : Prop :=
  ∃ (p g : Addr) (fd : FuncData), PropOf K C m p g ∧ Binds K fd ps [] ∧ FnOk P w K mg base (L2.CX P w) k g fd ps sp

/-- what is raised is wished for at any slots of the frame's length -/
def allW (n : Nat) (W : WX) : XK := fun cls d H => ∀ σ : L2.St, σ.length = n → W cls d σ H
theorem passAll {X : Cx} {W : WX} (tk : Takes X W) : Passes (L2.CX X.prog X.w) X (allW X.N.length W) := fun _ σ _ _ e s' I c => tk e s' (XE.of_call I (fun _ _ _ h => h σ I.len) c)
theorem passOut {X : Cx} {E : XK} (tk : Takes X (fun c d _ H => E c d H)) : Passes (L2.CX X.prog X.w) X E := passes_call tk fun _ _ _ _ h => h

section
variable {X : Cx} {k : Nat} {C : Addr} {x m : Str} {ps : List Str} {sp : Sp} {E : XK} {p pos apos : Pos} {e o : Expr} {es : List Expr} {ta : TE} {t : TA} {W : WX}
/-- f(e, ..), nothing is raised -/
theorem pe_f (D : Fok X.prog X.w X.K X.mg X.base k x ps sp) (hr : Room k X.A) (ha : PA X (e :: es) t) (hg : Gl X x := by rfl) (hdb : (x == ("__debug__" : Str)) = false := by decide) (he : starEach (e :: es) X.env = (false, eval e X.env) :: starEach es X.env := by rfl)
    (hpl : (backTo pos (starEach es X.env)).any (·.1) = false := by rfl) : PE X (.Call (.Name x p) (e :: es) [] pos) (tCall sp [] E0 t) := by
  obtain ⟨f, fd, hm, kp, b, F⟩ := D
  exact pe_call F hr hg hm kp b .nil passL ha hdb he hpl
/-- f(e, ..), what is raised leaves this def too -/
theorem pe_fX (D : Fok X.prog X.w X.K X.mg X.base k x ps sp) (hr : Room k X.A) (tk : Takes X (fun c d _ H => E c d H)) (ha : PA X (e :: es) t) (hg : Gl X x := by rfl) (hdb : (x == ("__debug__" : Str)) = false := by decide)
    (he : starEach (e :: es) X.env = (false, eval e X.env) :: starEach es X.env := by rfl) (hpl : (backTo pos (starEach es X.env)).any (·.1) = false := by rfl) : PE X (.Call (.Name x p) (e :: es) [] pos) (tCall sp [] E t) := by
  obtain ⟨f, fd, hm, kp, b, F⟩ := D
  exact pe_call F hr hg hm kp b .nil (passOut tk) ha hdb he hpl
/-- f(e, ..) within a try -/
theorem pe_fT (D : Fok X.prog X.w X.K X.mg X.base k x ps sp) (hr : Room k X.A) (n : Nat) (tk : Takes X W) (ha : PA X (e :: es) t) (hg : Gl X x := by rfl) (hdb : (x == ("__debug__" : Str)) = false := by decide)
    (he : starEach (e :: es) X.env = (false, eval e X.env) :: starEach es X.env := by rfl) (hpl : (backTo pos (starEach es X.env)).any (·.1) = false := by rfl) (hn : X.N.length = n := by rfl) : PE X (.Call (.Name x p) (e :: es) [] pos) (tCall sp [] (allW n W) t) := by
  subst hn
  obtain ⟨f, fd, hm, kp, b, F⟩ := D
  exact pe_call F hr hg hm kp b .nil (passAll tk) ha hdb he hpl
theorem pe_m {pl : Sem Bool} (he : PE X o ta) (c : Cls X.K C) (D : Mok X.prog X.w X.K X.mg X.base C k m ps sp) (hr : Room k X.A) (ha : PA X (e :: es) t) (hst : starEach (e :: es) X.env = (false, eval e X.env) :: starEach es X.env := by rfl)
    (hpl : (backTo pos (starEach es X.env)).any (·.1) = false := by rfl)
    (ht : eval (.Call (.Attribute o m apos) (e :: es) [] pos) X.env = (do
      let ov ← eval o X.env
      standAt apos.atName
      let (f, first) ← holding [ov] (getMethod ov m pl)
      callWith pos f first (backTo pos (starEach (e :: es) X.env)) (backToKw pos (keywordEach [] X.env))) := by rfl) : PE X (.Call (.Attribute o m apos) (e :: es) [] pos) (tMeth C m sp [] E0 ta t) := by
  obtain ⟨f, fd, hm, b, F⟩ := D
  exact pe_meth he c hm F hr b .nil passL ha hst hpl ht
theorem pe_mX {pl : Sem Bool} (he : PE X o ta) (c : Cls X.K C) (D : Mok X.prog X.w X.K X.mg X.base C k m ps sp) (hr : Room k X.A) (tk : Takes X (fun c d _ H => E c d H)) (ha : PA X (e :: es) t) (hst : starEach (e :: es) X.env = (false, eval e X.env) :: starEach es X.env := by rfl)
    (hpl : (backTo pos (starEach es X.env)).any (·.1) = false := by rfl)
    (ht : eval (.Call (.Attribute o m apos) (e :: es) [] pos) X.env = (do
      let ov ← eval o X.env
      standAt apos.atName
      let (f, first) ← holding [ov] (getMethod ov m pl)
      callWith pos f first (backTo pos (starEach (e :: es) X.env)) (backToKw pos (keywordEach [] X.env))) := by rfl) : PE X (.Call (.Attribute o m apos) (e :: es) [] pos) (tMeth C m sp [] E ta t) := by
  obtain ⟨f, fd, hm, b, F⟩ := D
  exact pe_meth he c hm F hr b .nil (passOut tk) ha hst hpl ht
theorem pe_mT {pl : Sem Bool} (he : PE X o ta) (c : Cls X.K C) (D : Mok X.prog X.w X.K X.mg X.base C k m ps sp) (hr : Room k X.A) (n : Nat) (tk : Takes X W) (ha : PA X (e :: es) t) (hst : starEach (e :: es) X.env = (false, eval e X.env) :: starEach es X.env := by rfl)
    (hpl : (backTo pos (starEach es X.env)).any (·.1) = false := by rfl)
    (ht : eval (.Call (.Attribute o m apos) (e :: es) [] pos) X.env = (do
      let ov ← eval o X.env
      standAt apos.atName
      let (f, first) ← holding [ov] (getMethod ov m pl)
      callWith pos f first (backTo pos (starEach (e :: es) X.env)) (backToKw pos (keywordEach [] X.env))) := by rfl) (hn : X.N.length = n := by rfl) : PE X (.Call (.Attribute o m apos) (e :: es) [] pos) (tMeth C m sp [] (allW n W) ta t) := by
  subst hn
  obtain ⟨f, fd, hm, b, F⟩ := D
  exact pe_meth he c hm F hr b .nil (passAll tk) ha hst hpl ht
theorem pe_c (D : Cok X.prog X.w X.K X.mg X.base C k x ps sp) (hr : Room (k + 1) X.A) (ha : PA X (e :: es) t) (hg : Gl X x := by rfl) (hdb : (x == ("__debug__" : Str)) = false := by decide) (he : starEach (e :: es) X.env = (false, eval e X.env) :: starEach es X.env := by rfl)
    (hpl : (backTo pos (starEach es X.env)).any (·.1) = false := by rfl) : PE X (.Call (.Name x p) (e :: es) [] pos) (tMake C sp [] E0 t) := by
  obtain ⟨f, fd, M, hm, b, F⟩ := D
  exact pe_make M F hr hg hm b .nil passL ha hdb he hpl
theorem pe_cX (D : Cok X.prog X.w X.K X.mg X.base C k x ps sp) (hr : Room (k + 1) X.A) (tk : Takes X (fun c d _ H => E c d H)) (ha : PA X (e :: es) t) (hg : Gl X x := by rfl) (hdb : (x == ("__debug__" : Str)) = false := by decide)
    (he : starEach (e :: es) X.env = (false, eval e X.env) :: starEach es X.env := by rfl) (hpl : (backTo pos (starEach es X.env)).any (·.1) = false := by rfl) : PE X (.Call (.Name x p) (e :: es) [] pos) (tMake C sp [] E t) := by
  obtain ⟨f, fd, M, hm, b, F⟩ := D
  exact pe_make M F hr hg hm b .nil (passOut tk) ha hdb he hpl
theorem pe_cT (D : Cok X.prog X.w X.K X.mg X.base C k x ps sp) (hr : Room (k + 1) X.A) (n : Nat) (tk : Takes X W) (ha : PA X (e :: es) t) (hg : Gl X x := by rfl) (hdb : (x == ("__debug__" : Str)) = false := by decide)
    (he : starEach (e :: es) X.env = (false, eval e X.env) :: starEach es X.env := by rfl) (hpl : (backTo pos (starEach es X.env)).any (·.1) = false := by rfl) (hn : X.N.length = n := by rfl) : PE X (.Call (.Name x p) (e :: es) [] pos) (tMake C sp [] (allW n W) t) := by
  subst hn
  obtain ⟨f, fd, M, hm, b, F⟩ := D
  exact pe_make M F hr hg hm b .nil (passAll tk) ha hdb he hpl
theorem pe_p (he : PE X e ta) (c : Cls X.K C) (D : Pok X.prog X.w X.K X.mg X.base C k m ps sp) (hr : Room (k + 1) X.A) (hab : attributeBase e m X.env (eval e X.env) = eval e X.env := by rfl) : PE X (.Attribute e m pos) (tProp C sp [] E0 ta) := by
  obtain ⟨q, g, fd, hp, b, F⟩ := D
  exact pe_prop he c hp F hr b .nil (fun pins σ H s e s' I h => by
    obtain ⟨_, _, _, _, _, _, _, _, _, _, _, _, z⟩ := h
    exact z.elim) hab
end

/-! ### things of unknown kind -/
/-- a value with the name of its type -/
inductive Sm (K : PySem.W.Frag) (H : Hp) : V → String → Prop
  | non : Sm K H .non "NoneType"
  | bl (b : Bool) : Sm K H (.bl b) "bool"
  | int (i : Int) : Sm K H (.int i) "int"
  | str (x : Str) : Sm K H (.str x) "str"
  | lst {a : Addr} {xs : List V} (h : SqL K H a xs) : Sm K H (.ref a) "list"
  | tup {a : Addr} {xs : List V} (h : SqT K H a xs) : Sm K H (.ref a) "tuple"
end Er
/-! readings, step by step: one lemma a combinator -/
namespace Er
open PySem PySem.Spec PyProof.Rows L2
section
variable {D : Ends} {σ : L2.St} {H : Hp} {Q : VK} {QT : Bool → Hp → Prop} {t u : TS} {ta tb te : TE} {tt tu : TT} {i : Nat} {v x y : V} {K : PySem.W.Frag}
theorem r_seq (h : t { D with nx := u D } σ H) : tSeq t u D σ H := h
theorem r_nx (h : D.nx σ H) : tNext D σ H := h
theorem r_asgN (h : te σ H fun x H1 => D.nx (σ.set i (some x)) H1) : tAsg te (gName i) D σ H := h
theorem r_asgS {to ti : TE} {r : TSet} (h : te σ H fun x H1 => to σ H1 fun o H2 => ti σ H2 fun k H3 => r o k x H3 fun H4 => D.nx σ H4) : tAsg te (gSub to ti r) D σ H := h
theorem r_asgT {n : Nat} {tg : TGs} (h : te σ H fun x H1 => gTup K n tg x σ H1 D.nx) : tAsg te (gTup K n tg) D σ H := h
theorem r_ifS (h : tt σ H fun b H1 => if b = true then t D σ H1 else u D σ H1) : tIfS tt t u D σ H := h
theorem r_ret (h : te σ H D.rt) : tRet te D σ H := h
theorem r_retN (h : D.rt .non H) : tRetN D σ H := h
theorem r_drop (h : te σ H fun _ H1 => D.nx σ H1) : tDrop te D σ H := h
theorem r_test (h : te σ H fun x H' => ∃ k, x = .bl k ∧ QT k H') : tTest te σ H QT := h
theorem r_B (h : te σ H fun x H' => ∃ k, x = .bl k ∧ QT k H') : tB te σ H QT := h
theorem r_not (h : tt σ H fun c H1 => QT (!c) H1) : tNot tt σ H QT := h
theorem r_and (h : tt σ H fun c H1 => if c = true then tu σ H1 QT else QT false H1) : tAnd tt tu σ H QT := h
theorem r_or (h : tt σ H fun c H1 => if c = true then QT true H1 else tu σ H1 QT) : tOr tt tu σ H QT := h
theorem r_andV (h : ta σ H fun x H1 => ∃ c, x = .bl c ∧ if c = true then tb σ H1 Q else Q (.bl false) H1) : tAndV ta tb σ H Q := h
theorem r_orV (h : ta σ H fun x H1 => ∃ c, x = .bl c ∧ if c = true then Q (.bl true) H1 else tb σ H1 Q) : tOrV ta tb σ H Q := h
theorem r_notV (h : ta σ H fun x H1 => ∃ c, x = .bl c ∧ Q (.bl (!c)) H1) : tNotV ta σ H Q := h
theorem r_var (e : σ[i]? = some (some v)) (q : Q v H) : tVar i σ H Q := ⟨v, e, q⟩
theorem r_c (q : Q v H) : tC v σ H Q := q
theorem r_op {r : R2} (h : ta σ H fun x H1 => tb σ H1 fun y H2 => r x y H2 Q) : tOp r ta tb σ H Q := h
theorem r_un {r : V → Hp → VK → Prop} (h : ta σ H fun x H1 => r x H1 Q) : tUn r ta σ H Q := h
theorem r_I0 {g : Int → Int → V} {a b : Int} (q : Q (g a b) H) : rI0 g (.int a) (.int b) H Q := ⟨a, b, rfl, rfl, q⟩
theorem r_I {C : Int → Int → Prop} {g : Int → Int → V} {a b : Int} (c : C a b) (q : Q (g a b) H) : rI C g (.int a) (.int b) H Q := ⟨a, b, rfl, rfl, c, q⟩
theorem r_eqI {a b : Int} (q : Q (.bl (decide (a = b))) H) : rEq (.int a) (.int b) H Q := ⟨rfl, by
  have e : decide ((V.int a) = V.int b) = decide (a = b) := by
    by_cases h : a = b
    · subst h; simp
    · rw [decide_eq_false h, decide_eq_false]
      exact fun z => h (V.int.inj z)
  rw [e]; exact q⟩
theorem r_neI {a b : Int} (q : Q (.bl (!decide (a = b))) H) : rNe (.int a) (.int b) H Q := ⟨rfl, by
  have e : decide ((V.int a) = V.int b) = decide (a = b) := by
    by_cases h : a = b
    · subst h; simp
    · rw [decide_eq_false h, decide_eq_false]
      exact fun z => h (V.int.inj z)
  rw [e]; exact q⟩
theorem r_bl {k : Bool} {B : Bool → Prop} (q : B k) : ∃ k', V.bl k = .bl k' ∧ B k' := ⟨k, rfl, q⟩
theorem r_nil {QA : List V → Hp → Prop} (q : QA [] H) : tNil σ H QA := q
theorem r_cons {ts : TA} {QA : List V → Hp → Prop} (h : ta σ H fun x H1 => ts σ H1 fun xs H2 => QA (x :: xs) H2) : tCons ta ts σ H QA := h
theorem r_cb {r : List V → Hp → VK → Prop} {ts : TA} (h : ts σ H fun vs H1 => r vs H1 Q) : tCB r ts σ H Q := h
theorem r_call {sp : Sp} {dvs : List V} {E : XK} {ts : TA} (h : ts σ H fun vs H1 => sp (vs ++ dvs) H1 Q E) : tCall sp dvs E ts σ H Q := h
theorem r_tup {ts : TA} (h : ts σ H fun xs H1 => xs.length ≤ sizeLine ∧ ∀ p, H1 p = none → Q (.ref p) (upd H1 p (.tup xs))) : tTup ts σ H Q := h
theorem r_lst {ts : TA} (h : ts σ H fun xs H1 => xs.length ≤ sizeLine ∧ ∀ p, H1 p = none → Q (.ref p) (upd H1 p (.lst xs))) : tLst ts σ H Q := h
def fldR (K : PySem.W.Frag) (f : Str) (x : V) (H1 : Hp) (Q : VK) : Prop := ∃ a C dx fs v, x = .ref a ∧ H1 a = some (.ins C dx fs) ∧ Cls K C ∧ NoAttr K C f ∧ fs.lookup f = some v ∧ Q v H1
theorem r_fld {f : Str} (h : ta σ H fun x H1 => fldR K f x H1 Q) : tFld K ta f σ H Q := h
theorem r_fldR {f : Str} {a C dx : Addr} {fs : List (Str × V)} (ha : H a = some (.ins C dx fs)) (c : Cls K C) (n : NoAttr K C f) (l : fs.lookup f = some v) (q : Q v H) : fldR K f (.ref a) H Q := ⟨a, C, dx, fs, v, rfl, ha, c, n, l, q⟩
theorem r_ixL {p : Addr} {xs : List V} {k : Int} (h : SqL K H p xs) (e : atI xs k = some v) (q : Q v H) : rIxL K (.ref p) (.int k) H Q := ⟨p, xs, k, v, rfl, rfl, h, e, q⟩
theorem r_ixT {p : Addr} {xs : List V} {k : Int} (h : SqT K H p xs) (e : atI xs k = some v) (q : Q v H) : rIxT K (.ref p) (.int k) H Q := ⟨p, xs, k, v, rfl, rfl, h, e, q⟩
theorem r_setL {p : Addr} {xs : List V} {k : Int} {j : Nat} {QH : Hp → Prop} (h : H p = some (.lst xs)) (e : ixN xs.length k = some j) (q : QH (upd H p (.lst (xs.set j v)))) : rSetL (.ref p) (.int k) v H QH := ⟨p, xs, k, j, rfl, rfl, h, e, q⟩
theorem r_bm {T : String} {r : V → List V → Hp → VK → Prop} {ts : TA} (h : ta σ H fun x H1 => tyV K T x H1 ∧ ts σ H1 fun xs H2 => r x xs H2 Q) : tBM K T r ta ts σ H Q := h
theorem r_bm0 {T : String} {r : V → List V → Hp → VK → Prop} (h : ta σ H fun x H1 => tyV K T x H1 ∧ r x [] H1 Q) : tBM0 K T r ta σ H Q := h
theorem r_app {l : Addr} {xs : List V} (h : H l = some (.lst xs)) (hz : xs.length < sizeLine) (q : Q .non (upd H l (.lst (xs ++ [y])))) : rAppend (.ref l) [y] H Q := ⟨l, xs, y, rfl, rfl, h, hz, q⟩
theorem r_tyL {l : Addr} {xs : List V} {B : Prop} (h : SqL K H l xs) (q : B) : tyV K "list" (.ref l) H ∧ B := ⟨.inl ⟨rfl, xs, h⟩, q⟩
/-! relations with a name -/
def rInt1 : List V → Hp → VK → Prop := fun xs H Q => (∃ i, xs = [.int i] ∧ Q (.int i) H) ∨ ∃ k, xs = [.bl k] ∧ Q (.int (if k then 1 else 0)) H
def rLen (K : PySem.W.Frag) : List V → Hp → VK → Prop := fun xs H Q => ∃ p ys, xs = [.ref p] ∧ (SqL K H p ys ∨ SqT K H p ys) ∧ Q (.int ys.length) H
def rListO (K : PySem.W.Frag) : List V → Hp → VK → Prop := fun xs H Q => ∃ p ys, xs = [.ref p] ∧ (SqL K H p ys ∨ SqT K H p ys) ∧ ∀ l, H l = none → Q (.ref l) (upd H l (.lst ys))
def rTupO (K : PySem.W.Frag) : List V → Hp → VK → Prop := fun xs H Q => ∃ p ys, xs = [.ref p] ∧ ((SqL K H p ys ∧ ∀ l, H l = none → Q (.ref l) (upd H l (.tup ys))) ∨ (SqT K H p ys ∧ Q (.ref p) H))
def rMin2 : List V → Hp → VK → Prop := fun xs H Q => ∃ i j, xs = [.int i, .int j] ∧ Q (.int (if j < i then j else i)) H
def rIsN : R2 := fun x y H Q => y = .non ∧ Q (.bl (decide (x = .non))) H
def rNotN : R2 := fun x y H Q => y = .non ∧ Q (.bl (!decide (x = .non))) H
theorem c_int {X : Cx} : CallR X (.type "int") rInt1 := call_int1
theorem c_len {X : Cx} : CallR X (.builtin "len") (rLen X.K) := call_len_seq
theorem c_list {X : Cx} : CallR X (.type "list") (rListO X.K) := call_list_of
theorem c_tuple {X : Cx} : CallR X (.type "tuple") (rTupO X.K) := call_tuple_of
theorem c_min2 {X : Cx} (hc : X.calm = true) : CallR X (.builtin "min") rMin2 := call_min2 hc
theorem o_isN {X : Cx} : OpR X (compareOp .Is) rIsN := op_isN
theorem o_notN {X : Cx} : OpR X (compareOp .IsNot) rNotN := op_notN
theorem r_int {k : Int} (q : Q (.int k) H) : rInt1 [.int k] H Q := .inl ⟨k, rfl, q⟩
theorem r_lenL {p : Addr} {ys : List V} (h : SqL K H p ys) (q : Q (.int ys.length) H) : rLen K [.ref p] H Q := ⟨p, ys, rfl, .inl h, q⟩
theorem r_lenT {p : Addr} {ys : List V} (h : SqT K H p ys) (q : Q (.int ys.length) H) : rLen K [.ref p] H Q := ⟨p, ys, rfl, .inr h, q⟩
theorem r_listO {p : Addr} {ys : List V} (h : SqL K H p ys ∨ SqT K H p ys) (q : ∀ l, H l = none → Q (.ref l) (upd H l (.lst ys))) : rListO K [.ref p] H Q := ⟨p, ys, rfl, h, q⟩
theorem r_tupL {p : Addr} {ys : List V} (h : SqL K H p ys) (q : ∀ l, H l = none → Q (.ref l) (upd H l (.tup ys))) : rTupO K [.ref p] H Q := ⟨p, ys, rfl, .inl ⟨h, q⟩⟩
theorem r_tupT {p : Addr} {ys : List V} (h : SqT K H p ys) (q : Q (.ref p) H) : rTupO K [.ref p] H Q := ⟨p, ys, rfl, .inr ⟨h, q⟩⟩
theorem r_min2 {i j : Int} (q : Q (.int (if j < i then j else i)) H) : rMin2 [.int i, .int j] H Q := ⟨i, j, rfl, q⟩
theorem r_isN (q : Q (.bl (decide (x = .non))) H) : rIsN x .non H Q := ⟨rfl, q⟩
theorem r_notN (q : Q (.bl (!decide (x = .non))) H) : rNotN x .non H Q := ⟨rfl, q⟩
theorem r_all {p : Addr} {bs : List Bool} (h : SqL K H p (bs.map V.bl)) (q : Q (.bl (bs.all id)) H) : rAll K [.ref p] H Q := ⟨p, bs, rfl, h, q⟩
/-! data that is alike -/
def Okd (k : Nat) (d : PyData) : Prop := PyData.canLay0 d = true ∧ PyData.depth d ≤ k
theorem okd_non : Okd 0 .none := ⟨rfl, Nat.le_refl _⟩
theorem okd_bl (b : Bool) : Okd 0 (.bool b) := ⟨rfl, Nat.le_refl _⟩
theorem okd_int (i : Int) : Okd 0 (.int i) := ⟨rfl, Nat.le_refl _⟩
theorem Okd.up {j k : Nat} {d : PyData} (h : Okd j d) (l : j ≤ k) : Okd k d := ⟨h.1, Nat.le_trans h.2 l⟩
theorem okd_all {k : Nat} : ∀ {ds : List PyData}, (∀ d ∈ ds, Okd k d) → PyData.canLayAll0 ds = true ∧ PyData.depthAll ds ≤ k
  | [], _ => ⟨rfl, Nat.zero_le _⟩
  | d :: ds, h => by
    obtain ⟨a, b⟩ := h d (List.mem_cons_self ..)
    obtain ⟨a', b'⟩ := okd_all fun e he => h e (List.mem_cons_of_mem _ he)
    refine ⟨?_, ?_⟩
    · show (PyData.canLay0 d && PyData.canLayAll0 ds) = true
      rw [a, a']; rfl
    · show max (PyData.depth d) (PyData.depthAll ds) ≤ k
      omega
theorem okd_tup {k : Nat} {ds : List PyData} (h : ∀ d ∈ ds, Okd k d) : Okd (k + 1) (.tuple ds) := ⟨(okd_all h).1, Nat.succ_le_succ (okd_all h).2⟩
theorem okd_lst {k : Nat} {ds : List PyData} (h : ∀ d ∈ ds, Okd k d) : Okd (k + 1) (.list ds) := ⟨(okd_all h).1, Nat.succ_le_succ (okd_all h).2⟩
theorem Okd.sh {k : Nat} {d : PyData} (h : Okd k d) (l : k ≤ 64 := by decide) : SeqAt.shaped d = true := Bool.and_eq_true_iff.mpr ⟨h.1, decide_eq_true (Nat.le_trans h.2 l)⟩
theorem r_neSame {k : Nat} {d : PyData} (hx : Dp K H x d) (hy : Dp K H y d) (o : Okd k d) (l : k ≤ 64) (q : Q (.bl false) H) : rNeD K x y H Q := by
  refine ⟨d, d, hx, hy, o.sh l, o.sh l, ?_⟩
  rw [SeqAt.eqv_refl d o.1]
  exact q
theorem r_eqSame {k : Nat} {d : PyData} (hx : Dp K H x d) (hy : Dp K H y d) (o : Okd k d) (l : k ≤ 64) (q : Q (.bl true) H) : rEqD K x y H Q := by
  refine ⟨d, d, hx, hy, o.sh l, o.sh l, ?_⟩
  rw [SeqAt.eqv_refl d o.1]
  exact q
theorem dp_ints {H : Hp} : ∀ (ns : List Int), DpAll K H (ns.map V.int) (ns.map PyData.int)
  | [] => .nil
  | n :: ns => .cons (.int n) (dp_ints ns)
theorem okd_ints (ns : List Int) : ∀ d ∈ ns.map PyData.int, Okd 0 d := fun d hd => by
  obtain ⟨n, _, rfl⟩ := List.mem_map.mp hd
  exact okd_int n
theorem r_cut {Mid : L2.St → Hp → Prop} (h1 : t { D with nx := Mid } σ H) (h2 : ∀ σ' H', Mid σ' H' → u D σ' H') : Evl.tCut t u D σ H := ⟨Mid, h1, h2⟩
/-! loops -/
def forK (g : TG) (tb : TS) (D : Ends) (σ : L2.St) : It → Hp → Prop := fun J H1 => ∃ W : Nat → Nat → L2.St → Hp → Prop, (∃ m, W 0 m σ H1) ∧ ∀ i m σ H, W i m σ H →
  (J.stop i H ∧ D.nx σ H) ∨ (J.go i H ∧ ∃ N : L2.St → Hp → Prop, (∀ σ' H', N σ' H' → ∃ m', m' < m ∧ W (i + 1) m' σ' H') ∧ ∀ x H', J.yld i H x H' → g x σ H' fun σ2 H2 => tb { D with nx := N, ct := N, bk := D.nx } σ2 H2)
theorem r_for {wi : TI} {g : TG} (h : wi σ H (forK g t D σ)) : tFor wi g t D σ H := h
def rngK (vs : List V) (H : Hp) (R : It → Hp → Prop) : Prop := ∃ j : Int, vs = [.int j] ∧ -(2 ^ 62) ≤ j ∧ j < 2 ^ 62 ∧ R (Itr 0 j.toNat) H
theorem r_rng {ts : TA} {R : It → Hp → Prop} (h : ts σ H fun vs H1 => rngK vs H1 R) : iRng1 ts σ H R := h
theorem r_rngK {R : It → Hp → Prop} {j : Int} (n : Nat) (e : j.toNat = n) (l : -(2 ^ 62) ≤ j ∧ j < 2 ^ 62) (q : R (Itr 0 n) H) : rngK [.int j] H R := ⟨j, rfl, l.1, l.2, by rw [e]; exact q⟩
def rngK2 (vs : List V) (H : Hp) (R : It → Hp → Prop) : Prop := ∃ i j : Int, vs = [.int i, .int j] ∧ (-(2 ^ 62) ≤ i ∧ i < 2 ^ 62 ∧ -(2 ^ 62) ≤ j ∧ j < 2 ^ 62) ∧ R (Itr i (j - i).toNat) H
theorem r_rng2 {ts : TA} {R : It → Hp → Prop} (h : ts σ H fun vs H1 => rngK2 vs H1 R) : iRng2 ts σ H R := h
theorem r_rngK2 {R : It → Hp → Prop} {i j : Int} (n : Nat) (e : (j - i).toNat = n) (l : -(2 ^ 62) ≤ i ∧ i < 2 ^ 62 ∧ -(2 ^ 62) ≤ j ∧ j < 2 ^ 62) (q : R (Itr i n) H) : rngK2 [.int i, .int j] H R := ⟨i, j, rfl, l, by rw [e]; exact q⟩
def lstK (K : PySem.W.Frag) (x : V) (H : Hp) (R : It → Hp → Prop) : Prop := ∃ a, x = .ref a ∧ (∃ xs, SqL K H a xs) ∧ R (Itl K a) H
theorem r_lstI {R : It → Hp → Prop} (h : ta σ H fun x H1 => lstK K x H1 R) : iList K ta σ H R := h
theorem r_lstK {R : It → Hp → Prop} {a : Addr} {xs : List V} (h : SqL K H a xs) (q : R (Itl K a) H) : lstK K (.ref a) H R := ⟨a, rfl, ⟨xs, h⟩, q⟩
def tupK (K : PySem.W.Frag) (x : V) (H : Hp) (R : It → Hp → Prop) : Prop := ∃ a, x = .ref a ∧ (∃ xs, SqT K H a xs) ∧ R (Itt K a) H
theorem r_tupI {R : It → Hp → Prop} (h : ta σ H fun x H1 => tupK K x H1 R) : iTup K ta σ H R := h
theorem r_tupK {R : It → Hp → Prop} {a : Addr} {xs : List V} (h : SqT K H a xs) (q : R (Itt K a) H) : tupK K (.ref a) H R := ⟨a, rfl, ⟨xs, h⟩, q⟩
theorem r_forR {n : Nat} {lo : Int} {j : Nat} (Pv : Nat → L2.St → Hp → Prop) (h0 : Pv 0 σ H)
    (hs : ∀ i σ' H', i < n → Pv i σ' H' → t { D with nx := Pv (i + 1), ct := Pv (i + 1), bk := D.nx } (σ'.set j (some (.int (lo + i)))) H') (hd : ∀ σ' H', Pv n σ' H' → D.nx σ' H') : forK (gName j) t D σ (Itr lo n) H :=
  for_range Pv h0 hs hd
theorem r_forR0 {n : Nat} {j : Nat} (Pv : Nat → L2.St → Hp → Prop) (h0 : Pv 0 σ H)
    (hs : ∀ i σ' H', i < n → Pv i σ' H' → t { D with nx := Pv (i + 1), ct := Pv (i + 1), bk := D.nx } (σ'.set j (some (.int (i : Int)))) H') (hd : ∀ σ' H', Pv n σ' H' → D.nx σ' H') : forK (gName j) t D σ (Itr 0 n) H :=
  for_range Pv h0 (fun i σ' H' hi p => by
    have e : (0 : Int) + (i : Int) = i := Int.zero_add _
    rw [e]
    exact hs i σ' H' hi p) hd
theorem r_forL {a : Addr} {xs : List V} {g : TG} (Pv : Nat → L2.St → Hp → Prop) (h0 : Pv 0 σ H) (hl : ∀ i σ H, i ≤ xs.length → Pv i σ H → SqL K H a xs)
    (hs : ∀ i x σ' H', xs[i]? = some x → Pv i σ' H' → g x σ' H' fun σ2 H2 => t { D with nx := Pv (i + 1), ct := Pv (i + 1), bk := D.nx } σ2 H2) (hd : ∀ σ' H', Pv xs.length σ' H' → D.nx σ' H') : forK g t D σ (Itl K a) H := for_list Pv h0 hl hs hd
theorem r_forT {a : Addr} {xs : List V} {g : TG} (Pv : Nat → L2.St → Hp → Prop) (h0 : Pv 0 σ H) (hl : ∀ i σ H, i ≤ xs.length → Pv i σ H → SqT K H a xs)
    (hs : ∀ i x σ' H', xs[i]? = some x → Pv i σ' H' → g x σ' H' fun σ2 H2 => t { D with nx := Pv (i + 1), ct := Pv (i + 1), bk := D.nx } σ2 H2) (hd : ∀ σ' H', Pv xs.length σ' H' → D.nx σ' H') : forK g t D σ (Itt K a) H := for_tup Pv h0 hl hs hd
/-! comprehensions -/
def lcK (g : TG) (tt : TT) (te : TE) (vs : List Nat) (σ : L2.St) (Q : VK) : It → Hp → Prop := fun J H1 => ∀ D, H1 D = none → ∃ W : Nat → Nat → Hp → Prop, (∃ m, W 0 m (upd H1 D (.lst []))) ∧ ∀ i m H, W i m H →
  (J.stop i H ∧ Q (.ref D) H) ∨ (J.go i H ∧ ∃ Nx : Hp → Prop, (∀ H', Nx H' → ∃ m', m' < m ∧ W (i + 1) m' H') ∧ ∀ x H', J.yld i H x H' → g x (wipe σ vs) H' fun σ2 H2 => wipe σ2 vs = wipe σ vs ∧ tt σ2 H2 fun b H3 =>
    if b = true then te σ2 H3 fun y H4 => ∃ acc, H4 D = some (.lst acc) ∧ acc.length < sizeLine ∧ Nx (upd H4 D (.lst (acc ++ [y]))) else Nx H3)
theorem r_lc {wi : TI} {g : TG} {vs : List Nat} (h : wi σ H (lcK g tt te vs σ Q)) : tLc wi g tt te vs σ H Q := h
theorem Same.upd2 {H H' : Hp} {p : Addr} {o : HO} (s : Same H H') (h : H p = none) : Same H (upd H' p o) := fun b u z => by
  rw [upd_ne (ne_of_none z h)]
  exact s b u z
theorem filt_yes {n : Nat} {f : Nat → Bool} {v : Nat → V} (h : f n = true) : ((List.range (n + 1)).filter f).map v = ((List.range n).filter f).map v ++ [v n] := by
  rw [List.range_succ, List.filter_append, List.map_append]
  simp [h]
theorem filt_no {n : Nat} {f : Nat → Bool} {v : Nat → V} (h : f n = false) : ((List.range (n + 1)).filter f).map v = ((List.range n).filter f).map v := by
  rw [List.range_succ, List.filter_append, List.map_append]
  simp [h]
theorem filt_len (n : Nat) (f : Nat → Bool) (v : Nat → V) : (((List.range n).filter f).map v).length ≤ n := by
  rw [List.length_map]
  have h := List.length_filter_le f (List.range n)
  rw [List.length_range] at h
  exact h
/-- one turn, and the next -/
theorem lc_turn {f : Nat → Bool} {v : Nat → V} {i : Nat} {H0 H' : Hp} {Dl : Addr} {σ2 : L2.St} (hD : H0 Dl = none) (s : Same H0 H') (hl : H' Dl = some (.lst (((List.range i).filter f).map v))) (hi : i < 100000)
    (ht : ∀ QT : Bool → Hp → Prop, (∀ H2, Same H' H2 → QT (f i) H2) → tt σ2 H' QT) (he : ∀ H2, f i = true → Same H' H2 → ∀ Q : VK, (∀ H3, Same H2 H3 → Q (v i) H3) → te σ2 H2 Q) :
    tt σ2 H' fun b H3 => if b = true then te σ2 H3 fun y H4 => ∃ acc, H4 Dl = some (.lst acc) ∧ acc.length < sizeLine ∧ (Same H0 (upd H4 Dl (.lst (acc ++ [y]))) ∧ (upd H4 Dl (.lst (acc ++ [y]))) Dl = some (.lst (((List.range (i + 1)).filter f).map v)))
      else (Same H0 H3 ∧ H3 Dl = some (.lst (((List.range (i + 1)).filter f).map v))) := by
  refine ht _ fun H2 s2 => ?_
  cases hf : f i with
  | true =>
    show te σ2 H2 _
    refine he H2 hf s2 _ fun H3 s3 => ⟨_, s3 _ _ (s2 _ _ hl), ?_, Same.upd2 ((s.trans s2).trans s3) hD, ?_⟩
    · have := filt_len i f v
      exact Nat.lt_of_le_of_lt (Nat.le_trans this (Nat.le_of_lt hi)) (by decide)
    · rw [upd_same, filt_yes hf]
  | false =>
    refine ⟨s.trans s2, ?_⟩
    rw [filt_no hf]
    exact s2 _ _ hl
theorem r_lcR {n : Nat} {j : Nat} {vs : List Nat} (f : Nat → Bool) (v : Nat → V) (hn : n ≤ 100000) (hw : ∀ x, wipe ((wipe σ vs).set j (some x)) vs = wipe σ vs)
    (ht : ∀ i H', i < n → Same H H' → ∀ QT : Bool → Hp → Prop, (∀ H2, Same H' H2 → QT (f i) H2) → tt ((wipe σ vs).set j (some (.int (i : Int)))) H' QT)
    (he : ∀ i H', i < n → f i = true → Same H H' → ∀ Q : VK, (∀ H2, Same H' H2 → Q (v i) H2) → te ((wipe σ vs).set j (some (.int (i : Int)))) H' Q)
    (q : ∀ p H', H p = none → Same H H' → H' p = some (.lst (((List.range n).filter f).map v)) → Q (.ref p) H') : lcK (gName j) tt te vs σ Q (Itr 0 n) H := fun Dl hD =>
  lc_range (fun i H' => Same H H' ∧ H' Dl = some (.lst (((List.range i).filter f).map v))) ⟨fun b o z => by rw [upd_ne (ne_of_none z hD)]; exact z, upd_same⟩
    (fun i H' hi p => by
      have e0 : (0 : Int) + (i : Int) = (i : Int) := Int.zero_add _
      rw [e0]
      exact ⟨hw _, lc_turn hD p.1 p.2 (Nat.lt_of_lt_of_le hi hn) (fun QT k => ht i H' hi p.1 QT k) fun H2 hf s2 => he i H2 hi hf (p.1.trans s2)⟩) fun H' p => q Dl H' hD p.1 p.2
theorem r_lcL {a : Addr} {xs : List V} {j : Nat} {vs : List Nat} (f : Nat → Bool) (v : Nat → V) (hn : xs.length ≤ 100000) (hx : SqL K H a xs) (hw : ∀ x, wipe ((wipe σ vs).set j (some x)) vs = wipe σ vs)
    (ht : ∀ i x H', xs[i]? = some x → Same H H' → ∀ QT : Bool → Hp → Prop, (∀ H2, Same H' H2 → QT (f i) H2) → tt ((wipe σ vs).set j (some x)) H' QT)
    (he : ∀ i x H', xs[i]? = some x → f i = true → Same H H' → ∀ Q : VK, (∀ H2, Same H' H2 → Q (v i) H2) → te ((wipe σ vs).set j (some x)) H' Q)
    (q : ∀ p H', H p = none → Same H H' → H' p = some (.lst (((List.range xs.length).filter f).map v)) → Q (.ref p) H') : lcK (gName j) tt te vs σ Q (Itl K a) H := fun Dl hD =>
  lc_list (xs := xs) (fun i H' => Same H H' ∧ H' Dl = some (.lst (((List.range i).filter f).map v))) ⟨fun b o z => by rw [upd_ne (ne_of_none z hD)]; exact z, upd_same⟩ (fun i H' _ p => p.1.seq hx)
    (fun i x H' hi p => ⟨hw _, lc_turn hD p.1 p.2 (Nat.lt_of_lt_of_le (List.getElem?_eq_some_iff.mp hi).1 hn) (fun QT k => ht i x H' hi p.1 QT k) fun H2 hf s2 => he i x H2 hi hf (p.1.trans s2)⟩) fun H' p => q Dl H' hD p.1 p.2
theorem same_tup {H H' : Hp} {a : Addr} {xs : List V} (e : Same H H') (h : SqT K H a xs) : SqT K H' a xs := by
  rcases h with (h | ⟨o, h⟩) | h
  · exact .inl (.inl (e _ _ h))
  · exact .inl (.inr ⟨o, e _ _ h⟩)
  · exact .inr h
theorem r_lcT {a : Addr} {xs : List V} {j : Nat} {vs : List Nat} (f : Nat → Bool) (v : Nat → V) (hn : xs.length ≤ 100000) (hx : SqT K H a xs) (hw : ∀ x, wipe ((wipe σ vs).set j (some x)) vs = wipe σ vs)
    (ht : ∀ i x H', xs[i]? = some x → Same H H' → ∀ QT : Bool → Hp → Prop, (∀ H2, Same H' H2 → QT (f i) H2) → tt ((wipe σ vs).set j (some x)) H' QT)
    (he : ∀ i x H', xs[i]? = some x → f i = true → Same H H' → ∀ Q : VK, (∀ H2, Same H' H2 → Q (v i) H2) → te ((wipe σ vs).set j (some x)) H' Q)
    (q : ∀ p H', H p = none → Same H H' → H' p = some (.lst (((List.range xs.length).filter f).map v)) → Q (.ref p) H') : lcK (gName j) tt te vs σ Q (Itt K a) H := fun Dl hD =>
  lc_tup (xs := xs) (fun i H' => Same H H' ∧ H' Dl = some (.lst (((List.range i).filter f).map v))) ⟨fun b o z => by rw [upd_ne (ne_of_none z hD)]; exact z, upd_same⟩ (fun i H' _ p => same_tup p.1 hx)
    (fun i x H' hi p => ⟨hw _, lc_turn hD p.1 p.2 (Nat.lt_of_lt_of_le (List.getElem?_eq_some_iff.mp hi).1 hn) (fun QT k => ht i x H' hi p.1 QT k) fun H2 hf s2 => he i x H2 hi hf (p.1.trans s2)⟩) fun H' p => q Dl H' hD p.1 p.2
/-! xs[j] op= e -/
def rGetL (K : PySem.W.Frag) : V → V → Hp → VK → Prop := fun x y H Q => ∃ p xs v, ∃ j : Nat, x = .ref p ∧ y = .int j ∧ SqL K H p xs ∧ xs[j]? = some v ∧ Q v H
theorem pget_list {X : Cx} : PGet X (rGetL X.K) := by
  intro pins s σ H o i ov iv Q I r1 r2 h
  obtain ⟨p, xs, v, j, rfl, rfl, hs, hj, q⟩ := h
  cases r1
  obtain ⟨t, rfl⟩ := r2
  obtain ⟨its, r, pl, hz⟩ := I.list hs
  obtain ⟨u, hu, ru⟩ := r.get hj
  have hl : j < xs.length := (List.getElem?_eq_some_iff.mp hj).1
  exact wpAny_getItem_list pl.isList (by omega) (by have := line63; omega) (by simpa using hu) ⟨v, H, I, ru, q⟩
theorem r_augS {o i e : TE} {tg : V → V → Hp → VK → Prop} {ip : TIp} {ts : TSet} (h : o σ H fun x H1 => i σ H1 fun k H2 => tg x k H2 fun v H3 => e σ H3 fun y H4 => ip v y H4 fun z H5 => ts x k z H5 fun H6 => D.nx σ H6) : tAugS o i e tg ip ts D σ H := h
theorem r_getL {p : Addr} {xs : List V} {j : Nat} (h : SqL K H p xs) (e : xs[j]? = some v) (q : Q v H) : rGetL K (.ref p) (.int j) H Q := ⟨p, xs, v, j, rfl, rfl, h, e, q⟩
theorem r_ipI {f : Int → Int → Int} {a b : Int} (q : Q (.int (f a b)) H) : ipI f (.int a) (.int b) H Q := ⟨a, b, rfl, rfl, q⟩
theorem ix_nat {n j : Nat} (h : j < n) : ixN n (j : Int) = some j := by
  unfold ixN
  first
    | (rw [if_pos (by omega)]; simp; omega)
    | simp [h]
/-! raise C(e) -/
def mkK (C : Addr) (f : Str) (okV : V → Prop) (vs : List V) (H1 : Hp) (QX : XK) : Prop := ∃ v, vs = [v] ∧ okV v ∧ ∀ dx, H1 dx = none → QX (.ref C) (some dx) (upd H1 dx (.xd [(f, v)]))
theorem r_mkE {C : Addr} {f : Str} {okV : V → Prop} {ts : TA} {QX : XK} (h : ts σ H fun vs H1 => mkK C f okV vs H1 QX) : tMkE C f okV ts σ H QX := h
theorem r_mkK {C : Addr} {f : Str} {okV : V → Prop} {QX : XK} (ok : okV v) (q : ∀ dx, H dx = none → QX (.ref C) (some dx) (upd H dx (.xd [(f, v)]))) : mkK C f okV [v] H QX := ⟨v, rfl, ok, q⟩
/-! t + u, the right one not empty -/
theorem r_catT {a b : Addr} {xs ys : List V} (ha : SqT K H a xs) (hb : H b = some (.tup ys)) (hz : xs.length + ys.length ≤ 100000) (hy : ys ≠ [])
    (q : ∀ t H', Same H H' → H' t = some (.tup (xs ++ ys)) → Q (.ref t) H') : rCatA K (.ref a) (.ref b) H Q :=
  ⟨a, b, xs, ys, rfl, rfl, ha, SqT.of hb, Nat.le_trans hz (by decide), fun e => q b H (Same.refl H) (by rw [e]; exact hb), fun _ e => absurd e hy,
    fun _ _ p hp => q p _ (fun c o z => by rw [upd_ne (ne_of_none z hp)]; exact z) upd_same⟩
/-! methods, properties, new instances -/
def mthK (C : Addr) (m : Str) (sp : Sp) (dvs : List V) (E : XK) (ts : TA) (σ : L2.St) (x : V) (H1 : Hp) (Q : VK) : Prop := ∃ a dx fs, x = .ref a ∧ H1 a = some (.ins C dx fs) ∧ fs.lookup m = none ∧ ts σ H1 fun vs H2 => sp (x :: (vs ++ dvs)) H2 Q E
theorem r_meth {C : Addr} {m : Str} {sp : Sp} {dvs : List V} {E : XK} {ts : TA} (h : ta σ H fun x H1 => mthK C m sp dvs E ts σ x H1 Q) : tMeth C m sp dvs E ta ts σ H Q := h
theorem r_mthK {C a dx : Addr} {fs : List (Str × V)} {m : Str} {sp : Sp} {dvs : List V} {E : XK} {ts : TA} (ha : H a = some (.ins C dx fs)) (l : fs.lookup m = none) (h : ts σ H fun vs H2 => sp (.ref a :: (vs ++ dvs)) H2 Q E) : mthK C m sp dvs E ts σ (.ref a) H Q := ⟨a, dx, fs, rfl, ha, l, h⟩
def prpK (C : Addr) (sp : Sp) (dvs : List V) (E : XK) (x : V) (H1 : Hp) (Q : VK) : Prop := ∃ a dx fs, x = .ref a ∧ H1 a = some (.ins C dx fs) ∧ sp (.ref a :: dvs) H1 Q E
theorem r_prop {C : Addr} {sp : Sp} {dvs : List V} {E : XK} (h : ta σ H fun x H1 => prpK C sp dvs E x H1 Q) : tProp C sp dvs E ta σ H Q := h
theorem r_prpK {C a dx : Addr} {fs : List (Str × V)} {sp : Sp} {dvs : List V} {E : XK} (ha : H a = some (.ins C dx fs)) (h : sp (.ref a :: dvs) H Q E) : prpK C sp dvs E (.ref a) H Q := ⟨a, dx, fs, rfl, ha, h⟩
theorem r_make {C : Addr} {sp : Sp} {dvs : List V} {E : XK} {ts : TA} (h : ts σ H fun vs H1 => ∀ x dx, H1 x = none → H1 dx = none → dx ≠ x → sp (.ref x :: (vs ++ dvs)) (upd (upd H1 dx (.own x)) x (.ins C dx [])) (fun v H2 => v = .non ∧ Q (.ref x) H2) E) : tMake C sp dvs E ts σ H Q := h
/-! dicts with keys that are ints -/
def dinK (y x : V) (H2 : Hp) (Q : VK) : Prop := ∃ a o, x = .ref a ∧ DGet H2 a y o ∧ Q (.bl o.isSome) H2
theorem r_din {ty td : TE} (h : ty σ H fun y H1 => td σ H1 fun x H2 => dinK y x H2 Q) : tDIn ty td σ H Q := h
theorem r_dinK {a : Addr} {kvs : List (Key × V)} {k : Int} (e : Rd H a (.dK kvs)) (q : Q (.bl (valV kvs (Sum.inl k : Key)).isSome) H) : dinK (.int k) (.ref a) H Q := ⟨a, _, rfl, .inl ⟨kvs, Sum.inl k, e, rfl, rfl⟩, q⟩
def dninK (y x : V) (H2 : Hp) (Q : VK) : Prop := ∃ a o, x = .ref a ∧ DGet H2 a y o ∧ Q (.bl (!o.isSome)) H2
theorem r_dnin {ty td : TE} (h : ty σ H fun y H1 => td σ H1 fun x H2 => dninK y x H2 Q) : tDNotIn ty td σ H Q := h
theorem r_dninK {a : Addr} {kvs : List (Key × V)} {k : Int} (e : Rd H a (.dK kvs)) (q : Q (.bl (!(valV kvs (Sum.inl k : Key)).isSome)) H) : dninK (.int k) (.ref a) H Q := ⟨a, _, rfl, .inl ⟨kvs, Sum.inl k, e, rfl, rfl⟩, q⟩
def dputK (x y v : V) (H3 : Hp) (N : Hp → Prop) : Prop := ∃ a H4, x = .ref a ∧ DPut H3 a y v H4 ∧ N H4
theorem r_dput {td ty tv : TE} (h : tv σ H fun v H1 => td σ H1 fun x H2 => ty σ H2 fun y H3 => dputK x y v H3 (D.nx σ)) : sDPut td ty tv D σ H := h
theorem r_dputK {a : Addr} {kvs : List (Key × V)} {k : Int} {N : Hp → Prop} (e : H a = some (.dK kvs)) (hl : kvs.length < sizeLine) (q : N (upd H a (.dK (putK kvs (Sum.inl k : Key) v)))) : dputK (.ref a) (.int k) v H N := ⟨a, _, rfl, DPut.k (k := Sum.inl k) e hl, q⟩
def dgetK (x y : V) (H2 : Hp) (Q : VK) : Prop := ∃ a v, x = .ref a ∧ DGet H2 a y (some v) ∧ Q v H2
theorem r_dget {td ty : TE} (h : td σ H fun x H1 => ty σ H1 fun y H2 => dgetK x y H2 Q) : tDGet td ty σ H Q := h
theorem r_dgetK {a : Addr} {kvs : List (Key × V)} {k : Int} (e : Rd H a (.dK kvs)) (g : valV kvs (Sum.inl k : Key) = some v) (q : Q v H) : dgetK (.ref a) (.int k) H Q := ⟨a, v, rfl, .inl ⟨kvs, Sum.inl k, e, rfl, g.symm⟩, q⟩
end
/-- one step of a plain reading -/
local macro_rules | `(tactic| walk_at "step") => `(tactic| first
  | with_reducible refine r_seq ?_ | with_reducible refine r_nx ?_ | with_reducible refine r_asgN ?_ | with_reducible refine r_asgS ?_ | with_reducible refine r_asgT ?_ | with_reducible refine r_ifS ?_
  | with_reducible refine r_ret ?_ | with_reducible refine r_retN ?_ | with_reducible refine r_drop ?_ | with_reducible refine r_test ?_ | with_reducible refine r_B ?_ | with_reducible refine r_not ?_
  | with_reducible refine r_and ?_ | with_reducible refine r_or ?_ | with_reducible refine r_andV ?_ | with_reducible refine r_orV ?_ | with_reducible refine r_notV ?_
  | ((with_reducible refine' r_var ?e ?_); (case e => exact rfl)) | with_reducible refine r_c ?_ | with_reducible refine r_op ?_ | with_reducible refine r_un ?_
  | with_reducible refine r_I0 ?_ | with_reducible refine r_eqI ?_ | with_reducible refine r_neI ?_ | with_reducible refine r_bl ?_ | with_reducible refine r_nil ?_ | with_reducible refine r_cons ?_
  | with_reducible refine r_cb ?_ | with_reducible refine r_call ?_ | with_reducible refine r_tup ?_ | with_reducible refine r_lst ?_ | with_reducible refine r_fld ?_ | with_reducible refine r_bm ?_ | with_reducible refine r_bm0 ?_
  | with_reducible refine r_for ?_ | with_reducible refine r_rng ?_ | with_reducible refine r_rng2 ?_ | with_reducible refine r_lstI ?_ | with_reducible refine r_tupI ?_ | with_reducible refine r_lc ?_
  | with_reducible refine r_augS ?_ | with_reducible refine r_ipI ?_
  | with_reducible refine r_meth ?_ | with_reducible refine r_prop ?_ | with_reducible refine r_make ?_ | with_reducible refine r_din ?_ | with_reducible refine r_dnin ?_ | with_reducible refine r_dput ?_ | with_reducible refine r_dget ?_
  | with_reducible refine r_gN ?_ | with_reducible refine r_tsl ?_ | with_reducible refine r_noP ?_ | with_reducible refine r_part ?_ | with_reducible refine r_pI ?_ | with_reducible refine r_tif ?_ | with_reducible refine r_SL ?_ | with_reducible refine r_gC ?_ | with_reducible refine r_U ?_ | with_reducible refine r_sfld ?_ | with_reducible refine r_dnew ?_ | with_reducible refine r_keys ?_
  | with_reducible refine r_mkE ?_ | with_reducible refine iteT ?_ | with_reducible refine iteF ?_
  | with_reducible refine r_int ?_ | with_reducible refine r_min2 ?_ | with_reducible refine r_isN ?_ | with_reducible refine r_notN ?_)
/-- as far as it goes by itself -/
local macro_rules | `(tactic| walk_at "go") => `(tactic| ((repeat walk_at "step"); (try dsimp only)))

example {H : Hp} {Q : VK} (q : Q (.int 5) H) : tOp (rI0 fun i j => V.int (i + j)) (tVar 0) (tC (.int 3)) [some (.int 2)] H Q := by
  repeat walk_at "step"
  exact q
end Er
namespace Er
open PySem PySem.Spec PyProof.Rows L2
section
variable {K : PySem.W.Frag} {σ : L2.St} {H : Hp} {D : Ends} {Q : VK} {QT : Bool → Hp → Prop} {ta tb te : TE} {t u : TS} {tt tu : TT} {i : Nat} {v x y : V}
theorem r_gN {k : L2.St → Hp → Prop} (h : k (σ.set i (some x)) H) : gName i x σ H k := h
theorem r_U {g : Int → V} {a : Int} (q : Q (g a) H) : rU g (.int a) H Q := ⟨a, rfl, q⟩
/-! e.f = v -/
def sfldK (K : PySem.W.Frag) (f : Str) (y x : V) (H2 : Hp) (N : Hp → Prop) : Prop := ∃ a C dx fs, x = .ref a ∧ H2 a = some (.ins C dx fs) ∧ Cls K C ∧ NoAttr K C f ∧ fs.length < 1000 ∧ N (upd H2 a (.ins C dx (putF f y fs)))
theorem r_sfld {to tv : TE} {f : Str} (h : tv σ H fun y H1 => to σ H1 fun x H2 => sfldK K f y x H2 (D.nx σ)) : sFld K to tv f D σ H := h
theorem r_sfldK {f : Str} {a C dx : Addr} {fs : List (Str × V)} {N : Hp → Prop} (ha : H a = some (.ins C dx fs)) (c : Cls K C) (n : NoAttr K C f) (l : fs.length < 1000) (q : N (upd H a (.ins C dx (putF f y fs)))) : sfldK K f y (.ref a) H N := ⟨a, C, dx, fs, rfl, ha, c, n, l, q⟩
theorem r_dnew (h : ∀ p, H p = none → Q (.ref p) (upd H p (.dK []))) : tDNewK σ H Q := h
/-! [v] * n -/
theorem r_rep {l : Addr} {k : Nat} {v : V} (h : H l = some (.lst [v])) (hk : k ≤ 1000) (q : ∀ p, H p = none → Q (.ref p) (upd H p (.lst (List.replicate k v)))) : rRep (.ref l) (.int (k : Int)) H Q := by
  refine ⟨l, k, [v], rfl, rfl, h, by omega, by omega, ?_, fun p hp => ?_⟩
  · show 1 * (k : Int).toNat ≤ sizeLine
    have : (1000 : Nat) ≤ sizeLine := by decide
    omega
  · have e : (List.replicate ((k : Int).toNat) [v]).flatten = List.replicate k v := by
      rw [Int.toNat_natCast]
      clear hk q
      induction k with
      | zero => rfl
      | succ k ih => rw [List.replicate_succ, List.flatten_cons, ih]; rfl
    rw [e]
    exact q p hp
/-! sorted of a dict's ints, list of a dict -/
def rSortDI : List V → Hp → VK → Prop := fun xs H Q => ∃ (a : Addr) (kvs : List (Key × V)) (ks : List Int), xs = [.ref a] ∧ Rd H a (.dK kvs) ∧ kvs.map (·.1) = ks.map Sum.inl ∧ ks.length < 64 ∧
    ∀ (ys : List Int) (p : Addr), ys.Perm ks → ys.Pairwise (· ≤ ·) → H p = none → Q (.ref p) (upd H p (.lst (ys.map V.int)))
theorem c_sortDI {X : Cx} (hc : X.calm = true) : CallR X (.builtin "sorted") rSortDI := call_sortedDI hc
def rListDK : List V → Hp → VK → Prop := fun xs H Q => ∃ (a : Addr) (kvs : List (Key × V)), xs = [.ref a] ∧ Rd H a (.dK kvs) ∧ ∀ p, H p = none → Q (.ref p) (upd H p (.lst (kvs.map fun kv => kV kv.1)))
theorem c_listD {X : Cx} (hc : X.calm = true) : CallR X (.type "list") rListDK := call_listD hc
theorem sort_one_int {xs ys : List Int} (p : xs.Perm ys) (hx : xs.Pairwise (· ≤ ·)) (hy : ys.Pairwise (· ≤ ·)) : xs = ys := List.Perm.eq_of_pairwise (fun _ _ _ _ a b => Int.le_antisymm a b) hx hy p
/-- the ints of zs, in order: ss -/
theorem r_sortDI {a : Addr} {kvs : List (Key × V)} {ks ss : List Int} (h : Rd H a (.dK kvs)) (e : kvs.map (·.1) = ks.map Sum.inl) (l : ks.length < 64) (p : ss.Perm ks) (o : ss.Pairwise (· ≤ ·)) (q : ∀ p, H p = none → Q (.ref p) (upd H p (.lst (ss.map V.int)))) : rSortDI [.ref a] H Q :=
  ⟨a, kvs, ks, rfl, h, e, l, fun ys p' h1 h2 => by
    rw [sort_one_int (h1.trans p.symm) h2 o]
    exact q p'⟩
theorem r_sorted {a : Addr} {ks ss : List Int} (h : SqL K H a (ks.map V.int)) (l : ks.length < 64) (p : ss.Perm ks) (o : ss.Pairwise (· ≤ ·)) (q : ∀ p, H p = none → Q (.ref p) (upd H p (.lst (ss.map V.int)))) : rSorted K [.ref a] H Q :=
  ⟨a, ks, rfl, h, l, fun ys p' h1 h2 => by
    rw [sort_one_int (h1.trans p.symm) h2 o]
    exact q p'⟩
theorem r_listDK {a : Addr} {kvs : List (Key × V)} (h : Rd H a (.dK kvs)) (q : ∀ p, H p = none → Q (.ref p) (upd H p (.lst (kvs.map fun kv => kV kv.1)))) : rListDK [.ref a] H Q := ⟨a, kvs, rfl, h, q⟩
/-! for k in d -/
def keysK (x : V) (H1 : Hp) (R : It → Hp → Prop) : Prop := ∃ d o, x = .ref d ∧ ((∃ kvs, H1 d = some (.frz o (.dK kvs)) ∧ R (Itk d o kvs) H1) ∨ ∃ kvs, H1 d = some (.frz o (.dT kvs)) ∧ R (Itkt d o kvs) H1)
theorem r_keys {R : It → Hp → Prop} (h : ta σ H fun x H1 => keysK x H1 R) : iKeys ta σ H R := h
theorem r_keysK {R : It → Hp → Prop} {d : Addr} {o : Obj} {kvs : List (Key × V)} (h : H d = some (.frz o (.dK kvs))) (q : R (Itk d o kvs) H) : keysK (.ref d) H R := ⟨d, o, rfl, .inl ⟨kvs, h, q⟩⟩
theorem r_forK {d : Addr} {o : Obj} {kvs : List (Key × V)} {g : TG} (Pv : Nat → L2.St → Hp → Prop) (h0 : Pv 0 σ H) (hl : ∀ i σ H, i ≤ kvs.length → Pv i σ H → H d = some (.frz o (.dK kvs)))
    (hs : ∀ i k v σ' H', kvs[i]? = some (k, v) → Pv i σ' H' → g (kV k) σ' H' fun σ2 H2 => t { D with nx := Pv (i + 1), ct := Pv (i + 1), bk := D.nx } σ2 H2) (hd : ∀ σ' H', Pv kvs.length σ' H' → D.nx σ' H') : forK g t D σ (Itk d o kvs) H :=
  for_it walk_keys Pv h0 hl (fun i x σ' H' H2 hi p y => by
    obtain ⟨rfl, k, v, e, rfl⟩ := y
    exact hs i k v _ _ e p) hd
end
/-! within a comprehension: K is told -/
section
variable {X : Cx}
theorem ixL (K : PySem.W.Frag) (e : X.K = K := by rfl) : IxR X (rIxL K) := by subst e; exact ix_list
theorem ixT (K : PySem.W.Frag) (e : X.K = K := by rfl) : IxR X (rIxT K) := by subst e; exact ix_tup
theorem inK (K : PySem.W.Frag) (e : X.K = K := by rfl) : OpR X (compareOp .In) (rIn K false) := by subst e; exact op_in_seq
theorem ninK (K : PySem.W.Frag) (e : X.K = K := by rfl) : OpR X (compareOp .NotIn) (rIn K true) := by subst e; exact op_notIn_seq
theorem lenK (K : PySem.W.Frag) (e : X.K = K := by rfl) : CallR X (.builtin "len") (rLen K) := by subst e; exact c_len
theorem fldE (K : PySem.W.Frag) {e : Expr} {f : Str} {pos : Pos} {ta : TE} (he : PE X e ta) (h : X.K = K := by rfl) (hb : attributeBase e f X.env (eval e X.env) = eval e X.env := by rfl) : PE X (.Attribute e f pos) (tFld K ta f) := by subst h; exact pe_fld he hb
end
end Er
namespace Er
open PySem PySem.Spec PyProof.Rows L2
section
variable {K : PySem.W.Frag} {σ : L2.St} {H : Hp} {D : Ends} {Q : VK} {te : TE} {tt : TT}
/-- [e for x in xs] where e is made anew each time: the item of turn i is told by Rl -/
theorem lcm_core {n : Nat} {Rl : Nat → V → Hp → Prop} (st : ∀ i v H H', Same H H' → Rl i v H → Rl i v H') {i : Nat} {H0 H' : Hp} {Dl : Addr} {σ2 : L2.St} {acc : List V} (hD : H0 Dl = none) (s : Same H0 H') (hl : H' Dl = some (.lst acc)) (la : acc.length = i) (ha : ∀ j y, acc[j]? = some y → Rl j y H') (hi : i < 100000)
    (away : ∀ j y H H', H Dl = some (.lst acc) → Rl j y H → (∀ b u, b ≠ Dl → H b = some u → H' b = some u) → Rl j y H')
    (he : ∀ Q : VK, (∀ y H2, Same H' H2 → Rl i y H2 → Q y H2) → te σ2 H' Q) :
    te σ2 H' fun y H4 => ∃ acc, H4 Dl = some (.lst acc) ∧ acc.length < sizeLine ∧ (Same H0 (upd H4 Dl (.lst (acc ++ [y]))) ∧ ∃ ac, (upd H4 Dl (.lst (acc ++ [y]))) Dl = some (.lst ac) ∧ ac.length = i + 1 ∧ ∀ j y', ac[j]? = some y' → Rl j y' (upd H4 Dl (.lst (acc ++ [y])))) := by
  refine he _ fun y H2 s2 r2 => ⟨acc, s2 _ _ hl, ?_, Same.upd2 (s.trans s2) hD, acc ++ [y], upd_same, by rw [List.length_append, la]; rfl, fun j y' hj => ?_⟩
  · rw [la]
    exact Nat.lt_of_lt_of_le hi (by decide)
  · have keep : ∀ b u, b ≠ Dl → H2 b = some u → upd H2 Dl (.lst (acc ++ [y])) b = some u := fun b u nb z => by rw [upd_ne nb]; exact z
    rcases Nat.lt_or_ge j acc.length with h | h
    · rw [List.getElem?_append_left h] at hj
      exact away j y' H2 _ (s2 _ _ hl) (st _ _ _ _ s2 (ha j y' hj)) keep
    · rw [List.getElem?_append_right h] at hj
      have e : j - acc.length = 0 := by
        rcases Nat.eq_zero_or_pos (j - acc.length) with z | z
        · exact z
        · rw [List.getElem?_eq_none (by show 1 ≤ _; omega)] at hj
          cases hj
      rw [e] at hj
      cases hj
      have ej : j = i := by omega
      subst ej
      exact away _ _ H2 _ (s2 _ _ hl) r2 keep
theorem r_lcLm {a : Addr} {xs : List V} {j : Nat} {vs : List Nat} (Rl : Nat → V → Hp → Prop) (away : ∀ i v Dl zs H H', H Dl = some (.lst zs) → Rl i v H → (∀ b u, b ≠ Dl → H b = some u → H' b = some u) → Rl i v H') (st : ∀ i v H H', Same H H' → Rl i v H → Rl i v H')
    (hn : xs.length ≤ 100000) (hx : SqL K H a xs) (hw : ∀ x, wipe ((wipe σ vs).set j (some x)) vs = wipe σ vs)
    (he : ∀ i x H', xs[i]? = some x → Same H H' → ∀ Q : VK, (∀ y H2, Same H' H2 → Rl i y H2 → Q y H2) → te ((wipe σ vs).set j (some x)) H' Q)
    (q : ∀ p ys H', H p = none → Same H H' → H' p = some (.lst ys) → ys.length = xs.length → (∀ i y, ys[i]? = some y → Rl i y H') → Q (.ref p) H') : lcK (gName j) tYes te vs σ Q (Itl K a) H := fun Dl hD =>
  lc_list (xs := xs) (fun i H' => Same H H' ∧ ∃ acc, H' Dl = some (.lst acc) ∧ acc.length = i ∧ ∀ j y, acc[j]? = some y → Rl j y H') ⟨fun b o z => by rw [upd_ne (ne_of_none z hD)]; exact z, [], upd_same, rfl, fun j y h => by simp at h⟩ (fun i H' _ p => p.1.seq hx)
    (fun i x H' hi p => by
      obtain ⟨s, acc, hl, la, ha⟩ := p
      exact ⟨hw _, lcm_core (n := xs.length) st hD s hl la ha (Nat.lt_of_lt_of_le (List.getElem?_eq_some_iff.mp hi).1 hn) (fun j y H H' h1 h2 h3 => away j y Dl acc H H' h1 h2 h3) (he i x H' hi s)⟩)
    fun H' p => by
      obtain ⟨s, acc, hl, la, ha⟩ := p
      exact q Dl acc H' hD s hl la ha
end
end Er
namespace Er
open PySem PySem.Spec PyProof.Rows L2
/-! sorted(e, key=len), e a list of tuples -/
def lenLe (x y : Addr × List V) : Bool := decide (x.2.length ≤ y.2.length)
def refsOf (ts : List (Addr × List V)) : List V := ts.map fun t => V.ref t.1
def rSortLen (K : PySem.W.Frag) : List V → Hp → VK → Prop := fun xs H Q => ∃ (a : Addr) (ts : List (Addr × List V)), xs = [.ref a] ∧ SqL K H a (refsOf ts) ∧ (∀ t ∈ ts, H t.1 = some (.tup t.2)) ∧ ts.length ≤ 1000 ∧
  ∀ p, H p = none → Q (.ref p) (upd H p (.lst (refsOf (ts.mergeSort lenLe))))
def tSL (K : PySem.W.Frag) (t : TA) : TE := fun σ H Q => t σ H fun vs H1 => rSortLen K vs H1 Q
theorem each_refs : ∀ {ts : List (Addr × List V)} {its : List Value}, Vals (refsOf ts) its → PySem.W.EachIs (fun v (t : Addr × List V) => v = Value.ref t.1) its ts
  | [], _, .nil => .nil
  | t :: ts, _, .cons r rs => by
    cases r
    exact .cons rfl (each_refs rs)
theorem vals_each : ∀ {ts : List (Addr × List V)} {its : List Value}, PySem.W.EachIs (fun v (t : Addr × List V) => v = Value.ref t.1) its ts → Vals (refsOf ts) its
  | _, _, .nil => .nil
  | _, _, .cons r rs => .cons r (vals_each rs)
section
variable {X : Cx}
theorem sortLen_run {pins : List (Addr × Obj)} {s : Shared} {σ : L2.St} {H : Hp} {Q : VK} {vs : List V} {us : List Value} (I : Inv X pins σ H s) (r : Vals vs us) (hu : X.A.units + 64 < cLine) (q : rSortLen X.K vs H Q) :
    wpAny (model X.prog X.w) X.A (call (.builtin "sorted") us [(Str.ofString "key", .builtin "len")]) (EP X pins σ Q) X.xe s := by
  obtain ⟨a, ts, rfl, hl, ht, hz, q⟩ := q
  obtain rfl := Vals.ref1 r
  obtain ⟨its, rv, pl, hz'⟩ := I.list hl
  have e := each_refs rv
  have hline : (1000 : Nat) ≤ sizeLine := by decide
  refine PySem.W.sorted_key_data (b := false) (k := fun t : Addr × List V => PyData.int t.2.length) pl.isList e (PySem.W.AllAlike.of fun _ _ => by simp [PySem.W.alike]) (PySem.W.Sortable.others fun _ => ⟨by simp, by simp⟩) (Nat.le_trans hz hline) (fun x _ => ?_) (PyProof.Rows.ksk_s1 _ _) (fun _ => PyProof.Rows.ksk_l1 _ _) (fun _ => PyProof.Rows.ksk_t4 _ _)
    (fun v t hv hm h tk kp => ?_) fun out c h' tk kp fr hD hlen eo => ?_
  · show X.A.units + 2 + 0 < cLine
    omega
  · subst hv
    obtain ⟨its2, r2, p2, z2⟩ := I.tuple (SqT.of (K := X.K) (ht t hm))
    refine len_tuple (p2.keeps kp) (by have e1 := r2.length; have e2 := line63; simp only [List.size_toArray]; omega) ⟨_, _, rfl, fun b o z => z, ?_⟩
    rw [List.size_toArray, ← r2.length]
    exact .int _ _
  · have hm : ts.mergeSort (PySem.W.dataLe false fun t : Addr × List V => PyData.int t.2.length) = ts.mergeSort lenLe := by
      rw [PySem.W.dataLe_int fun t : Addr × List V => (t.2.length : Int)]
      congr 1
      funext x y
      unfold lenLe
      exact decide_eq_decide.mpr (by omega)
    rw [hm] at eo
    have hv := vals_each eo
    refine ⟨.ref _, upd H (s.heap.objs.size + 1) (.lst (refsOf (ts.mergeSort lenLe))), I.laid (t' := tk) kp (Nat.le_succ _) ⟨?_, _, c, hv, hD⟩, rfl, q _ (I.hok.fresh (Nat.le_succ _))⟩
    unfold refsOf
    rw [List.length_map, List.length_mergeSort]
    exact Nat.le_trans hz hline
theorem pe_sortLen {e : Expr} {t : TA} {p p2 pos kpos : Pos} (hu : X.A.units + 64 < cLine) (ha : PA X [e] t) (hg : Gl X "sorted") (hm : X.mg "sorted" = none) (hg2 : Gl X "len") (hm2 : X.mg "len" = none)
    (he : backTo pos (starEach [e] X.env) = (false, eval e X.env) :: backTo pos (starEach [] X.env) := by rfl) (hpl : (backTo pos (starEach [e] X.env)).any (·.1) = false := by rfl) :
    PE X (.Call (.Name "sorted" p) [e] [⟨some "key", .Name "len" p2, kpos⟩] pos) (tSL X.K t) := by
  refine ⟨fun pins s σ H Q I h => ?_⟩
  refine wpAny_Call_Name_kw (ld_blt I hg hm (u := .builtin "sorted") (by decide +kernel) ?_)
  refine PyProof.Rows.callWith_kw (thn (ha.run pos pins s σ H _ I h) fun us s1 ⟨vs, H1, I1, r1, q1⟩ => ?_) he hpl rfl rfl
  show wpAny _ _ (evalAll ((do let v ← eval (.Name "len" p2) X.env; standAt pos; pure v) :: [])) _ _ s1
  refine wpAny_evalAll_cons (wpAny_bind (ld_blt I1 hg2 hm2 PySem.boot_len (wpAny_bind (wpAny_standAt (wpAny_pure ?_)))))
  refine wpAny_evalAll_nil ?_
  exact sortLen_run I1 r1 hu q1
theorem r_SL {K : PySem.W.Frag} {t : TA} {σ : L2.St} {H : Hp} {Q : VK} (h : t σ H fun vs H1 => rSortLen K vs H1 Q) : tSL K t σ H Q := h
end
end Er
namespace Er
open PySem PySem.Spec PyProof.Rows L2
/-! sorted(xs), xs a list of pairs of a length and a tuple of ints -/
structure LP where
  p : Addr
  l : List Int
def LP.enc (x : LP) : PyData := .tuple [.int (x.l.length : Int), .tuple (x.l.map PyData.int)]
def refsL (ts : List LP) : List V := ts.map fun t => V.ref t.p
def rSortLP (K : PySem.W.Frag) : List V → Hp → VK → Prop := fun xs H Q => ∃ (a : Addr) (ts : List LP), xs = [.ref a] ∧ SqL K H a (refsL ts) ∧ (∀ t ∈ ts, Dp K H (.ref t.p) t.enc) ∧ ts.length ≤ 1000 ∧
  ∀ p ts', ts'.Perm ts → ts'.Pairwise (fun x y => x.l.length ≤ y.l.length) → H p = none → Q (.ref p) (upd H p (.lst (refsL ts')))
theorem each_refsL : ∀ {ts : List LP} {its : List Value}, Vals (refsL ts) its → PySem.W.EachIs (fun v (t : LP) => v = Value.ref t.p) its ts
  | [], _, .nil => .nil
  | t :: ts, _, .cons r rs => by
    cases r
    exact .cons rfl (each_refsL rs)
theorem vals_eachL : ∀ {ts : List LP} {its : List Value}, PySem.W.EachIs (fun v (t : LP) => v = Value.ref t.p) its ts → Vals (refsL ts) its
  | _, _, .nil => .nil
  | _, _, .cons r rs => .cons r (vals_eachL rs)
theorem alike_ints : ∀ xs ys : List Int, PySem.W.alikeAll (xs.map PyData.int) (ys.map PyData.int) = true
  | [], _ => by simp [PySem.W.alikeAll]
  | _ :: _, [] => by simp [PySem.W.alikeAll]
  | x :: xs, y :: ys => by
    have := alike_ints xs ys
    simp [PySem.W.alikeAll, PySem.W.alike, this]
theorem alike_enc (x y : LP) : PySem.W.alike x.enc y.enc = true := by
  simp [LP.enc, PySem.W.alike, PySem.W.alikeAll, alike_ints]
theorem okd_enc (x : LP) : Okd 2 x.enc := okd_tup fun d hd => by
  rcases List.mem_cons.mp hd with rfl | hd
  · exact (okd_int _).up (by decide)
  rcases List.mem_cons.mp hd with rfl | hd
  · exact okd_tup (okd_ints _)
  cases hd
theorem le_len {x y : LP} (h : PySem.W.dataLe false LP.enc x y = true) : x.l.length ≤ y.l.length := by
  have h : (!PySem.W.dataLt y.enc x.enc) = true := h
  rcases Nat.lt_or_ge y.l.length x.l.length with hl | hl
  · exfalso
    unfold LP.enc at h
    rw [PySem.W.dataLt_pair (by simp [PySem.W.alike]) (by simp [PySem.W.alike, alike_ints]), PySem.W.dataLt_int] at h
    have e : PyData.eqv (.int (y.l.length : Int)) (.int (x.l.length : Int)) = false := by
      simp only [PyData.eqv, beq_eq_false_iff_ne, ne_eq]
      omega
    rw [e, if_neg Bool.false_ne_true, decide_eq_true (by omega)] at h
    cases h
  · exact hl
section
variable {X : Cx}
theorem c_sortLP (hu : X.A.units + 64 < cLine) : CallR X (.builtin "sorted") (rSortLP X.K) := by
  intro pins s σ H xs us Q I r q
  obtain ⟨a, ts, rfl, hl, hd, hz, q⟩ := q
  obtain rfl := Vals.ref1 r
  obtain ⟨its, rv, pl, hz'⟩ := I.list hl
  have e := each_refsL rv
  have hline : (1000 : Nat) ≤ sizeLine := by decide
  have er : PySem.W.EachIs (fun v (b : LP) => ∃ as, Reads s.heap v b.enc as) its ts := (PySem.W.each_mem e).mono fun v b ⟨h1, h2⟩ => by
    subst h1
    exact Dp.reads I b.enc (.ref b.p) _ (hd b h2) rfl
  refine PySem.W.sorted_data pl.isList e er (PySem.W.AllAlike.of fun x y => alike_enc x y) (PySem.W.Sortable.tuples fun b => ⟨_, _, rfl⟩) (Nat.le_trans hz hline) (fun b _ => ?_) fun out ho eo => ?_
  · have := (okd_enc b).2
    omega
  · have hv := vals_eachL eo
    obtain ⟨ep, hat⟩ := PyProof.Rows.sortedAll_at s.heap its out.toArray
    refine ⟨.ref _, upd H (s.heap.objs.size + 1) (.lst (refsL (ts.mergeSort (PySem.W.dataLe false LP.enc)))), I.laid (t' := s.toks) (fun _ _ => PyProof.Rows.sortedAll_old) (Nat.le_succ _) ⟨?_, _, ep, hv, hat⟩, rfl, q _ _ (List.mergeSort_perm _ _) ?_ (I.hok.fresh (Nat.le_succ _))⟩
    · unfold refsL
      rw [List.length_map, List.length_mergeSort]
      exact Nat.le_trans hz hline
    · exact (PySem.W.sort_pairwise (PySem.W.sortLe_total _ _ _) ts).imp fun {x y} h => le_len h
end
end Er
namespace Er
open PySem PySem.Spec PyProof.Rows L2
/-! for x in e, e a list or a tuple, told when it is read -/
def seqK (K : PySem.W.Frag) (x : V) (H1 : Hp) (R : It → Hp → Prop) : Prop := ∃ a, x = .ref a ∧ (((∃ xs, SqL K H1 a xs) ∧ R (Itl K a) H1) ∨ ((∃ xs, SqT K H1 a xs) ∧ R (Itt K a) H1))
def iSeq (K : PySem.W.Frag) (te : TE) : TI := fun σ H R => te σ H fun x H1 => seqK K x H1 R
section
variable {X : Cx} {tg : Expr}
theorem pi_seq {l : Expr} {te : TE} (he : PE X l te) : PI X tg l (iSeq X.K te) := by
  constructor
  intro pins s σ H R I h
  refine thn (he.run pins s σ H _ I h) fun u s1 hh => ?_
  obtain ⟨x, H1, I1, rx, a, rfl, hx⟩ := hh
  obtain rfl : u = Value.ref a := rx
  rcases hx with ⟨⟨xs, hq⟩, q⟩ | ⟨⟨xs, hq⟩, q⟩
  · obtain ⟨its, _, pl, _⟩ := I1.list hq
    exact wpAny_pyIter_list pl.isList (pi_one (tk := s1.toks) I1 _ (turn_list a _) ⟨_, Heap.get?_push_size _ rfl, rfl, rfl⟩ q)
  · obtain ⟨its, _, pt, _⟩ := I1.tuple hq
    exact wpAny_pyIter_tuple pt (pi_one (tk := s1.toks) I1 _ (turn_tuple a _) ⟨_, Heap.get?_push_size _ rfl, rfl, rfl⟩ q)
theorem r_seqI {K : PySem.W.Frag} {te : TE} {σ : L2.St} {H : Hp} {R : It → Hp → Prop} (h : te σ H fun x H1 => seqK K x H1 R) : iSeq K te σ H R := h
theorem r_seqL {K : PySem.W.Frag} {H : Hp} {R : It → Hp → Prop} {a : Addr} {xs : List V} (h : SqL K H a xs) (q : R (Itl K a) H) : seqK K (.ref a) H R := ⟨a, rfl, .inl ⟨⟨xs, h⟩, q⟩⟩
theorem r_seqT {K : PySem.W.Frag} {H : Hp} {R : It → Hp → Prop} {a : Addr} {xs : List V} (h : SqT K H a xs) (q : R (Itt K a) H) : seqK K (.ref a) H R := ⟨a, rfl, .inr ⟨⟨xs, h⟩, q⟩⟩
end
end Er
namespace Er
open PySem PySem.Spec PyProof.Rows L2
/-! [x for x in xs for y in range(n)] -/
def lc2K (g : TG) (tt : TT) (wi1 : TI) (g1 : TG) (tt1 : TT) (te : TE) (vs vs1 : List Nat) (σ : L2.St) (Q : VK) : It → Hp → Prop := fun J H1 => ∀ D, H1 D = none → ∃ W : Nat → Nat → Hp → Prop, (∃ m, W 0 m (upd H1 D (.lst []))) ∧ ∀ i m H, W i m H →
  (J.stop i H ∧ Q (.ref D) H) ∨ (J.go i H ∧ ∃ Nx : Hp → Prop, (∀ H', Nx H' → ∃ m', m' < m ∧ W (i + 1) m' H') ∧ ∀ x H', J.yld i H x H' → g x (wipe σ vs) H' fun σ2 H2 => wipe σ2 vs = wipe σ vs ∧ tt σ2 H2 fun b H3 =>
    if b = true then wi1 σ2 H3 fun J1 H4 => ∃ W1 : Nat → Nat → Hp → Prop, (∃ m, W1 0 m H4) ∧ ∀ j k H, W1 j k H →
      (J1.stop j H ∧ Nx H) ∨ (J1.go j H ∧ ∃ Nx1 : Hp → Prop, (∀ H', Nx1 H' → ∃ k', k' < k ∧ W1 (j + 1) k' H') ∧ ∀ x H', J1.yld j H x H' → g1 x (wipe σ2 vs1) H' fun σ3 H5 => wipe σ3 vs1 = wipe σ2 vs1 ∧ tt1 σ3 H5 fun b H6 =>
        if b = true then te σ3 H6 fun y H7 => ∃ acc, H7 D = some (.lst acc) ∧ acc.length < sizeLine ∧ Nx1 (upd H7 D (.lst (acc ++ [y]))) else Nx1 H6)
    else Nx H3)
section
variable {K : PySem.W.Frag} {σ : L2.St} {H : Hp} {Q : VK} {wi wi1 : TI} {g g1 : TG} {tt tt1 : TT} {te : TE} {vs vs1 : List Nat}
theorem r_tYesE {QT : Bool → Hp → Prop} (h : QT true H) : tYes σ H QT := h
theorem r_lc2 (h : wi σ H (lc2K g tt wi1 g1 tt1 te vs vs1 σ Q)) : tLc2 wi g tt wi1 g1 tt1 te vs vs1 σ H Q := h
theorem r_lc2R {J : It} {xs : List V} {G : Hp → Prop} {n j j1 : Nat} (w : Walk J xs.length G (YAt xs)) (hG : ∀ H', Same H H' → G H') (hz : xs.length * n ≤ 100000)
    (hw : ∀ x, wipe ((wipe σ vs).set j (some x)) vs = wipe σ vs) (hw1 : ∀ x y, wipe ((wipe ((wipe σ vs).set j (some x)) vs1).set j1 (some y)) vs1 = wipe ((wipe σ vs).set j (some x)) vs1)
    (hwi : ∀ x H' R, Same H H' → R (Itr 0 n) H' → wi1 ((wipe σ vs).set j (some x)) H' R)
    (hel : ∀ x y H' (Q' : VK), Q' x H' → te ((wipe ((wipe σ vs).set j (some x)) vs1).set j1 (some y)) H' Q')
    (q : ∀ p H', H p = none → Same H H' → H' p = some (.lst (xs.flatMap fun x => List.replicate n x)) → Q (.ref p) H') : lc2K (gName j) tYes wi1 (gName j1) tYes te vs vs1 σ Q J H := fun D hD => by
  have h1000 : (100000 : Nat) < sizeLine := by decide
  refine ⟨fun i m H' => m = xs.length - i ∧ i ≤ xs.length ∧ Same H H' ∧ H' D = some (.lst ((xs.take i).flatMap fun x => List.replicate n x)), ⟨xs.length, by simp, Nat.zero_le _, fun b o z => by rw [upd_ne (ne_of_none z hD)]; exact z, by rw [upd_same]; rfl⟩, ?_⟩
  rintro i m H1 ⟨rfl, hi, s1, hl⟩
  rcases Nat.lt_or_ge i xs.length with hlt | hge
  · refine .inr ⟨w.goes i H1 hlt (hG H1 s1), fun H' => Same H H' ∧ H' D = some (.lst ((xs.take (i + 1)).flatMap fun x => List.replicate n x)), fun H' p => ⟨xs.length - (i + 1), by omega, rfl, hlt, p⟩, fun x H2 y => ?_⟩
    obtain ⟨rfl, hx⟩ := w.yields i H1 x H2 hlt (hG H1 s1) y
    have et : (xs.take (i + 1)).flatMap (fun x => List.replicate n x) = (xs.take i).flatMap (fun x => List.replicate n x) ++ List.replicate n x := by
      rw [List.take_add_one, hx, List.flatMap_append]
      simp
    have hlen : ((xs.take i).flatMap fun x => List.replicate n x).length = i * n := by
      rw [List.length_flatMap]
      simp only [List.length_replicate, List.map_const', List.sum_replicate_nat, List.length_take]
      rw [Nat.min_eq_left (by omega)]
    have hb : i * n + n ≤ xs.length * n := by
      have := Nat.mul_le_mul_right n hlt
      rw [Nat.succ_mul] at this
      exact this
    refine ⟨hw x, ?_⟩
    refine r_tYesE ?_
    refine iteT ?_
    refine hwi x H2 _ s1 ?_
    refine ⟨fun jj k H' => k = n - jj ∧ jj ≤ n ∧ Same H H' ∧ H' D = some (.lst ((xs.take i).flatMap (fun x => List.replicate n x) ++ List.replicate jj x)), ⟨n, by simp, Nat.zero_le _, s1, by simpa using hl⟩, ?_⟩
    rintro jj k H3 ⟨rfl, hj, s3, hl3⟩
    rcases Nat.lt_or_ge jj n with hjn | hjn
    · refine .inr ⟨hjn, fun H' => Same H H' ∧ H' D = some (.lst ((xs.take i).flatMap (fun x => List.replicate n x) ++ List.replicate (jj + 1) x)), fun H' p => ⟨n - (jj + 1), by omega, rfl, hjn, p⟩, fun z H4 y => ?_⟩
      obtain ⟨rfl, rfl⟩ := y
      refine ⟨hw1 x _, ?_⟩
      refine r_tYesE ?_
      refine iteT ?_
      refine hel x _ _ _ ⟨_, hl3, ?_, fun b o z => by rw [upd_ne (ne_of_none z hD)]; exact s3 _ _ z, ?_⟩
      · rw [List.length_append, List.length_replicate, hlen]
        omega
      · rw [upd_same, List.append_assoc, List.replicate_succ']
    · have e : jj = n := by omega
      subst e
      exact .inl ⟨hjn, s3, by rw [et]; exact hl3⟩
  · have e : i = xs.length := by omega
    subst e
    rw [List.take_length] at hl
    exact .inl ⟨w.stops H1 (hG H1 s1), q D H1 hD s1 hl⟩
end
end Er
namespace Er
open PySem PySem.Spec PyProof.Rows L2
/-! sorted(xs), xs a list of pairs of a name and a tuple of names -/
structure NP where
  p : Addr
  c : Nat
  l : List Nat
def NP.enc (x : NP) : PyData := .tuple [.int (x.c : Int), .tuple ((x.l.map fun (c : Nat) => (c : Int)).map PyData.int)]
def refsN (ts : List NP) : List V := ts.map fun t => V.ref t.p
def rSortNP (K : PySem.W.Frag) : List V → Hp → VK → Prop := fun xs H Q => ∃ (a : Addr) (ts : List NP), xs = [.ref a] ∧ SqL K H a (refsN ts) ∧ (∀ t ∈ ts, Dp K H (.ref t.p) t.enc) ∧ ts.length ≤ 1000 ∧
  ∀ p ts', ts'.Perm ts → ts'.Pairwise (fun x y => x.c ≤ y.c) → H p = none → Q (.ref p) (upd H p (.lst (refsN ts')))
theorem each_refsN : ∀ {ts : List NP} {its : List Value}, Vals (refsN ts) its → PySem.W.EachIs (fun v (t : NP) => v = Value.ref t.p) its ts
  | [], _, .nil => .nil
  | t :: ts, _, .cons r rs => by
    cases r
    exact .cons rfl (each_refsN rs)
theorem vals_eachN : ∀ {ts : List NP} {its : List Value}, PySem.W.EachIs (fun v (t : NP) => v = Value.ref t.p) its ts → Vals (refsN ts) its
  | _, _, .nil => .nil
  | _, _, .cons r rs => .cons r (vals_eachN rs)
theorem alike_encN (x y : NP) : PySem.W.alike x.enc y.enc = true := by
  simp [NP.enc, PySem.W.alike, PySem.W.alikeAll, alike_ints, -List.map_map]
theorem okd_encN (x : NP) : Okd 2 x.enc := okd_tup fun d hd => by
  rcases List.mem_cons.mp hd with rfl | hd
  · exact (okd_int _).up (by decide)
  rcases List.mem_cons.mp hd with rfl | hd
  · exact okd_tup (okd_ints _)
  cases hd
theorem le_nam {x y : NP} (h : PySem.W.dataLe false NP.enc x y = true) : x.c ≤ y.c := by
  have h : (!PySem.W.dataLt y.enc x.enc) = true := h
  rcases Nat.lt_or_ge y.c x.c with hl | hl
  · exfalso
    unfold NP.enc at h
    rw [PySem.W.dataLt_pair (by simp [PySem.W.alike]) (by simp [PySem.W.alike, alike_ints, -List.map_map]), PySem.W.dataLt_int] at h
    have e : PyData.eqv (.int (y.c : Int)) (.int (x.c : Int)) = false := by
      simp only [PyData.eqv, beq_eq_false_iff_ne, ne_eq]
      omega
    rw [e, if_neg Bool.false_ne_true, decide_eq_true (by omega)] at h
    cases h
  · exact hl
section
variable {X : Cx}
theorem c_sortNP (hu : X.A.units + 64 < cLine) : CallR X (.builtin "sorted") (rSortNP X.K) := by
  intro pins s σ H xs us Q I r q
  obtain ⟨a, ts, rfl, hl, hd, hz, q⟩ := q
  obtain rfl := Vals.ref1 r
  obtain ⟨its, rv, pl, hz'⟩ := I.list hl
  have e := each_refsN rv
  have hline : (1000 : Nat) ≤ sizeLine := by decide
  have er : PySem.W.EachIs (fun v (b : NP) => ∃ as, Reads s.heap v b.enc as) its ts := (PySem.W.each_mem e).mono fun v b ⟨h1, h2⟩ => by
    subst h1
    exact Dp.reads I b.enc (.ref b.p) _ (hd b h2) rfl
  refine PySem.W.sorted_data pl.isList e er (PySem.W.AllAlike.of fun x y => alike_encN x y) (PySem.W.Sortable.tuples fun b => ⟨_, _, rfl⟩) (Nat.le_trans hz hline) (fun b _ => ?_) fun out ho eo => ?_
  · have := (okd_encN b).2
    omega
  · have hv := vals_eachN eo
    obtain ⟨ep, hat⟩ := PyProof.Rows.sortedAll_at s.heap its out.toArray
    refine ⟨.ref _, upd H (s.heap.objs.size + 1) (.lst (refsN (ts.mergeSort (PySem.W.dataLe false NP.enc)))), I.laid (t' := s.toks) (fun _ _ => PyProof.Rows.sortedAll_old) (Nat.le_succ _) ⟨?_, _, ep, hv, hat⟩, rfl, q _ _ (List.mergeSort_perm _ _) ?_ (I.hok.fresh (Nat.le_succ _))⟩
    · unfold refsN
      rw [List.length_map, List.length_mergeSort]
      exact Nat.le_trans hz hline
    · exact (PySem.W.sort_pairwise (PySem.W.sortLe_total _ _ _) ts).imp fun {x y} h => le_nam h
end
end Er
/-! for .. in a generator def: its body may yield -/
namespace Er
open PySem PySem.Spec PyProof.Rows L2 GenW
section
variable {M : Model} {A : Around} {R : GenEnd} {Y : Protocol} {n : Nat} {s₀ s : Shared} {c : Code} {fs : List Frame} {env : Env}
/-- the head of the loop: what is walked, its iterator -/
theorem segF_head {target iter : Expr} {body : List Stmt} {pos : Pos} {K : Flow → Sem PySem.Fin} {J : Value → Sem PySem.Fin} {gd : Bool → Bool} {lv : List Value → List Value} (hs : ∀ x, foldedSetIterable iter env x = pure x)
    (h : wpAny M (A.over c fs) (eval iter env) (fun v s1 => wpAny M (A.over c fs) (pyIter v) (fun it s2 => ∀ p, Seg M A R Y n s₀ (.forLoop target it body [] env) (M.den (.forLoop target it body [] env))
        (.ret (fun r => ((match r with | .ok f => (.pure f : Sem Flow) | .error e => .raise e).onRaise (cameBack env)).wrap K J gd lv) none (gd false) (lv []) c p [] :: fs) s2)
      (fun x s' => Seg M A R Y n s₀ c (J x) fs s') s1) (fun x s' => Seg M A R Y n s₀ c (J x) fs s') s) :
    Seg M A R Y n s₀ c ((exec (.For target iter body [] pos) env).wrap K J gd lv) fs s := by
  rw [exec_For]
  refine seg_bind_wrap (wpAny_standAt ?_)
  refine seg_bind_wrap (wpAny_mono h (fun v s1 h1 => ?_) fun _ _ z => z)
  refine seg_bind_wrap (wpAny_of_eq (hs v) ?_)
  refine seg_bind_wrap (wpAny_standAt ?_)
  refine seg_bind_wrap (wpAny_holding (wpAny_mono h1 (fun it s2 h2 => ?_) fun _ _ z => z))
  exact seg_call h2
end
section
variable {prog : Program} {w : World} {A : Around} {R : GenEnd} {Y : Protocol} {n : Nat} {s₀ : Shared} {fs : List Frame} {s : Shared} {env : Env}
def passOn (env : Env) (x : Value) : Sem PySem.Fin := (do noteFrame x env; theTreesLotGoes x : Sem Unit).wrap (fun _ => .raise x) .raise id id
/-- one turn -/
theorem segF_turn {target : Expr} {it : Value} {body : List Stmt}
    (h : wpAny (model prog w) (A.over (.forLoop target it body [] env) fs) (pyNext it) (fun r s1 => match r with
        | none => Seg (model prog w) A R Y n s₀ (.block [] env) ((model prog w).den (.block [] env)) fs s1
        | some v => wpAny (model prog w) (A.over (.forLoop target it body [] env) fs) (letOwnedTupleGo target it v) (fun _ s2 => wpAny (model prog w) (A.over (.forLoop target it body [] env) fs) (assign target env v)
            (fun _ s3 => Seg (model prog w) A R Y n s₀ (.forLoop target it body [] env) ((execs body env).wrap (fun f => match f with
              | .next | .cont => .pure (.again (.forLoop target it body [] env))
              | .brk => .pure (.done .next)
              | .ret v => .pure (.done (.ret v))) (passOn env) id id) fs s3)
            (fun x s' => Seg (model prog w) A R Y n s₀ (.forLoop target it body [] env) (passOn env x) fs s') s2) (fun x s' => Seg (model prog w) A R Y n s₀ (.forLoop target it body [] env) (passOn env x) fs s') s1)
      (fun x s' => Seg (model prog w) A R Y n s₀ (.forLoop target it body [] env) (passOn env x) fs s') s) :
    Seg (model prog w) A R Y n s₀ (.forLoop target it body [] env) ((model prog w).den (.forLoop target it body [] env)) fs s := by
  show Seg _ A R Y n s₀ _ ((forTurn target it body [] env).onRaise (fun x => do noteFrame x env; theTreesLotGoes x)) fs s
  have eH : (fun e : Value => ((do noteFrame e env; theTreesLotGoes e : Sem Unit).bind fun _ => (Sem.raise e : Sem PySem.Fin))) = passOn env := by
    funext e
    unfold passOn
    rw [Sem.bind_eq_wrap]
  rw [Sem.onRaise_eq_wrap]
  unfold forTurn
  have go : ∀ {t : Sem PySem.Fin} {s' : Shared}, Seg (model prog w) A R Y n s₀ (.forLoop target it body [] env) (t.wrap .pure (passOn env) id id) fs s' → Seg (model prog w) A R Y n s₀ (.forLoop target it body [] env) (t.wrap .pure (fun e : Value => ((do noteFrame e env; theTreesLotGoes e : Sem Unit).bind fun _ => (Sem.raise e : Sem PySem.Fin))) id id) fs s' := fun {t s'} z => by
    rw [eH]
    exact z
  refine go ?_
  refine seg_bind_wrap (wpAny_standAt ?_)
  refine seg_bind_wrap (wpAny_onRaise (wpAny_mono h (fun r s1 h1 => ?_) fun _ _ z => wpAny_standAt z))
  cases r with
  | none => exact seg_again rfl h1
  | some v =>
    refine seg_bind_wrap (wpAny_mono h1 (fun _ s2 h2 => ?_) fun _ _ z => z)
    refine seg_bind_wrap (wpAny_mono h2 (fun _ s3 h3 => ?_) fun _ _ z => z)
    rw [Sem.bind_eq_wrap', Sem.wrap_wrap]
    have e2 := Sem.wrap_congr (execs body env) (fun g => id (id g)) (fun l => id (id l)) (K := fun a : Flow => Sem.wrap Sem.pure (passOn env) id id (match a with
          | Flow.next => again (Code.forLoop target it body [] env)
          | Flow.cont => again (Code.forLoop target it body [] env)
          | Flow.brk => pure (PySem.Fin.done Flow.next)
          | Flow.ret v => pure (PySem.Fin.done (Flow.ret v)))) (H := fun e : Value => Sem.wrap Sem.pure (passOn env) id id (Sem.raise e)) (K' := fun f => match f with
              | .next | .cont => .pure (.again (.forLoop target it body [] env))
              | .brk => .pure (.done .next)
              | .ret v => .pure (.done (.ret v))) (H' := passOn env) (fun f => by cases f <;> rfl) (fun e => rfl)
    exact (congrArg (fun t => Seg (model prog w) A R Y n s₀ (Code.forLoop target it body [] env) t fs s3) e2).mpr h3
end
end Er
namespace Er
open PySem PySem.Spec PyProof.Rows L2 GenW
/-- for: the body may yield -/
def tGFor (wi : TI) (g : TG) (tb : TGn) : TGn := fun D ys σ H => wi σ H fun J H1 => ∃ W : Nat → Nat → List V → L2.St → Hp → Prop, (∃ m, W 0 m ys σ H1) ∧ ∀ i m ys σ H, W i m ys σ H →
  (J.stop i H ∧ D.nx ys σ H) ∨ (J.go i H ∧ ∃ N : List V → L2.St → Hp → Prop, (∀ ys' σ' H', N ys' σ' H' → ∃ m', m' < m ∧ W (i + 1) m' ys' σ' H') ∧ ∀ x H', J.yld i H x H' → g x σ H' fun σ2 H2 => tb { D with nx := N, ct := N, bk := D.nx } ys σ2 H2)
theorem gs_for {X : Cx} {tg iter : Expr} {body : List Stmt} {pos : Pos} {wi : TI} {g : TG} {tb : TGn} (hp : PassesOwn (model X.prog X.w) X.A X.env X.xe) (hc : X.calm = true) (hi : PI X tg iter wi) (hg : PG X tg g) (hb : GSs X body tb)
    (hs : ∀ x, foldedSetIterable iter X.env x = pure x := by intro _; rfl) : GS X (.For tg iter body [] pos) (tGFor wi g tb) := by
  refine ⟨fun A S ip R n ys s₀ c fs K J gd lv s σ H D gc hn k hI ht => ?_⟩
  obtain ⟨acc, cc, r, I⟩ := hI
  refine segF_head hs ?_
  rw [gc.over]
  refine wpAny_mono (hi.run _ s σ H _ I ht) (fun v s1 h1 => ?_) fun x s' hx => k.exc n s₀ x s' hx
  refine wpAny_mono h1 (fun itv s2 h2 => ?_) fun x s' hx => k.exc n s₀ x s' hx
  intro p
  obtain ⟨it, fp, tn, Jt, H2, e, I2, T, st2, f2, W, ⟨m0, w0⟩, turn⟩ := h2
  subst e
  have gl := fun (kk : Result → Sem PySem.Fin) => gc_loop (k := kk) (c' := .forLoop tg (.ref it) body [] X.env) (l := lv []) (kp := []) (p := p) gc rfl rfl
  have fpS : ∀ b ∈ fp, S ≠ b := fun b hbf => (f2 b hbf).2.2.2.2.2 (S, lstObj acc cc) (List.mem_append_right _ (List.mem_cons_self ..))
  have fpok : ∀ (acc' : Array Value) (c' : Nat) {H' : Hp}, (∀ b ∈ fp, H' b = none) → ∀ b ∈ fp, FpOk X ((S, lstObj acc' c') :: ip) H' b := fun acc' c' H' hn b hbf => by
    obtain ⟨_, a2, a3, a4, a5, a6⟩ := f2 b hbf
    refine ⟨hn b hbf, a2, a3, a4, a5, fun q hq => ?_⟩
    rcases List.mem_append.mp hq with hq | hq
    · exact a6 q (List.mem_append_left _ hq)
    · rcases List.mem_cons.mp hq with hq | hq
      · rw [hq]; exact fpS b hbf
      · exact a6 q (List.mem_append_right _ (List.mem_cons_of_mem _ hq))
  have ee : ∀ (n : Nat) (s₀ : Shared) (x : Value) (s' : Shared), X.xe x s' → Seg (model X.prog X.w) A R (GY X S) n s₀ (.forLoop tg (.ref it) body [] X.env) (passOn X.env x)
      (.ret (fun r => ((match r with | .ok f => (.pure f : Sem Flow) | .error e => .raise e).onRaise (cameBack X.env)).wrap K J gd lv) none (gd false) (lv []) c p [] :: fs) s' := fun n s₀ x s' hx => by
    unfold passOn
    refine seg_wrap ?_
    rw [(gl _).over]
    refine wpAny_bind (wpAny_mono (hp x s' hx) (fun _ s'' hcb => wpAny_theTreesLotGoes ?_) fun y s'' hcb => ?_)
    · exact seg_leaf (.error x) (seg_cameBack gc k hcb)
    · exact seg_leaf (.error y) (seg_cameBack gc k hcb)
  have loop : ∀ (m i n : Nat) (ys : List V) (s₀ s : Shared) (σ : L2.St) (H : Hp), n + ys.length = sizeLine → W i m ys σ H → GI X S ip ys σ H s → tn i s.heap → (∀ b ∈ fp, H b = none) →
      Seg (model X.prog X.w) A R (GY X S) n s₀ (.forLoop tg (.ref it) body [] X.env) ((model X.prog X.w).den (.forLoop tg (.ref it) body [] X.env))
        (.ret (fun r => ((match r with | .ok f => (.pure f : Sem Flow) | .error e => .raise e).onRaise (cameBack X.env)).wrap K J gd lv) none (gd false) (lv []) c p [] :: fs) s := by
    intro m
    induction m using Nat.strongRecOn with
    | ind m ih =>
      intro i n ys s₀ s σ H hn w hI st fr
      obtain ⟨acc3, c3, r3, I3⟩ := hI
      refine segF_turn ?_
      rw [(gl _).over]
      rcases turn i m ys σ H w with ⟨stop, q⟩ | ⟨go, N, hN, step⟩
      · refine wpAny_mono (T.done X rfl rfl rfl hc i _ s σ H X.xe I3 (fpok acc3 c3 fr) st stop) (fun r s4 h4 => ?_) fun x s' hx => ee n s₀ x s' hx
        obtain ⟨hr, I4⟩ := h4
        subst hr
        exact seg_leaf (.ok .next) (k.ok n ys s₀ s4 .next hn ⟨σ, H, ⟨acc3, c3, r3, I4⟩, q⟩)
      · refine wpAny_mono (T.item X rfl rfl rfl hc i _ s σ H X.xe I3 (fpok acc3 c3 fr) st go) (fun r s4 h4 => ?_) fun x s' hx => ee n s₀ x s' hx
        obtain ⟨u, hr, h4⟩ := h4
        subst hr
        refine wpAny_mono h4 (fun _ s5 h5 => ?_) fun x s' hx => ee n s₀ x s' hx
        obtain ⟨x, H5, I5, r5, y5, st5, fr5⟩ := h5
        have I5' := I5.pinned (fpok acc3 c3 fr5) (T.obj _ _ st5)
        refine wpAny_mono (hg.run _ s5 σ H5 x u _ I5' r5 (step x H5 y5)) (fun _ s6 h6 => ?_) fun x s' hx => ee n s₀ x s' hx
        obtain ⟨σ6, H6, I6, q6⟩ := h6
        have hip : ∀ q ∈ ip ++ pinsAt fp s5.heap, q.1 ≠ S := fun q hq => by
          rcases List.mem_append.mp hq with hq | hq
          · exact gc.ip q hq
          · exact Ne.symm (fpS q.1 (of_pinsAt hq).1)
        have back : ∀ {ys' : List V} {σ7 : L2.St} {H7 : Hp} {s7 : Shared}, GI X S (ip ++ pinsAt fp s5.heap) ys' σ7 H7 s7 → GI X S ip ys' σ7 H7 s7 ∧ tn (i + 1) s7.heap ∧ ∀ b ∈ fp, H7 b = none := fun {ys' σ7 H7 s7} h => by
          obtain ⟨acc7, c7, r7, I7⟩ := h
          have pin7 : ∀ b ∈ fp, ∀ o, s5.heap.get? b = some o → s7.heap.get? b = some o ∧ H7 b = none := fun b hbf o eo => by
            obtain ⟨z1, z2, _⟩ := I7.pin (b, o) (List.mem_append_right _ (List.mem_cons_of_mem _ (List.mem_append_right _ (mem_pinsAt hbf eo))))
            exact ⟨z1, z2⟩
          refine ⟨⟨acc7, c7, r7, Inv.unpinned (pl := pinsAt fp s5.heap) I7⟩, T.keep _ _ _ st5 fun b hbf o eo => (pin7 b hbf o eo).1, fun b hbf => ?_⟩
          obtain ⟨o, eo, _⟩ := T.obj _ _ st5 b hbf
          exact (pin7 b hbf o eo).2
        refine hb.run A S (ip ++ pinsAt fp s5.heap) R n ys s₀ _ _ _ _ id id s6 σ6 H6 { D with nx := N, ct := N, bk := D.nx } ⟨gc.pn, hip, gc.apart, (gl _).over, (gl _).split, (gl _).guard, rfl⟩ hn ⟨fun n' ys' s₀' s7 f hn' h7 => ?_, fun n' s₀' x s7 hx => ee n' s₀' x s7 hx⟩ ⟨acc3, c3, r3, I6⟩ q6
        cases f with
        | next =>
          obtain ⟨σ7, H7, I7, n7⟩ := h7
          obtain ⟨m', hm, w7⟩ := hN ys' σ7 H7 n7
          obtain ⟨g7, t7, f7⟩ := back I7
          exact seg_again rfl (ih m' hm (i + 1) n' ys' s₀' s7 σ7 H7 hn' w7 g7 t7 f7)
        | cont =>
          obtain ⟨σ7, H7, I7, n7⟩ := h7
          obtain ⟨m', hm, w7⟩ := hN ys' σ7 H7 n7
          obtain ⟨g7, t7, f7⟩ := back I7
          exact seg_again rfl (ih m' hm (i + 1) n' ys' s₀' s7 σ7 H7 hn' w7 g7 t7 f7)
        | brk =>
          obtain ⟨σ7, H7, I7, q7⟩ := h7
          exact seg_leaf (.ok .next) (k.ok n' ys' s₀' s7 .next hn' ⟨σ7, H7, (back I7).1, q7⟩)
        | ret v =>
          obtain ⟨x7, σ7, H7, I7, r7, q7⟩ := h7
          exact seg_leaf (.ok (.ret v)) (k.ok n' ys' s₀' s7 (.ret v) hn' ⟨x7, σ7, H7, (back I7).1, r7, q7⟩)
  exact loop m0 0 n ys s₀ s2 σ H2 hn w0 ⟨acc, cc, r, I2⟩ st2 fun b hbf => (f2 b hbf).1
end Er
namespace Er
open PySem PySem.Spec PyProof.Rows L2
/-! a list or a tuple: xs[i], the targets x, y, sorted(.., key=len) -/
def SqX (K : PySem.W.Frag) (H : Hp) (a : Addr) (xs : List V) : Prop := SqL K H a xs ∨ SqT K H a xs
def rIxA (K : PySem.W.Frag) : R2 := fun x y H Q => rIxL K x y H Q ∨ rIxT K x y H Q
theorem ix_any {X : Cx} : IxR X (rIxA X.K) := by
  intro value slice pins s σ H x y v u Q I r1 r2 h e
  rcases h with h | h
  · exact ix_list value slice pins s σ H x y v u Q I r1 r2 h e
  · exact ix_tup value slice pins s σ H x y v u Q I r1 r2 h e
theorem ixA (K : PySem.W.Frag) {X : Cx} (e : X.K = K := by rfl) : IxR X (rIxA K) := by subst e; exact ix_any
theorem r_ixA {K : PySem.W.Frag} {H : Hp} {Q : VK} {p : Addr} {xs : List V} {k : Int} {v : V} (h : SqX K H p xs) (e : atI xs k = some v) (q : Q v H) : rIxA K (.ref p) (.int k) H Q := h.elim (fun h => .inl (r_ixL h e q)) fun h => .inr (r_ixT h e q)
def gAny (K : PySem.W.Frag) (n : Nat) (t : TGs) : TG := fun v σ H Q => ∃ a xs, v = .ref a ∧ SqX K H a xs ∧ xs.length = n ∧ t xs σ H Q
theorem pg_any {X : Cx} {es : List Expr} {k : Nat} {t : TGs} {n : Nat} {pos : Pos} (hc : X.calm = true) (h : PGs X es t) (hn : (assignEach es X.env).length = n := by rfl) (hst : (assignEach es X.env).findIdx? (·.1) = none := by rfl) : PG X (.Tuple es k pos) (gAny X.K n t) := by
  refine ⟨fun pins s σ H v u Q I r hw => ?_⟩
  obtain ⟨a, xs, e, hq, hl, hw⟩ := hw
  rcases hq with hq | hq
  · exact (pg_lst (k := k) (pos := pos) hc h hn hst).run pins s σ H v u Q I r ⟨a, xs, e, hq, hl, hw⟩
  · exact (pg_tup (k := k) (pos := pos) hc h hn hst).run pins s σ H v u Q I r ⟨a, xs, e, hq, hl, hw⟩
theorem r_gA {K : PySem.W.Frag} {σ : L2.St} {H : Hp} {n : Nat} {t : TGs} {a : Addr} {xs : List V} {k : L2.St → Hp → Prop} (h : SqX K H a xs) (l : xs.length = n) (q : t xs σ H k) : gAny K n t (.ref a) σ H k := ⟨a, xs, rfl, h, l, q⟩
def rSortLenA (K : PySem.W.Frag) : List V → Hp → VK → Prop := fun xs H Q => ∃ (a : Addr) (ts : List (Addr × List V)), xs = [.ref a] ∧ SqL K H a (refsOf ts) ∧ (∀ t ∈ ts, SqX K H t.1 t.2) ∧ ts.length ≤ 1000 ∧
  ∀ p, H p = none → Q (.ref p) (upd H p (.lst (refsOf (ts.mergeSort lenLe))))
def tSLA (K : PySem.W.Frag) (t : TA) : TE := fun σ H Q => t σ H fun vs H1 => rSortLenA K vs H1 Q
theorem r_SLA {K : PySem.W.Frag} {t : TA} {σ : L2.St} {H : Hp} {Q : VK} (h : t σ H fun vs H1 => rSortLenA K vs H1 Q) : tSLA K t σ H Q := h
section
variable {X : Cx}
theorem sortLenA_run {pins : List (Addr × Obj)} {s : Shared} {σ : L2.St} {H : Hp} {Q : VK} {vs : List V} {us : List Value} (I : Inv X pins σ H s) (r : Vals vs us) (hu : X.A.units + 64 < cLine) (q : rSortLenA X.K vs H Q) :
    wpAny (model X.prog X.w) X.A (call (.builtin "sorted") us [(Str.ofString "key", .builtin "len")]) (EP X pins σ Q) X.xe s := by
  obtain ⟨a, ts, rfl, hl, ht, hz, q⟩ := q
  obtain rfl := Vals.ref1 r
  obtain ⟨its, rv, pl, hz'⟩ := I.list hl
  have e := each_refs rv
  have hline : (1000 : Nat) ≤ sizeLine := by decide
  refine PySem.W.sorted_key_data (b := false) (k := fun t : Addr × List V => PyData.int t.2.length) pl.isList e (PySem.W.AllAlike.of fun _ _ => by simp [PySem.W.alike]) (PySem.W.Sortable.others fun _ => ⟨by simp, by simp⟩) (Nat.le_trans hz hline) (fun x _ => ?_) (PyProof.Rows.ksk_s1 _ _) (fun _ => PyProof.Rows.ksk_l1 _ _) (fun _ => PyProof.Rows.ksk_t4 _ _)
    (fun v t hv hm h tk kp => ?_) fun out c h' tk kp fr hD hlen eo => ?_
  · show X.A.units + 2 + 0 < cLine
    omega
  · subst hv
    rcases ht t hm with h1 | h1
    · obtain ⟨its2, r2, p2, z2⟩ := I.list h1
      obtain ⟨o2, ho2, ro2⟩ := p2.isList
      refine PyProof.Rows.len_list (l := t.1) (items := its2.toArray) ⟨o2, kp _ _ ho2, ro2⟩ (by have e1 := r2.length; have e2 := line63; simp only [List.size_toArray]; omega) ⟨_, _, rfl, fun b o z => z, ?_⟩
      rw [List.size_toArray, ← r2.length]
      exact .int _ _
    · obtain ⟨its2, r2, p2, z2⟩ := I.tuple h1
      refine len_tuple (p2.keeps kp) (by have e1 := r2.length; have e2 := line63; simp only [List.size_toArray]; omega) ⟨_, _, rfl, fun b o z => z, ?_⟩
      rw [List.size_toArray, ← r2.length]
      exact .int _ _
  · have hm : ts.mergeSort (PySem.W.dataLe false fun t : Addr × List V => PyData.int t.2.length) = ts.mergeSort lenLe := by
      rw [PySem.W.dataLe_int fun t : Addr × List V => (t.2.length : Int)]
      congr 1
      funext x y
      unfold lenLe
      exact decide_eq_decide.mpr (by omega)
    rw [hm] at eo
    have hv := vals_each eo
    refine ⟨.ref _, upd H (s.heap.objs.size + 1) (.lst (refsOf (ts.mergeSort lenLe))), I.laid (t' := tk) kp (Nat.le_succ _) ⟨?_, _, c, hv, hD⟩, rfl, q _ (I.hok.fresh (Nat.le_succ _))⟩
    unfold refsOf
    rw [List.length_map, List.length_mergeSort]
    exact Nat.le_trans hz hline
theorem pe_sortLenA {e : Expr} {t : TA} {p p2 pos kpos : Pos} (hu : X.A.units + 64 < cLine) (ha : PA X [e] t) (hg : Gl X "sorted") (hm : X.mg "sorted" = none) (hg2 : Gl X "len") (hm2 : X.mg "len" = none)
    (he : backTo pos (starEach [e] X.env) = (false, eval e X.env) :: backTo pos (starEach [] X.env) := by rfl) (hpl : (backTo pos (starEach [e] X.env)).any (·.1) = false := by rfl) :
    PE X (.Call (.Name "sorted" p) [e] [⟨some "key", .Name "len" p2, kpos⟩] pos) (tSLA X.K t) := by
  refine ⟨fun pins s σ H Q I h => ?_⟩
  refine wpAny_Call_Name_kw (ld_blt I hg hm (u := .builtin "sorted") (by decide +kernel) ?_)
  refine PyProof.Rows.callWith_kw (thn (ha.run pos pins s σ H _ I h) fun us s1 ⟨vs, H1, I1, r1, q1⟩ => ?_) he hpl rfl rfl
  show wpAny _ _ (evalAll ((do let v ← eval (.Name "len" p2) X.env; standAt pos; pure v) :: [])) _ _ s1
  refine wpAny_evalAll_cons (wpAny_bind (ld_blt I1 hg2 hm2 PySem.boot_len (wpAny_bind (wpAny_standAt (wpAny_pure ?_)))))
  refine wpAny_evalAll_nil ?_
  exact sortLenA_run I1 r1 hu q1
/-! sorted(xs), xs a list of things that read as data -/
def refsD (ts : List (Addr × PyData)) : List V := ts.map fun t => V.ref t.1
def datLe : Addr × PyData → Addr × PyData → Bool := PySem.W.dataLe false fun t : Addr × PyData => t.2
def rSortDat (K : PySem.W.Frag) : List V → Hp → VK → Prop := fun xs H Q => ∃ (a : Addr) (ts : List (Addr × PyData)), xs = [.ref a] ∧ SqL K H a (refsD ts) ∧ (∀ t ∈ ts, Dp K H (.ref t.1) t.2) ∧ PySem.W.AllAlike (ts.map (·.2)) ∧ (∀ t ∈ ts, ∃ x r, t.2 = .tuple (x :: r)) ∧ (∀ t ∈ ts, t.2.depth ≤ 16) ∧ ts.length ≤ 1000 ∧
  ∀ p, H p = none → Q (.ref p) (upd H p (.lst (refsD (ts.mergeSort datLe))))
theorem each_refsD : ∀ {ts : List (Addr × PyData)} {its : List Value}, Vals (refsD ts) its → PySem.W.EachIs (fun v (t : Addr × PyData) => v = Value.ref t.1) its ts
  | [], _, .nil => .nil
  | t :: ts, _, .cons r rs => by
    cases r
    exact .cons rfl (each_refsD rs)
theorem vals_eachD : ∀ {ts : List (Addr × PyData)} {its : List Value}, PySem.W.EachIs (fun v (t : Addr × PyData) => v = Value.ref t.1) its ts → Vals (refsD ts) its
  | _, _, .nil => .nil
  | _, _, .cons r rs => .cons r (vals_eachD rs)
theorem c_sortDat (hu : X.A.units + 64 < cLine) : CallR X (.builtin "sorted") (rSortDat X.K) := by
  intro pins s σ H xs us Q I r q
  obtain ⟨a, ts, rfl, hl, hd, hal, htp, hdp, hz, q⟩ := q
  obtain rfl := Vals.ref1 r
  obtain ⟨its, rv, pl, hz'⟩ := I.list hl
  have e := each_refsD rv
  have hline : (1000 : Nat) ≤ sizeLine := by decide
  have er : PySem.W.EachIs (fun v (b : Addr × PyData) => ∃ as, Reads s.heap v b.2 as) its ts := (PySem.W.each_mem e).mono fun v b ⟨h1, h2⟩ => by
    subst h1
    exact Dp.reads I b.2 (.ref b.1) _ (hd b h2) rfl
  refine PySem.W.sorted_data (enc := fun t : Addr × PyData => t.2) pl.isList e er hal (.inl fun d hd => ?_) (Nat.le_trans hz hline) (fun b hb => ?_) fun out ho eo => ?_
  · obtain ⟨t, ht, rfl⟩ := List.mem_map.mp hd
    exact htp t ht
  · have := hdp b hb
    show X.A.units + 2 + b.2.depth < cLine
    omega
  · have hv := vals_eachD eo
    obtain ⟨ep, hat⟩ := PyProof.Rows.sortedAll_at s.heap its out.toArray
    refine ⟨.ref _, upd H (s.heap.objs.size + 1) (.lst (refsD (ts.mergeSort datLe))), I.laid (t' := s.toks) (fun _ _ => PyProof.Rows.sortedAll_old) (Nat.le_succ _) ⟨?_, _, ep, hv, hat⟩, rfl, q _ (I.hok.fresh (Nat.le_succ _))⟩
    unfold refsD
    rw [List.length_map, List.length_mergeSort]
    exact Nat.le_trans hz hline
end
/-- the data in order hang on the data alone -/
theorem sort_dat (ts : List (Addr × PyData)) : (ts.mergeSort datLe).map (·.2) = (ts.map (·.2)).mergeSort (PySem.W.dataLe false id) := List.map_mergeSort fun a _ b _ => rfl
/-! a generator def of the program, and list(f(e)) -/
def Gok (P : Program) (w : World) (K : PySem.W.Frag) (mg : Str → Option Value) (base : Heap) (k : Nat) (x : Str) (ps : List Str) (sp : SpG) : Prop :=
  ∃ f fd, mg x = some (.ref f) ∧ PySem.W.keepIn K (.ref f) = true ∧ Binds K fd ps [] ∧ GFn P w K mg base k f fd ps sp
/-- what leaves it: one of these classes, and the rest -/
def Of (Cs : List Addr) (E : XK) : XK := fun c d H => (∃ C ∈ Cs, c = .ref C) ∧ E c d H
theorem pass_of {X : Cx} {Cs : List Addr} {E : XK} (h : Passes (CX X.prog X.w) X E) : Passes (CX X.prog X.w) X (Of Cs E) := fun pins σ H s e s' I z => by
  obtain ⟨a, B, H', cls, d, rfl, z1, z2, z3, z4, z5, z6, z7⟩ := z
  exact h pins σ H s _ s' I ⟨a, B, H', cls, d, rfl, z1, z2, z3, z4, z5, z6, z7.2⟩
theorem noStop_of {K : PySem.W.Frag} {Cs : List Addr} {E : XK} (h : ∀ C ∈ Cs, PySem.W.subIn K (.ref C) (.type "StopIteration") = some false) : NoStop K (Of Cs E) := fun cls d H z => by
  obtain ⟨⟨C, hC, rfl⟩, _⟩ := z
  exact h C hC
section
variable {X : Cx} {k : Nat} {x : Str} {ps : List Str} {sp : SpG} {p p2 pos pos2 : Pos} {e : Expr} {es : List Expr} {t : TA} {W : WX}
theorem pe_lg (D : Gok X.prog X.w X.K X.mg X.base k x ps sp) (hr : Room (k + 3) X.A) (ha : PA X (e :: es) t) (ml : X.mg "list" = none) (hg : Gl X x := by rfl) (hgl : Gl X "list" := by rfl) (hdb : (x == ("__debug__" : Str)) = false := by decide) (he : starEach (e :: es) X.env = (false, eval e X.env) :: starEach es X.env := by rfl)
    (hpl : (backTo pos2 (starEach es X.env)).any (·.1) = false := by rfl) (he2 : starEach [.Call (.Name x p2) (e :: es) [] pos2] X.env = (false, eval (.Call (.Name x p2) (e :: es) [] pos2) X.env) :: starEach [] X.env := by rfl) :
    PE X (.Call (.Name "list" p) [.Call (.Name x p2) (e :: es) [] pos2] [] pos) (tListG (tCallG sp [] E0 t)) := by
  obtain ⟨f, fd, hm, kp, b, F⟩ := D
  exact pe_listG (pgen_call F (hr.mono (by omega)) hg hm kp b .nil ha hdb he hpl) passL (fun cls d H z => z.elim) hr hgl ml (by decide +kernel) (by decide) (by decide) he2
theorem pe_lgT (D : Gok X.prog X.w X.K X.mg X.base k x ps sp) (hr : Room (k + 3) X.A) (n : Nat) (tk : Takes X W) (Cs : List Addr) (hs : ∀ C ∈ Cs, PySem.W.subIn X.K (.ref C) (.type "StopIteration") = some false) (ha : PA X (e :: es) t) (ml : X.mg "list" = none) (hg : Gl X x := by rfl) (hgl : Gl X "list" := by rfl) (hdb : (x == ("__debug__" : Str)) = false := by decide) (he : starEach (e :: es) X.env = (false, eval e X.env) :: starEach es X.env := by rfl)
    (hpl : (backTo pos2 (starEach es X.env)).any (·.1) = false := by rfl) (he2 : starEach [.Call (.Name x p2) (e :: es) [] pos2] X.env = (false, eval (.Call (.Name x p2) (e :: es) [] pos2) X.env) :: starEach [] X.env := by rfl) (hn : X.N.length = n := by rfl) :
    PE X (.Call (.Name "list" p) [.Call (.Name x p2) (e :: es) [] pos2] [] pos) (tListG (tCallG sp [] (Of Cs (allW n W)) t)) := by
  subst hn
  obtain ⟨f, fd, hm, kp, b, F⟩ := D
  exact pe_listG (pgen_call F (hr.mono (by omega)) hg hm kp b .nil ha hdb he hpl) (pass_of (passAll tk)) (noStop_of hs) hr hgl ml (by decide +kernel) (by decide) (by decide) he2
theorem r_lg {tg : TGen} {σ : L2.St} {H : Hp} {Q : VK} (h : tg σ H fun out H2 => ∀ p, H2 p = none → Q (.ref p) (upd H2 p (.lst out))) : tListG tg σ H Q := h
theorem r_cg {sp : SpG} {dvs : List V} {E : XK} {t : TA} {σ : L2.St} {H : Hp} {c : List V → Hp → Prop} (h : t σ H fun vs H1 => sp (vs ++ dvs) H1 c E) : tCallG sp dvs E t σ H c := h
end
end Er
namespace Er
open PySem PySem.Spec PyProof.Rows L2
/-! sorted(t), t a tuple of ints -/
section
variable {prog : Program} {w : World} {A : Around} {s : Shared} {E : Value → Shared → Prop}
/-- what a tuple holds, gathered: one list more in the heap, the rest as it was -/
theorem gather {t : Addr} {vs : List Value} {Q : List Value → Shared → Prop} (ht : IsTup s.heap t vs.toArray) (hz : vs.length ≤ sizeLine)
    (fin : ∀ g : Heap, s.heap.objs.size ≤ g.objs.size → (∀ b o, s.heap.get? b = some o → g.get? b = some o) → Q vs { s with heap := g }) : wpAny (model prog w) A (collect (.ref t)) Q E s := by
  obtain ⟨o, ho, hc, n, hd⟩ := ht
  have own : (s.heap.push (seqObj "list" #[] 0)).get? s.heap.objs.size = some (seqObj "list" #[] 0) := Heap.get?_push_size _ rfl
  have kept : ∀ b o, s.heap.get? b = some o → ((s.heap.push (seqObj "list" #[] 0)).update s.heap.objs.size (Obj.mapSeq (· ++ vs.toArray))).get? b = some o := fun b o hb =>
    (Heap.get?_update_other _ _ (Nat.ne_of_gt (Heap.lt_size hb))).trans (Heap.get?_push_of_some _ hb)
  have more : s.heap.objs.size ≤ ((s.heap.push (seqObj "list" #[] 0)).update s.heap.objs.size (Obj.mapSeq (· ++ vs.toArray))).objs.size := by
    rw [Heap.size_update, size_push']
    exact Nat.le_succ _
  have last : ∀ s' : Shared, s' = { s with heap := (s.heap.push (seqObj "list" #[] 0)).update s.heap.objs.size (Obj.mapSeq (· ++ vs.toArray)) } → wpAny (model prog w) A (do
        match (← load s.heap.objs.size).data with
        | Data.seq xs _ => pure xs.toList
        | _ => unsupported "internal:collect") Q E s' := fun s' e => by
    subst e
    refine wpAny_bind (wpAny_load (get?_update_seq own _) (wpAny_pure ?_))
    have e : ((#[] : Array Value) ++ vs.toArray).toList = vs := by simp
    show Q ((#[] : Array Value) ++ vs.toArray).toList _
    rw [e]
    exact fin _ more kept
  unfold collect
  apply wpAny_bind
  apply wpAny_runValue
  apply codeAny_builtin entry_proto_collect'
  apply wpAny_bind
  refine wpAny_newList ?_
  refine wpAny_pure ⟨Code.quiet_builtin _ (by decide +kernel), codeAny_builtin entry_list_iadd' ?_⟩
  refine wpAny_mono (wpAny_extend_seq (A := A) (R := fun r s' => r = .ok (.ret (.ref s.heap.objs.size)) ∧ s' = { s with heap := (s.heap.push (seqObj "list" #[] 0)).update s.heap.objs.size (Obj.mapSeq (· ++ vs.toArray)) }) _ t _ 0 (.inr rfl) own (Heap.get?_push_of_some _ ho) hc hd ⟨rfl, rfl⟩ (by simpa using hz)) (fun r s' h => ?_) fun x s' h => absurd h.1 (by simp)
  cases r with
  | done f =>
    obtain ⟨e, e'⟩ := h
    cases e
    exact last s' e'
  | again c =>
    refine ⟨h.1, codeAny_mono h.2 fun r s2 z => ?_⟩
    obtain ⟨e, e'⟩ := z
    subst e
    exact last s2 e'
theorem sorted_tup {t : Addr} {vs : List Value} {ns : List Int} {Q : Value → Shared → Prop} (ht : IsTup s.heap t vs.toArray) (hI : IntsAre vs ns) (h64 : vs.length < 64)
    (fin : ∀ (g : Heap) (a : Addr) (out : Array Value) (ep : Nat) (ns' : List Int), s.heap.objs.size ≤ a → (∀ b o, s.heap.get? b = some o → g.get? b = some o) → g.get? a = some (seqObj "list" out ep) → IntsAre out.toList ns' → ns'.Perm ns → ns'.Pairwise (· ≤ ·) → Q (.ref a) { s with heap := g }) :
    wpAny (model prog w) A (call (.builtin "sorted") [.ref t]) Q E s := by
  have hz : vs.length ≤ sizeLine := Nat.le_trans (Nat.le_of_lt h64) (by decide)
  apply Calls.call_function_entry kind_sorted plain_sorted entry_sorted (args_sorted1 _)
  unfold Builtin.«sorted»
  apply wpAny_bind (m := checkCount "sorted" 1 1 _)
  refine wpAny_pure (wpAny_bind (gather ht hz fun g hg hk => wpAny_bind (wpAny_newList ?_ hz)))
  have own : (g.push (seqObj "list" vs.toArray 0)).get? g.objs.size = some (seqObj "list" vs.toArray 0) := Heap.get?_push_size _ rfl
  refine wpAny_bind (wpAny_holding (wpAny_call_entry slot_list_sort ⟨_, own, rfl⟩ entry_list_sort (list_sort_tree own hI h64 fun out ns' a1 a2 a3 => ⟨_, rfl, wpAny_pure ⟨_, rfl, ?_⟩⟩) (args_list_sort _)))
  obtain ⟨ep, e⟩ := sortedHeap_at (out := out) own
  refine fin _ _ out ep ns' hg (fun b o hb => ?_) e a1 a2 a3
  have lt : b < g.objs.size := Heap.lt_size (hk b o hb)
  rw [sortedHeap_old (Nat.ne_of_lt lt) (by rw [size_push']; exact Nat.lt_succ_of_lt lt)]
  exact Heap.get?_push_of_some _ (hk b o hb)
end
def rSortedA (K : PySem.W.Frag) : List V → Hp → VK → Prop := fun vs H Q => ∃ (a : Addr) (ns : List Int), vs = [V.ref a] ∧ SqX K H a (ns.map V.int) ∧ ns.length < 64 ∧
  ∀ (ns' : List Int) (p : Addr), ns'.Perm ns → ns'.Pairwise (· ≤ ·) → H p = none → Q (.ref p) (upd H p (.lst (ns'.map V.int)))
theorem c_sortA {X : Cx} : CallR X (.builtin "sorted") (rSortedA X.K) := by
  intro pins s σ H vs us Q I r h
  obtain ⟨a, ns, rfl, hs | hs, h64, q⟩ := h
  · exact cr_sorted pins s σ H _ us Q I r ⟨a, ns, rfl, hs, h64, q⟩
  obtain ⟨its, rv, hl, _⟩ := I.tuple hs
  rw [Vals.ref1 r]
  refine sorted_tup hl rv.ints (by rw [rv.ints.length]; exact h64) fun g p out ep ns' hp hk e h1 h2 h3 => ?_
  have hlen : (ns'.map V.int).length ≤ sizeLine := by rw [List.length_map, h2.length_eq]; exact small64 h64
  exact ⟨.ref p, upd H p (.lst (ns'.map V.int)), I.laid (t' := s.toks) hk hp ⟨hlen, out.toList, ep, vals_of_ints h1, e⟩, rfl, q ns' p h2 h3 (I.hok.fresh hp)⟩
theorem sortA {X : Cx} (K : PySem.W.Frag) (e : X.K = K := by rfl) : CallR X (.builtin "sorted") (rSortedA K) := by subst e; exact c_sortA
theorem r_sortedA {K : PySem.W.Frag} {H : Hp} {Q : VK} {a : Addr} {ks ss : List Int} (h : SqX K H a (ks.map V.int)) (l : ks.length < 64) (p : ss.Perm ks) (o : ss.Pairwise (· ≤ ·)) (q : ∀ p, H p = none → Q (.ref p) (upd H p (.lst (ss.map V.int)))) : rSortedA K [.ref a] H Q :=
  ⟨a, ks, rfl, h, l, fun ys p' h1 h2 => by
    rw [sort_one_int (h1.trans p.symm) h2 o]
    exact q p'⟩
end Er
/-! enumerate(t), t a tuple -/
namespace Er
open PySem PySem.Spec PyProof.Rows L2
/-- the tuple at a: each item in a new pair behind its place -/
def IteT (K : PySem.W.Frag) (a : Addr) : It where
  go := fun i H => ∃ (ys : List V) (y : V), SqT K H a ys ∧ ys[i]? = some y
  yld := fun i H v H' => ∃ T y, v = .ref T ∧ H T = none ∧ H' = upd H T (.tup [.int (i : Nat), y]) ∧ ∀ ys, SqT K H a ys → ys[i]? = some y
  stop := fun i H => ∃ ys : List V, SqT K H a ys ∧ ys.length = i
/-- the two cells of enumerate(t) -/
abbrev enmO (it : Addr) : Obj := { cls := .type "enumerate", data := .fields #[.none, .bool false, .ref it, rawInt 0, .none, .none] }
abbrev titO (t : Addr) : Obj := { cls := .type "tuple_iterator", data := .fields #[.ref t, .int 0 0] }
set_option maxHeartbeats 1000000 in
theorem meets_enumT (t : Addr) (ws : Array Value) :
    Meets (Builtin.«enumerate.__new__» ⟨[.type "enumerate", .ref t], []⟩) (fun _ R z => z.heap.IsTuple t ws ∧ R (.ok (.ret (.ref (z.heap.push (titO t)).objs.size))) { z with heap := (z.heap.push (titO t)).push (enmO z.heap.objs.size) }) :=
  .of_wp fun P W B R z zz => by
    obtain ⟨hp, gg, dd, tt, oo⟩ := z
    obtain ⟨ht, hz⟩ := zz
    have hsub := sub_enumerate
    have q1 : ∀ {B' : Around} {E : Value → Shared → Prop} {Q : Value → Shared → Prop}, Q (.ref hp.objs.size) ⟨hp.push (titO t), gg, dd, tt, oo⟩ → wpAny (model P W) B' (pyIter (.ref t)) Q E ⟨hp, gg, dd, tt, oo⟩ := fun q => wpAny_pyIter_tuple ht q
    wp_walk using q1
    refine wpAny_stack_any fun st => wpAny_pure ?_
    split
    · rename_i cl _ _ _ _ _
      cases (cl == Value.type "enumerate") <;> (wp_walk using q1; exact ⟨_, rfl, hz⟩)
    · wp_walk using q1
      exact ⟨_, rfl, hz⟩
theorem call_enumT {P : Program} {W : World} {B : Around} {E : Value → Shared → Prop} {z : Shared} {t : Addr} {ws : Array Value} {Q : Value → Shared → Prop} (ht : z.heap.IsTuple t ws)
    (q : ∀ h', IsEnum h' (z.heap.objs.size + 1) z.heap.objs.size 0 .none → h'.IsTupleIter z.heap.objs.size t 0 → (∀ b o, z.heap.get? b = some o → h'.get? b = some o) → Q (.ref (z.heap.objs.size + 1)) { z with heap := h' }) :
    wpAny (model P W) B (call (.type "enumerate") [.ref t]) Q E z := by
  refine callType_new F.called_enumerate (by decide) (F.typeCall_enumerate_1 _) (F.newCall_enumerate_1 _) (fun ob => F.args_object_init_2 ob _) F.entry_enumerate_new (meets_enumT t ws) ⟨ht, ?_⟩
  have n1 : (z.heap.push (titO t)).objs.size = z.heap.objs.size + 1 := Heap.size_push ..
  show _ ∧ _
  rw [n1]
  have e2 : ((z.heap.push (titO t)).push (enmO z.heap.objs.size)).get? (z.heap.objs.size + 1) = some (enmO z.heap.objs.size) := by
    have w := Heap.get?_push_size (z.heap.push (titO t)) (o := enmO z.heap.objs.size) rfl
    rw [n1] at w
    exact w
  exact ⟨⟨_, e2, rfl⟩, q _ e2 ⟨_, Heap.get?_push_of_some _ (Heap.get?_push_size _ rfl), rfl, rfl⟩ fun b o y => Heap.get?_push_of_some _ (Heap.get?_push_of_some _ y)⟩
theorem turn_enumT {P : Program} {w : World} {K : PySem.W.Frag} {els : List Expr} {kk : Nat} {tp : Pos} (a e it : Addr) (nt : a ≠ it) (ne : e ≠ it) (na : e ≠ a) :
    Turn P w K (.Tuple els kk tp) (IteT K a) [e, it] e (fun i h => (∃ old, IsEnum h e it ((i : Nat) : Int) old) ∧ h.IsTupleIter it a i) where
  mem := List.mem_cons_self ..
  obj := fun i h st b hb => by
    obtain ⟨⟨old, he⟩, o, ho, hc, hd⟩ := st
    rcases List.mem_cons.mp hb with rfl | hb
    · exact ⟨_, he, fun v q => nomatch q⟩
    · rw [List.mem_singleton.mp hb]
      exact ⟨o, ho, fun v q => by rw [hd] at q; cases q⟩
  keep := fun i h h' st kp => ⟨st.1.elim fun old he => ⟨old, kp e (by simp) _ he⟩, st.2.at fun o q => kp it (by simp) o q⟩
  item := by
    intro X hP hw hK hc i pins s σ H E I hf st hg
    subst hP hw hK
    obtain ⟨⟨old, he⟩, hit⟩ := st
    obtain ⟨ys, y, hq, hx⟩ := hg
    obtain ⟨ws, rv, pt, hz⟩ := I.tuple hq
    have pT : s.heap.IsTuple a ws.toArray := pt
    obtain ⟨u, hu, ru⟩ := rv.get hx
    have hel : e < s.heap.objs.size := Heap.lt_size he
    have hil : it < s.heap.objs.size := by obtain ⟨_, q, _⟩ := id hit; exact Heap.lt_size q
    have hlt : i < ws.toArray.size := by
      have := (List.getElem?_eq_some_iff.mp hu).1
      simpa using this
    refine wpAny_pyNext_enum_itemC (Draws.tuple (A := X.A.in1) (show X.A.in1.handled = none from I.ok.hd hc) it a nt ws.toArray) he ⟨hit, pT⟩ hlt ne (fun z => ?_) fun x h' tk px ho st' hT hsz hk => ?_
    · rcases List.mem_cons.mp z with z | z
      · exact ne z
      · exact na (List.mem_singleton.mp z)
    have ex : x = u := by
      have px : ws.toArray[i]? = some x := px
      rw [List.getElem?_toArray, hu] at px
      exact (Option.some.inj px).symm
    subst ex
    refine ⟨_, rfl, wpAny_letOwnedTupleGo_enum (s := { s with heap := h', toks := tk + 1 }) ho fun h'' he' sb => ?_⟩
    have hT2 : h''.get? s.heap.objs.size = some { cls := .type "tuple", data := .seq #[.int i tk, x] } := (sb.2 _ (Nat.ne_of_gt hel)).trans hT
    have nw : ObjOk X.prog X.w (upd H s.heap.objs.size (.tup [.int (i : Nat), y])) h'' s.heap.objs.size (.tup [.int (i : Nat), y]) := ⟨show 2 ≤ sizeLine by decide, [.int i tk, x], .cons ⟨_, rfl⟩ (.cons ru .nil), ⟨_, hT2, rfl, _, rfl⟩⟩
    have J : Inv X pins σ (upd H s.heap.objs.size (.tup [.int (i : Nat), y])) { s with heap := h'', toks := tk + 1 } := by
      refine I.turnedNew (ch := [e, it]) (fun b ob hb q => ?_) hf (Nat.le_refl _) nw
      have b1 : b ≠ e := fun z => hb (by simp [z])
      have b2 : b ≠ it := fun z => hb (by simp [z])
      exact (sb.2 b b1).trans (hk b ob b1 b2 q)
    refine ⟨.ref s.heap.objs.size, _, J, rfl, ⟨_, y, rfl, I.hok.fresh (Nat.le_refl _), rfl, fun zs hy => by rw [I.tuple_inj hy hq]; exact hx⟩, ⟨⟨x, ?_⟩, st'.1.at fun o q => (sb.2 it (Ne.symm ne)).trans q⟩, fun b hb => ?_⟩
    · have e1 : ((i + 1 : Nat) : Int) = (i : Int) + 1 := Int.natCast_succ i
      rw [e1]
      exact he'
    · have hb' : b < s.heap.objs.size := by
        rcases List.mem_cons.mp hb with rfl | hb
        · exact hel
        · rw [List.mem_singleton.mp hb]
          exact hil
      rw [upd_ne (Nat.ne_of_lt hb')]
      refine (hf b ?_).1
      exact hb
  done := by
    intro X hP hw hK hc i pins s σ H E I hf st hg
    subst hP hw hK
    obtain ⟨⟨old, he⟩, hit⟩ := st
    obtain ⟨ys, hq, hx⟩ := hg
    obtain ⟨ws, rv, pt, hz⟩ := I.tuple hq
    have pT : s.heap.IsTuple a ws.toArray := pt
    obtain ⟨f0, f1, f2, f3, f4, f5⟩ := hf it (by simp)
    have hl : ys.length = ws.toArray.size := by simpa using rv.length
    refine wpAny_pyNext_enum_endD (Draws.tuple (A := X.A.in1) (show X.A.in1.handled = none from I.ok.hd hc) it a nt ws.toArray) he ⟨?_, pT⟩ fun h' eb => ⟨rfl, I.turned (t' := s.toks) (fun b o hb q => eb b o hb q) f0 f1 f3 f4 f5⟩
    rw [← hl, hx]
    exact hit
  self := fun B i z Q E st h => st.1.elim fun old he => wpAny_pyIter_enum he h
end Er
/-! for i, x in enumerate(t), t a tuple: the rule and its reading -/
namespace Er
open PySem PySem.Spec PyProof.Rows L2
def iEnumT (K : PySem.W.Frag) (ta : TA) : TI := fun σ H R => ta σ H fun vs H1 => ∃ a ys, vs = [.ref a] ∧ SqT K H1 a ys ∧ R (IteT K a) H1
theorem pi_enumT {X : Cx} {e : Expr} {ta : TA} {p pos tp : Pos} {els : List Expr} {kk : Nat} (hg : Gl X "enumerate") (hm : X.mg "enumerate" = none) (ha : PA X [e] ta) (hs : starEach [e] X.env = [(false, eval e X.env)] := by rfl) :
    PI X (.Tuple els kk tp) (.Call (.Name "enumerate" p) [e] [] pos) (iEnumT X.K ta) := by
  refine ⟨fun pins z σ H R I h => ?_⟩
  refine Call_ (ld_blt I hg hm boot_enumerate (PyProof.Rows.callWith_type1 (thn (ha.run pos pins z σ H _ I h) fun us z1 ⟨vs, H1, I1, r1, q1⟩ => ?_) hs rfl))
  obtain ⟨a, ys, ex, hq, q⟩ := q1
  subst ex
  cases r1 with
  | cons r rr =>
    cases rr
    cases r
    obtain ⟨ws, rv, pt, hz⟩ := I1.tuple hq
    have pT : z1.heap.IsTuple a ws.toArray := pt
    have la : a < z1.heap.objs.size := by
      obtain ⟨_, w, _⟩ := id pT
      exact Heap.lt_size w
    refine call_enumT pT fun h' he hit kp => wpAny_pyIter_enum he ?_
    have I2 : Inv X pins σ H1 { z1 with heap := h' } := I1.kept (t' := z1.toks) kp
    refine ⟨z1.heap.objs.size + 1, [z1.heap.objs.size + 1, z1.heap.objs.size], _, _, H1, rfl, I2, turn_enumT a (z1.heap.objs.size + 1) z1.heap.objs.size (Nat.ne_of_lt la) (Nat.succ_ne_self _) (Nat.ne_of_gt (Nat.lt_succ_of_lt la)), ⟨⟨.none, he⟩, hit⟩, fun b hb => ?_, q⟩
    have hle : z1.heap.objs.size ≤ b := by
      rcases List.mem_cons.mp hb with w | hb
      · rw [w]; exact Nat.le_succ _
      · rw [List.mem_singleton.mp hb]; exact Nat.le_refl _
    exact I1.fpOk hle (I1.hok.fresh hle)
section
variable {K : PySem.W.Frag} {σ : L2.St} {H : Hp} {t : TS} {D : Ends} {g : TG} {a : Addr} {ys : List V}
theorem walk_enumT : Walk (IteT K a) ys.length (fun H => SqT K H a ys) (YPair (fun i => some (.int (i : Nat))) (fun i => ys[i]?)) :=
  ⟨fun i _ hi q => ⟨ys, ys[i], q, List.getElem?_eq_getElem hi⟩, fun _ q => ⟨ys, q, rfl⟩, fun i H v H' _ q y => by
    obtain ⟨T, x, h1, h2, h3, h4⟩ := y
    exact ⟨T, .int (i : Nat), x, h1, h2, h3, rfl, h4 ys q⟩⟩
def enumK (K : PySem.W.Frag) (vs : List V) (H1 : Hp) (R : It → Hp → Prop) : Prop := ∃ a ys, vs = [.ref a] ∧ SqT K H1 a ys ∧ R (IteT K a) H1
theorem r_enumT {ts : TA} {R : It → Hp → Prop} (h : ts σ H fun vs H1 => enumK K vs H1 R) : iEnumT K ts σ H R := h
theorem r_enumK {R : It → Hp → Prop} (h : SqT K H a ys) (q : R (IteT K a) H) : enumK K [.ref a] H R := ⟨a, ys, rfl, h, q⟩
/-- for i, x in enumerate(t) : at each turn the pair is unpacked -/
theorem r_forE (Pv : Nat → L2.St → Hp → Prop) (h0 : Pv 0 σ H) (hl : ∀ i σ H, i ≤ ys.length → Pv i σ H → SqT K H a ys)
    (hs : ∀ i x σ' H' T, ys[i]? = some x → Pv i σ' H' → H' T = none → g (.ref T) σ' (upd H' T (.tup [.int (i : Nat), x])) fun σ2 H2 => t { D with nx := Pv (i + 1), ct := Pv (i + 1), bk := D.nx } σ2 H2) (hd : ∀ σ' H', Pv ys.length σ' H' → D.nx σ' H') : forK g t D σ (IteT K a) H :=
  for_it walk_enumT Pv h0 hl (fun i x σ' H1 H2 hi p y => by
    obtain ⟨T, u, v, rfl, hT, rfl, e1, e2⟩ := y
    cases e1
    exact hs i v σ' H1 T e2 p hT) hd
end
end Er
/-! powers of 2, 3 and 5: plain mathematics, no Python -/
namespace KG
def W (f : Nat → Nat) : Nat := 2 ^ f 0 * 3 ^ f 1 * 5 ^ f 2
abbrev Pw := Option (Nat → Nat)
def pw : Pw → Nat → Nat
  | none, _ => 99
  | some f, k => f k
def worth : Pw → Nat
  | none => 0
  | some f => W f
def A3 (p : Nat → Prop) : Prop := p 0 ∧ p 1 ∧ p 2
theorem W_pos (f : Nat → Nat) : 0 < W f := by
  unfold W
  exact Nat.mul_pos (Nat.mul_pos (Nat.pow_pos (by decide)) (Nat.pow_pos (by decide))) (Nat.pow_pos (by decide))
theorem W_mul (f g : Nat → Nat) : W f * W g = W fun i => f i + g i := by
  unfold W
  rw [Nat.pow_add, Nat.pow_add, Nat.pow_add]
  generalize 2 ^ f 0 = a, 2 ^ g 0 = b, 3 ^ f 1 = c, 3 ^ g 1 = d, 5 ^ f 2 = e, 5 ^ g 2 = h
  simp only [Nat.mul_assoc, Nat.mul_left_comm, Nat.mul_comm]
theorem W_congr {f g : Nat → Nat} (h : A3 fun i => f i = g i) : W f = W g := by
  unfold W
  rw [h.1, h.2.1, h.2.2]
theorem cop23 (a b : Nat) : Nat.Coprime (2 ^ a) (3 ^ b) := Nat.Coprime.pow a b (by decide)
theorem cop25 (a b : Nat) : Nat.Coprime (2 ^ a) (5 ^ b) := Nat.Coprime.pow a b (by decide)
theorem cop35 (a b : Nat) : Nat.Coprime (3 ^ a) (5 ^ b) := Nat.Coprime.pow a b (by decide)
theorem pow_gcd0 {p a b : Nat} (h : a = 0 ∨ b = 0) : Nat.gcd (p ^ a) (p ^ b) = 1 := by
  rcases h with rfl | rfl
  · rw [Nat.pow_zero, Nat.gcd_one_left]
  · rw [Nat.pow_zero, Nat.gcd_one_right]
theorem cop_of_disj {f g : Nat → Nat} (h : A3 fun i => f i = 0 ∨ g i = 0) : Nat.Coprime (W f) (W g) := by
  unfold W
  have a : Nat.Coprime (2 ^ f 0) (2 ^ g 0) := pow_gcd0 h.1
  have b : Nat.Coprime (3 ^ f 1) (3 ^ g 1) := pow_gcd0 h.2.1
  have c : Nat.Coprime (5 ^ f 2) (5 ^ g 2) := pow_gcd0 h.2.2
  refine Nat.Coprime.mul_left (Nat.Coprime.mul_left ?_ ?_) ?_
  · exact Nat.Coprime.mul_right (Nat.Coprime.mul_right a (cop23 _ _)) (cop25 _ _)
  · exact Nat.Coprime.mul_right (Nat.Coprime.mul_right (cop23 _ _).symm b) (cop35 _ _)
  · exact Nat.Coprime.mul_right (Nat.Coprime.mul_right (cop25 _ _).symm (cop35 _ _).symm) c
theorem W_gcd (f g : Nat → Nat) : Nat.gcd (W f) (W g) = W fun i => min (f i) (g i) := by
  have e1 : W f = (W fun i => min (f i) (g i)) * W fun i => f i - g i := by
    rw [W_mul]
    exact W_congr ⟨by omega, by omega, by omega⟩
  have e2 : W g = (W fun i => min (f i) (g i)) * W fun i => g i - f i := by
    rw [W_mul]
    exact W_congr ⟨by omega, by omega, by omega⟩
  have c : Nat.gcd (W fun i => f i - g i) (W fun i => g i - f i) = 1 := cop_of_disj ⟨by omega, by omega, by omega⟩
  rw [e1, e2, Nat.gcd_mul_left, c, Nat.mul_one]
theorem W_div {f g : Nat → Nat} (h : A3 fun i => g i ≤ f i) : W f / W g = W fun i => f i - g i := by
  obtain ⟨h0, h1, h2⟩ := h
  have e1 : W f = W g * W fun i => f i - g i := by
    rw [W_mul]
    exact W_congr ⟨by omega, by omega, by omega⟩
  rw [e1, Nat.mul_div_cancel_left _ (W_pos g)]
theorem cop_dvd_pow {p m n : Nat} (hp : 1 < p) (h : Nat.Coprime (p ^ m) n) (d : p ^ m ∣ n) : m = 0 := by
  have e := Nat.eq_one_of_dvd_one (h ▸ Nat.dvd_gcd (Nat.dvd_refl (p ^ m)) d : p ^ m ∣ 1)
  rcases Nat.eq_zero_or_pos m with z | z
  · exact z
  · have := Nat.one_lt_pow (Nat.ne_of_gt z) hp
    omega
theorem W_dvd {f g : Nat → Nat} : W f ∣ W g ↔ A3 fun i => f i ≤ g i := by
  constructor
  · intro h
    have e : Nat.gcd (W f) (W g) = W f := Nat.gcd_eq_left h
    rw [W_gcd] at e
    -- two powers of 2, 3, 5 with one number have the same powers
    have h2 : 2 ^ f 0 ∣ 2 ^ g 0 := by
      have d : 2 ^ f 0 ∣ W g := Nat.dvd_trans ⟨3 ^ f 1 * 5 ^ f 2, by unfold W; rw [Nat.mul_assoc]⟩ h
      unfold W at d
      have d1 := Nat.Coprime.dvd_of_dvd_mul_right (cop25 (f 0) (g 2)) d
      exact Nat.Coprime.dvd_of_dvd_mul_right (cop23 (f 0) (g 1)) d1
    have h3 : 3 ^ f 1 ∣ 3 ^ g 1 := by
      have d : 3 ^ f 1 ∣ W g := Nat.dvd_trans ⟨2 ^ f 0 * 5 ^ f 2, by unfold W; rw [Nat.mul_comm (2 ^ f 0), Nat.mul_assoc]⟩ h
      unfold W at d
      have d1 := Nat.Coprime.dvd_of_dvd_mul_right (cop35 (f 1) (g 2)) d
      exact Nat.Coprime.dvd_of_dvd_mul_left (cop23 (g 0) (f 1)).symm d1
    have h5 : 5 ^ f 2 ∣ 5 ^ g 2 := by
      have d : 5 ^ f 2 ∣ W g := Nat.dvd_trans ⟨2 ^ f 0 * 3 ^ f 1, by unfold W; rw [Nat.mul_comm]⟩ h
      unfold W at d
      have cc : Nat.Coprime (5 ^ f 2) (2 ^ g 0 * 3 ^ g 1) := Nat.Coprime.mul_right (cop25 _ _).symm (cop35 _ _).symm
      exact Nat.Coprime.dvd_of_dvd_mul_left cc d
    exact ⟨(Nat.pow_dvd_pow_iff_le_right (by decide)).mp h2, (Nat.pow_dvd_pow_iff_le_right (by decide)).mp h3, (Nat.pow_dvd_pow_iff_le_right (by decide)).mp h5⟩
  · intro ⟨a, b, c⟩
    refine ⟨W fun i => g i - f i, ?_⟩
    rw [W_mul]
    exact W_congr ⟨by omega, by omega, by omega⟩

/-- number // gcd(number, other), 1 for two zeros -/
def dv (n o : Nat) : Nat := if n = 0 ∧ o = 0 then 1 else n / Nat.gcd n o
/-- what the program tells -/
def gives (k s l t : Nat) : Bool := decide (Nat.gcd (s * dv l k) l ∣ t)
/-- what the powers tell -/
def GO (K S L T : Pw) : Prop :=
  match L with
  | none => (K ≠ none → T = none) ∧ (K = none → (A3 fun i => pw S i ≤ pw T i) ∧ (S ≠ none ∨ T = none))
  | some l => A3 fun i => min (pw S i + (l i - pw K i)) (l i) ≤ pw T i
def Bd (b : Nat) (o : Pw) : Prop := ∀ f, o = some f → A3 fun i => f i ≤ b
theorem worth_zero {o : Pw} : worth o = 0 ↔ o = none := by
  cases o with
  | none => exact ⟨fun _ => rfl, fun _ => rfl⟩
  | some f => exact ⟨fun h => absurd h (Nat.ne_of_gt (W_pos f)), fun h => by cases h⟩
theorem dv_W (l : Nat → Nat) (K : Pw) (hl : A3 fun i => l i ≤ 12) : dv (W l) (worth K) = W fun i => l i - pw K i := by
  unfold dv
  rw [if_neg (fun h => absurd h.1 (Nat.ne_of_gt (W_pos l)))]
  obtain ⟨l0, l1, l2⟩ := hl
  cases K with
  | none =>
    show W l / Nat.gcd (W l) 0 = _
    rw [Nat.gcd_zero_right, Nat.div_self (W_pos l)]
    have : W (fun i => l i - pw none i) = W fun _ => 0 := W_congr ⟨by show l 0 - 99 = 0; omega, by show l 1 - 99 = 0; omega, by show l 2 - 99 = 0; omega⟩
    rw [this]
    rfl
  | some k =>
    show W l / Nat.gcd (W l) (W k) = _
    rw [W_gcd, W_div ⟨by omega, by omega, by omega⟩]
    exact W_congr ⟨by show l 0 - min (l 0) (k 0) = l 0 - k 0; omega, by show l 1 - min (l 1) (k 1) = l 1 - k 1; omega, by show l 2 - min (l 2) (k 2) = l 2 - k 2; omega⟩
theorem W_dvd_worth {f : Nat → Nat} (hf : A3 fun i => f i ≤ 99) (T : Pw) : W f ∣ worth T ↔ A3 fun i => f i ≤ pw T i := by
  cases T with
  | none => exact ⟨fun _ => hf, fun _ => Nat.dvd_zero _⟩
  | some t => exact W_dvd
theorem gives_GO {K S L T : Pw} (hS : Bd 12 S) (hL : Bd 12 L) (hT : Bd 12 T) : gives (worth K) (worth S) (worth L) (worth T) = true ↔ GO K S L T := by
  unfold gives
  rw [decide_eq_true_iff]
  cases L with
  | none =>
    show Nat.gcd (worth S * dv 0 (worth K)) 0 ∣ worth T ↔ _
    rw [Nat.gcd_zero_right]
    cases K with
    | none =>
      have e : dv 0 (worth none) = 1 := rfl
      rw [e, Nat.mul_one]
      refine Iff.trans ?_ (show (A3 fun i => pw S i ≤ pw T i) ∧ (S ≠ none ∨ T = none) ↔ GO none S none T from ⟨fun h => ⟨fun z => absurd rfl z, fun _ => h⟩, fun h => h.2 rfl⟩)
      cases S with
      | none =>
        show (0 : Nat) ∣ worth T ↔ _
        rw [Nat.zero_dvd, worth_zero]
        constructor
        · intro h
          subst h
          exact ⟨⟨Nat.le_refl _, Nat.le_refl _, Nat.le_refl _⟩, .inr rfl⟩
        · intro h
          exact h.2.resolve_left fun z => z rfl
      | some s =>
        obtain ⟨s0, s1, s2⟩ := hS s rfl
        refine (W_dvd_worth ⟨by omega, by omega, by omega⟩ T).trans ⟨fun h => ⟨h, .inl (by intro z; cases z)⟩, fun h => h.1⟩
    | some k =>
      have e : dv 0 (worth (some k)) = 0 := by
        unfold dv
        rw [if_neg (fun h => absurd h.2 (Nat.ne_of_gt (W_pos k))), Nat.zero_div]
      rw [e, Nat.mul_zero, Nat.zero_dvd, worth_zero]
      exact ⟨fun h => ⟨fun _ => h, fun z => by cases z⟩, fun h => h.1 (by intro z; cases z)⟩
  | some l =>
    have hl := hL l rfl
    obtain ⟨l0, l1, l2⟩ := id hl
    show Nat.gcd (worth S * dv (W l) (worth K)) (W l) ∣ worth T ↔ _
    rw [dv_W l K hl]
    have e : Nat.gcd (worth S * W fun i => l i - pw K i) (W l) = W fun i => min (pw S i + (l i - pw K i)) (l i) := by
      cases S with
      | none =>
        show Nat.gcd (0 * _) _ = _
        rw [Nat.zero_mul, Nat.gcd_zero_left]
        exact W_congr ⟨by show l 0 = min (99 + _) (l 0); omega, by show l 1 = min (99 + _) (l 1); omega, by show l 2 = min (99 + _) (l 2); omega⟩
      | some s =>
        show Nat.gcd (W s * _) _ = _
        rw [W_mul, W_gcd]
        rfl
    rw [e]
    exact W_dvd_worth ⟨by show min _ _ ≤ 99; omega, by show min _ _ ≤ 99; omega, by show min _ _ ≤ 99; omega⟩ T
/-- the common hours -/
def goal (h : Nat → Nat) (L : Pw) : Pw := some fun i => min (h i) (pw L i)
theorem shared_eq {h : Nat → Nat} (hh : A3 fun i => h i ≤ 12) (L : Pw) : Nat.gcd (worth L) (W h) = worth (goal h L) := by
  obtain ⟨h0, h1, h2⟩ := hh
  cases L with
  | none =>
    show Nat.gcd 0 (W h) = W (fun i => min (h i) (pw none i))
    rw [Nat.gcd_zero_left]
    exact W_congr ⟨by show h 0 = min (h 0) 99; omega, by show h 1 = min (h 1) 99; omega, by show h 2 = min (h 2) 99; omega⟩
  | some l =>
    show Nat.gcd (W l) (W h) = W (fun i => min (h i) (pw (some l) i))
    rw [W_gcd]
    exact W_congr ⟨Nat.min_comm _ _, Nat.min_comm _ _, Nat.min_comm _ _⟩
def HG (K S L T : Pw) : Prop := (A3 fun i => ∀ p, 1 ≤ p → p < 15 → min p (pw K i) ≤ pw S i → min p (pw L i) ≤ pw T i) ∧ (L = none → T ≠ none → K = none)
theorem bd_some {b : Nat} {f : Nat → Nat} (h : Bd b (some f)) : f 0 ≤ b ∧ f 1 ≤ b ∧ f 2 ≤ b := h f rfl
theorem go_goal {K S L T : Pw} (h : Nat → Nat) (hh : A3 fun i => h i ≤ 12) (g : GO K S L T) : GO K S (goal h L) T := by
  obtain ⟨h0, h1, h2⟩ := hh
  show A3 fun i => min (pw S i + (min (h i) (pw L i) - pw K i)) (min (h i) (pw L i)) ≤ pw T i
  cases L with
  | none =>
    cases K with
    | none =>
      obtain ⟨⟨a0, a1, a2⟩, _⟩ := g.2 rfl
      exact ⟨by show min (pw S 0 + (min (h 0) 99 - 99)) (min (h 0) 99) ≤ pw T 0; omega, by show min (pw S 1 + (min (h 1) 99 - 99)) (min (h 1) 99) ≤ pw T 1; omega, by show min (pw S 2 + (min (h 2) 99 - 99)) (min (h 2) 99) ≤ pw T 2; omega⟩
    | some k =>
      have e := g.1 (by intro z; cases z)
      subst e
      exact ⟨by show min _ (min (h 0) 99) ≤ 99; omega, by show min _ (min (h 1) 99) ≤ 99; omega, by show min _ (min (h 2) 99) ≤ 99; omega⟩
  | some l =>
    obtain ⟨a0, a1, a2⟩ := g
    exact ⟨by show min (pw S 0 + (min (h 0) (l 0) - pw K 0)) (min (h 0) (l 0)) ≤ pw T 0; omega, by show min (pw S 1 + (min (h 1) (l 1) - pw K 1)) (min (h 1) (l 1)) ≤ pw T 1; omega, by show min (pw S 2 + (min (h 2) (l 2) - pw K 2)) (min (h 2) (l 2)) ≤ pw T 2; omega⟩
theorem go_hours {K S L T : Pw} (g : GO K S L T) : HG K S L T := by
  cases L with
  | none =>
    cases K with
    | none =>
      obtain ⟨⟨a0, a1, a2⟩, b⟩ := g.2 rfl
      refine ⟨⟨fun p h1 h2 h3 => ?_, fun p h1 h2 h3 => ?_, fun p h1 h2 h3 => ?_⟩, fun _ _ => rfl⟩
      · have h3 : min p 99 ≤ pw S 0 := h3
        show min p 99 ≤ _
        omega
      · have h3 : min p 99 ≤ pw S 1 := h3
        show min p 99 ≤ _
        omega
      · have h3 : min p 99 ≤ pw S 2 := h3
        show min p 99 ≤ _
        omega
    | some k =>
      have e := g.1 (by intro z; cases z)
      subst e
      refine ⟨⟨fun p h1 h2 h3 => ?_, fun p h1 h2 h3 => ?_, fun p h1 h2 h3 => ?_⟩, fun _ z => absurd rfl z⟩ <;> (show min p 99 ≤ 99; omega)
  | some l =>
    obtain ⟨a0, a1, a2⟩ := g
    refine ⟨⟨fun p h1 h2 h3 => ?_, fun p h1 h2 h3 => ?_, fun p h1 h2 h3 => ?_⟩, fun z => by cases z⟩
    · show min p (l 0) ≤ _
      omega
    · show min p (l 1) ≤ _
      omega
    · show min p (l 2) ≤ _
      omega
theorem hours_go {K S L T : Pw} (hS : Bd 12 S) (hL : Bd 9 L) (hT : Bd 12 T) (w : K = none ∨ ∃ l k, L = some l ∧ K = some k ∧ A3 fun i => l i ≤ k i) (g : HG K S L T) : GO K S L T := by
  obtain ⟨⟨g0, g1, g2⟩, _⟩ := g
  cases L with
  | none =>
    refine ⟨fun z => ?_, fun _ => ?_⟩
    · rcases w with w | ⟨l, k, e, _⟩
      · exact absurd w z
      · cases e
    · have w : K = none := by
        rcases w with w | ⟨l, k, e, _⟩
        · exact w
        · cases e
      subst w
      cases T with
      | none =>
        cases S with
        | none => exact ⟨⟨Nat.le_refl _, Nat.le_refl _, Nat.le_refl _⟩, .inr rfl⟩
        | some s =>
          obtain ⟨s0, s1, s2⟩ := bd_some hS
          exact ⟨⟨by show s 0 ≤ 99; omega, by show s 1 ≤ 99; omega, by show s 2 ≤ 99; omega⟩, .inr rfl⟩
      | some t =>
        obtain ⟨t0, t1, t2⟩ := bd_some hT
        cases S with
        | none =>
          have q := g0 14 (by decide) (by decide) (show min 14 99 ≤ 99 by decide)
          have q : min 14 99 ≤ t 0 := q
          omega
        | some s =>
          obtain ⟨s0, s1, s2⟩ := bd_some hS
          refine ⟨⟨?_, ?_, ?_⟩, .inl (by intro z; cases z)⟩
          · show s 0 ≤ t 0
            rcases Nat.eq_zero_or_pos (s 0) with z | z
            · omega
            · have q : min (s 0) 99 ≤ t 0 := g0 (s 0) z (by omega) (show min (s 0) 99 ≤ s 0 by omega)
              omega
          · show s 1 ≤ t 1
            rcases Nat.eq_zero_or_pos (s 1) with z | z
            · omega
            · have q : min (s 1) 99 ≤ t 1 := g1 (s 1) z (by omega) (show min (s 1) 99 ≤ s 1 by omega)
              omega
          · show s 2 ≤ t 2
            rcases Nat.eq_zero_or_pos (s 2) with z | z
            · omega
            · have q : min (s 2) 99 ≤ t 2 := g2 (s 2) z (by omega) (show min (s 2) 99 ≤ s 2 by omega)
              omega
  | some l =>
    obtain ⟨l0, l1, l2⟩ := bd_some hL
    have hk : l 0 - pw K 0 = 0 ∧ l 1 - pw K 1 = 0 ∧ l 2 - pw K 2 = 0 := by
      rcases w with w | ⟨l', k, e1, e2, a, b, c⟩
      · subst w
        exact ⟨by show l 0 - 99 = 0; omega, by show l 1 - 99 = 0; omega, by show l 2 - 99 = 0; omega⟩
      · cases e1
        subst e2
        exact ⟨by show l 0 - k 0 = 0; omega, by show l 1 - k 1 = 0; omega, by show l 2 - k 2 = 0; omega⟩
    have one : ∀ i, l i ≤ 9 → l i - pw K i = 0 → (∀ p, 1 ≤ p → p < 15 → min p (pw K i) ≤ pw S i → min p (l i) ≤ pw T i) → min (pw S i + (l i - pw K i)) (l i) ≤ pw T i := fun i b z g => by
      rcases Nat.eq_zero_or_pos (pw S i) with y | y
      · omega
      · have q := g (min (pw S i) 14) (by omega) (by omega) (by omega)
        omega
    exact ⟨one 0 l0 hk.1 g0, one 1 l1 hk.2.1 g1, one 2 l2 hk.2.2 g2⟩
theorem pw_le {o : Pw} (h : Bd 12 o) : A3 fun i => pw o i ≤ 99 := by
  cases o with
  | none => exact ⟨Nat.le_refl _, Nat.le_refl _, Nat.le_refl _⟩
  | some f =>
    obtain ⟨a, b, c⟩ := bd_some h
    exact ⟨by show f 0 ≤ 99; omega, by show f 1 ≤ 99; omega, by show f 2 ≤ 99; omega⟩
theorem go_trans {K S L T M U : Pw} (hS : Bd 12 S) (hT : Bd 12 T) (hU : Bd 12 U) (hM : Bd 12 M) (g : GO K S L T) (h : GO L T M U) : GO K S M U := by
  cases M with
  | none =>
    cases L with
    | some l =>
      have e := h.1 (by intro z; cases z)
      subst e
      exact ⟨fun _ => rfl, fun _ => ⟨pw_le hS, .inr rfl⟩⟩
    | none =>
      obtain ⟨⟨b0, b1, b2⟩, b⟩ := h.2 rfl
      cases K with
      | some k =>
        have e := g.1 (by intro z; cases z)
        subst e
        exact ⟨fun _ => b.resolve_left fun z => z rfl, fun z => by cases z⟩
      | none =>
        obtain ⟨⟨a0, a1, a2⟩, a⟩ := g.2 rfl
        refine ⟨fun z => absurd rfl z, fun _ => ⟨⟨by omega, by omega, by omega⟩, ?_⟩⟩
        rcases a with a | a
        · exact .inl a
        · subst a
          exact .inr (b.resolve_left fun z => z rfl)
  | some m =>
    obtain ⟨m0, m1, m2⟩ := bd_some hM
    obtain ⟨b0, b1, b2⟩ := h
    show A3 fun i => min (pw S i + (m i - pw K i)) (m i) ≤ pw U i
    cases L with
    | some l =>
      obtain ⟨a0, a1, a2⟩ := g
      have b0 : min (pw T 0 + (m 0 - l 0)) (m 0) ≤ pw U 0 := b0
      have b1 : min (pw T 1 + (m 1 - l 1)) (m 1) ≤ pw U 1 := b1
      have b2 : min (pw T 2 + (m 2 - l 2)) (m 2) ≤ pw U 2 := b2
      exact ⟨by omega, by omega, by omega⟩
    | none =>
      have b0 : min (pw T 0 + (m 0 - 99)) (m 0) ≤ pw U 0 := b0
      have b1 : min (pw T 1 + (m 1 - 99)) (m 1) ≤ pw U 1 := b1
      have b2 : min (pw T 2 + (m 2 - 99)) (m 2) ≤ pw U 2 := b2
      cases K with
      | some k =>
        have e := g.1 (by intro z; cases z)
        subst e
        have b0 : min (99 + (m 0 - 99)) (m 0) ≤ pw U 0 := b0
        have b1 : min (99 + (m 1 - 99)) (m 1) ≤ pw U 1 := b1
        have b2 : min (99 + (m 2 - 99)) (m 2) ≤ pw U 2 := b2
        exact ⟨by omega, by omega, by omega⟩
      | none =>
        obtain ⟨⟨a0, a1, a2⟩, a⟩ := g.2 rfl
        exact ⟨by show min (pw S 0 + (m 0 - 99)) (m 0) ≤ pw U 0; omega, by show min (pw S 1 + (m 1 - 99)) (m 1) ≤ pw U 1; omega, by show min (pw S 2 + (m 2 - 99)) (m 2) ≤ pw U 2; omega⟩
/-! the ends -/
theorem dv_zero (o : Nat) (h : 0 < o) : dv 0 o = 0 := by
  unfold dv
  rw [if_neg (by omega), Nat.zero_div]
theorem dv_one (k : Nat) : dv k 1 = k := by
  unfold dv
  rw [if_neg (by omega), Nat.gcd_one_right, Nat.div_one]
theorem dv_self0 (k : Nat) : dv k 0 = 1 := by
  unfold dv
  by_cases h : k = 0
  · rw [if_pos ⟨h, rfl⟩]
  · rw [if_neg (fun z => h z.1), Nat.gcd_zero_right, Nat.div_self (by omega)]
theorem ends_all (k s : Nat) : gives 1 0 k s = decide (k ∣ s) := by
  unfold gives
  rw [Nat.zero_mul, Nat.gcd_zero_left]
theorem ends_first (k s : Nat) : gives 0 1 k s = true := by
  unfold gives
  rw [dv_self0, Nat.mul_one, Nat.gcd_one_left]
  exact decide_eq_true (Nat.one_dvd _)
theorem ends_self (k s : Nat) : gives k s k s = true := by
  unfold gives
  have e : dv k k = 1 := by
    unfold dv
    by_cases h : k = 0
    · rw [if_pos ⟨h, h⟩]
    · rw [if_neg (fun z => h z.1), Nat.gcd_self, Nat.div_self (by omega)]
  rw [e, Nat.mul_one]
  exact decide_eq_true (Nat.gcd_dvd_left s k)
theorem ends_zero (k s : Nat) : gives 0 0 k s = decide (k ∣ s) := by
  unfold gives
  rw [Nat.zero_mul, Nat.gcd_zero_left]
theorem of_alone {k s l t : Nat} (h : l ∣ t) : gives k s l t = true := decide_eq_true (Nat.dvd_trans (Nat.gcd_dvd_right _ _) h)
end KG
namespace K63
open PySem L2 Er
/-- one step of a plain reading -/
local macro_rules | `(tactic| walk_at "step") => `(tactic| first
  | with_reducible refine r_seq ?_ | with_reducible refine r_nx ?_ | with_reducible refine r_asgN ?_ | with_reducible refine r_asgS ?_ | with_reducible refine r_asgT ?_ | with_reducible refine r_ifS ?_
  | with_reducible refine r_ret ?_ | with_reducible refine r_retN ?_ | with_reducible refine r_drop ?_ | with_reducible refine r_test ?_ | with_reducible refine r_B ?_ | with_reducible refine r_not ?_
  | with_reducible refine r_and ?_ | with_reducible refine r_or ?_ | with_reducible refine r_andV ?_ | with_reducible refine r_orV ?_ | with_reducible refine r_notV ?_
  | ((with_reducible refine' r_var ?e ?_); (case e => exact rfl)) | with_reducible refine r_c ?_ | with_reducible refine r_op ?_ | with_reducible refine r_un ?_
  | with_reducible refine r_I0 ?_ | with_reducible refine r_eqI ?_ | with_reducible refine r_neI ?_ | with_reducible refine r_bl ?_ | with_reducible refine r_nil ?_ | with_reducible refine r_cons ?_
  | with_reducible refine r_cb ?_ | with_reducible refine r_call ?_ | with_reducible refine r_tup ?_ | with_reducible refine r_lst ?_ | with_reducible refine r_fld ?_ | with_reducible refine r_bm ?_ | with_reducible refine r_bm0 ?_
  | with_reducible refine r_for ?_ | with_reducible refine r_rng ?_ | with_reducible refine r_rng2 ?_ | with_reducible refine r_lstI ?_ | with_reducible refine r_tupI ?_ | with_reducible refine r_lc ?_
  | with_reducible refine r_augS ?_ | with_reducible refine r_ipI ?_
  | with_reducible refine r_meth ?_ | with_reducible refine r_prop ?_ | with_reducible refine r_make ?_ | with_reducible refine r_din ?_ | with_reducible refine r_dnin ?_ | with_reducible refine r_dput ?_ | with_reducible refine r_dget ?_
  | with_reducible refine r_gN ?_ | with_reducible refine r_tsl ?_ | with_reducible refine r_noP ?_ | with_reducible refine r_part ?_ | with_reducible refine r_pI ?_ | with_reducible refine r_tif ?_ | with_reducible refine r_SL ?_ | with_reducible refine r_gC ?_ | with_reducible refine r_U ?_ | with_reducible refine r_sfld ?_ | with_reducible refine r_dnew ?_ | with_reducible refine r_keys ?_
  | with_reducible refine r_mkE ?_ | with_reducible refine iteT ?_ | with_reducible refine iteF ?_
  | with_reducible refine r_int ?_ | with_reducible refine r_min2 ?_ | with_reducible refine r_isN ?_ | with_reducible refine r_notN ?_)
/-- as far as it goes by itself -/
local macro_rules | `(tactic| walk_at "go") => `(tactic| ((repeat walk_at "step"); (try dsimp only)))

def top (i : Nat) : Stmt := PySem.Challenge.pw_nowaittasks_k63_order_of_giving.main.body.getD i (.Pass ⟨0, 0, 0, 0⟩)
abbrev sIsInteger : Stmt := top 6
abbrev sIsNatural : Stmt := top 7
abbrev sIsRow : Stmt := top 8
abbrev sIsPair : Stmt := top 9
abbrev sCheckNum : Stmt := top 10
abbrev sInHours : Stmt := top 12
abbrev sGoesInto : Stmt := top 14
abbrev sCheckKinds : Stmt := top 17
abbrev sDivided : Stmt := top 18
abbrev sGives : Stmt := top 19
abbrev sSums : Stmt := top 20
abbrev sAlone : Stmt := top 21
abbrev sDrawn : Stmt := top 23
abbrev sTake : Stmt := top 24
abbrev sPowers : Stmt := top 25
abbrev sWorth : Stmt := top 26
abbrev sPower : Stmt := top 27
abbrev sGoes : Stmt := top 28
abbrev sGoesMod : Stmt := top 29
abbrev sGood : Stmt := top 30
abbrev sHoursGo : Stmt := top 31
abbrev sKinds : Stmt := top 32
abbrev sPair : Stmt := top 33
abbrev sEnds : Stmt := top 34
abbrev sToldRow : Stmt := top 35
abbrev sToldHours : Stmt := top 36
abbrev sRefused : Stmt := top 37
abbrev sLaw : Stmt := top 38
theorem sm_ty {K : PySem.W.Frag} {H : Hp} {v : V} {n : String} (h : Sm K H v n) : TyX K H v (.type n) := by
  cases h with
  | non => exact .base .non
  | bl b => exact .base (.bl b)
  | int i => exact .base (.int i)
  | str x => exact .base (.str x)
  | @lst a xs h =>
    rcases h with (h | ⟨o, h⟩) | ⟨o, its, n, h1, h2, _⟩
    · exact .base (.lst h)
    · exact .base (.frz h)
    · exact .kList h1 h2
  | @tup a xs h =>
    rcases h with (h | ⟨o, h⟩) | ⟨o, its, n, h1, h2, _⟩
    · exact .base (.tup h)
    · exact .fTuple h
    · exact .kTuple h1 h2
theorem same_t {K : PySem.W.Frag} {H H' : Hp} {a : Addr} {xs : List V} (e : Same H H') (h : SqT K H a xs) : SqT K H' a xs := by
  rcases h with (h | ⟨o, h⟩) | h
  · exact .inl (.inl (e _ _ h))
  · exact .inl (.inr ⟨o, e _ _ h⟩)
  · exact .inr h
theorem sm_ext {K : PySem.W.Frag} {H H' : Hp} {v : V} {n : String} (e : Same H H') (h : Sm K H v n) : Sm K H' v n := by
  cases h with
  | non => exact .non
  | bl b => exact .bl b
  | int i => exact .int i
  | str x => exact .str x
  | lst h => exact .lst (e.seq h)
  | tup h => exact .tup (same_t e h)
theorem same_new {H : Hp} {p : Addr} {o : HO} (h : H p = none) : Same H (upd H p o) := fun b u z => by
  rw [upd_ne (ne_of_none z h)]
  exact z
def isI : V → Bool
  | .int _ => true
  | _ => false
def isN : V → Bool
  | .int i => decide (0 ≤ i)
  | _ => false
def spThing (K : PySem.W.Frag) (r : V → String → Bool) : Sp := fun vs H Q _ => ∃ v n, vs = [v] ∧ Sm K H v n ∧ ∀ H', Same H H' → Q (.bl (r v n)) H'
section
variable {P : Program} {w : World} {K : PySem.W.Frag} {mg : Str → Option Value} {base : Heap}
theorem fok {x qual : Str} {st : Stmt} {f : Addr} {fd : FuncData} {ps : List Str} {k : Nat} {sp : Sp} (F : Fun K x qual st f fd) (hm : mg x = some (.ref f)) (b : Binds K fd ps []) (h : FnOk P w K mg base (L2.CX P w) k f fd ps sp) : Fok P w K mg base k x ps sp := ⟨f, fd, hm, F.kp, b, h⟩
theorem scIsInteger : FnScope ["thing"] ["thing"] (defScope sIsInteger) := ⟨rfl, rfl, rfl, by decide +kernel, rfl, by decide +kernel, by decide +kernel⟩
theorem ok_is_integer {f : Addr} {fd : FuncData} (F : Fun K "is_integer" "is_integer" sIsInteger f fd) (m1 : mg "isinstance" = none) (m2 : mg "int" = none) (m3 : mg "bool" = none) :
    FnOk P w K mg base (L2.CX P w) 1 f fd ["thing"] (spThing K fun v _ => isI v) := by
  refine F.okX scIsInteger (fun vs H Q E h => ?_) (fun cdv A outer s H vs Q E hr h => ?_)
  · obtain ⟨v, n, rfl, _⟩ := h
    rfl
  · obtain ⟨v, n, rfl, hS, k⟩ := h
    refine ⟨_, pss_one (ps_ret (pe_and (pe_callB call_isi (by rfl) m1 (by decide +kernel) (pa_cons (pv 0) (pa_cons (pe_bltn (v := .ty "int") (u := .type "int") (by rfl) m2 (by decide +kernel) rfl) pa_nil)))
      (pe_one (pe_not (pe_callB call_isi (by rfl) m1 (by decide +kernel) (pa_cons (pv 0) (pa_cons (pe_bltn (v := .ty "bool") (u := .type "bool") (by rfl) m3 (by decide +kernel) rfl) pa_nil))))))), ?_⟩
    refine ⟨_, rfl, v, .ty "int", .type n, .type "int", _, rfl, .ty _, sm_ty hS, kit_ty (r := n == "int" || n == "bool") (by cases hS <;> decide +kernel), _, rfl, ?_⟩
    cases hS with
    | non | str | lst | tup =>
      exact k H (Same.refl H)
    | bl b =>
      exact ⟨_, rfl, .bl b, .ty "bool", .type "bool", .type "bool", true, rfl, .ty _, sm_ty (.bl b), kit_ty (by decide +kernel), _, rfl, k H (Same.refl H)⟩
    | int i =>
      exact ⟨_, rfl, .int i, .ty "bool", .type "int", .type "bool", false, rfl, .ty _, sm_ty (.int i), kit_ty (by decide +kernel), _, rfl, k H (Same.refl H)⟩
theorem scIsNatural : FnScope ["thing"] ["thing"] (defScope sIsNatural) := ⟨rfl, rfl, rfl, by decide +kernel, rfl, by decide +kernel, by decide +kernel⟩
theorem ok_is_natural {f : Addr} {fd : FuncData} (F : Fun K "is_natural" "is_natural" sIsNatural f fd) (D1 : Fok P w K mg base 1 "is_integer" ["thing"] (spThing K fun v _ => isI v)) :
    FnOk P w K mg base (L2.CX P w) 2 f fd ["thing"] (spThing K fun v _ => isN v) := by
  refine F.okX scIsNatural (fun vs H Q E h => ?_) (fun cdv A outer s H vs Q E hr h => ?_)
  · obtain ⟨v, n, rfl, _⟩ := h
    rfl
  · obtain ⟨v, n, rfl, hS, k⟩ := h
    refine ⟨_, pss_one (ps_ret (pe_and (pe_f D1 hr (pa_cons (pv 0) pa_nil)) (pe_one (pe_cmpR op_ge (pv 0) pe_int (nomark _))))), ?_⟩
    refine ⟨_, rfl, _, _, rfl, hS, fun H1 s1 => ⟨_, rfl, ?_⟩⟩
    cases hS with
    | non | str | lst | tup | bl => exact k H1 s1
    | int i => exact ⟨_, rfl, _, _, rfl, rfl, k H1 s1⟩
theorem scIsRow : FnScope ["thing"] ["thing"] (defScope sIsRow) := ⟨rfl, rfl, rfl, by decide +kernel, rfl, by decide +kernel, by decide +kernel⟩
theorem ok_is_row {f : Addr} {fd : FuncData} (F : Fun K "is_row" "is_row" sIsRow f fd) (m1 : mg "isinstance" = none) (m2 : mg "list" = none) (m3 : mg "tuple" = none) :
    FnOk P w K mg base (L2.CX P w) 1 f fd ["thing"] (spThing K fun _ n => n == "list" || n == "tuple") := by
  refine F.okX scIsRow (fun vs H Q E h => ?_) (fun cdv A outer s H vs Q E hr h => ?_)
  · obtain ⟨v, n, rfl, _⟩ := h
    rfl
  · obtain ⟨v, n, rfl, hS, k⟩ := h
    refine ⟨_, pss_one (ps_ret (pe_callB call_isiT (by rfl) m1 (by decide +kernel) (pa_cons (pv 0) (pa_cons
      (pe_tup (pa_cons (pe_bltn (v := .ty "list") (u := .type "list") (by rfl) m2 (by decide +kernel) rfl) (pa_cons (pe_bltn (v := .ty "tuple") (u := .type "tuple") (by rfl) m3 (by decide +kernel) rfl) pa_nil))) pa_nil)))), ?_⟩
    refine ⟨_, rfl, by show 2 ≤ sizeLine; decide, fun p hp => ?_⟩
    refine ⟨v, p, _, .type n, [.type "list", .type "tuple"], n == "list" || n == "tuple", rfl, upd_same, .cons (.ty _) (.cons (.ty _) .nil), sm_ty (sm_ext (same_new hp) hS), ?_, k _ (same_new hp)⟩
    cases hS <;> first
      | exact kitAny_cons (b := true) (kit_ty (by decide +kernel)) (fun z => by cases z) (fun _ => rfl)
      | exact kitAny_cons (b := false) (kit_ty (by decide +kernel)) (fun _ => kitAny_cons (b := true) (kit_ty (by decide +kernel)) (fun z => by cases z) (fun _ => rfl)) (fun z => by cases z)
      | exact kitAny_cons (b := false) (kit_ty (by decide +kernel)) (fun _ => kitAny_cons (b := false) (kit_ty (by decide +kernel)) (fun _ => kitAny_nil) (fun z => by cases z)) (fun z => by cases z)
end
def rsd (C : Addr) (f : Str) (v : V) (H : Hp) (E : XK) : Prop := ∀ d H', Same H H' → H' d = some (.xd [(f, v)]) → E (.ref C) (some d) H'
theorem rsd_new {C : Addr} {f : Str} {v : V} {H H1 : Hp} {E : XK} {d : Addr} (r : rsd C f v H E) (s : Same H H1) (hd : H1 d = none) : E (.ref C) (some d) (upd H1 d (.xd [(f, v)])) := r d _ (s.trans (same_new hd)) upd_same
theorem rsd_keep {C : Addr} {f : Str} {v : V} {H H1 : Hp} {E : XK} (s : Same H H1) (r : rsd C f v H E) : rsd C f v H1 E := fun d H' s' h => r d H' (s.trans s') h
def SameBut (a : Addr) (H H' : Hp) : Prop := ∀ b o, b ≠ a → H b = some o → H' b = some o
def spTake : Sp := fun vs H Q _ => ∃ (a : Addr) (ns : List Int) (m : Int), vs = [.ref a, .int m] ∧ H a = some (.lst (ns.map V.int)) ∧ ns.length ≤ 100000 ∧ 0 < m ∧
  ∀ (r : Int) (ns' : List Int) (H' : Hp), 0 ≤ r → r < m → ns'.length ≤ ns.length → H' a = some (.lst (ns'.map V.int)) → SameBut a H H' → Q (.int r) H'
section
variable {P : Program} {w : World} {K : PySem.W.Frag} {mg : Str → Option Value} {base : Heap}
theorem scTake : FnScope ["_law_found", "_law_many"] ["_law_found", "_law_many"] (defScope sTake) := ⟨rfl, rfl, rfl, by decide +kernel, rfl, by decide +kernel, by decide +kernel⟩
theorem ok_take {f : Addr} {fd : FuncData} (F : Fun K "_law_take" "_law_take" sTake f fd) (m1 : mg "len" = none) (m2 : mg "int" = none) : FnOk P w K mg base (L2.CX P w) 1 f fd ["_law_found", "_law_many"] spTake := by
  refine F.okX scTake (fun vs H Q E h => ?_) (fun cdv A outer s H vs Q E hr h => ?_)
  · obtain ⟨a, ns, m, rfl, _⟩ := h
    rfl
  · obtain ⟨a, ns, m, rfl, ha, hl, hm, k⟩ := h
    refine ⟨_, pss_cons (ps_if (pt_cmpR op_eq (pe_callB c_len (by rfl) m1 PySem.boot_len (pa_cons (pv 0) pa_nil)) pe_int (nomark _)) (pss_one (ps_ret pe_int)) pss_nil)
      (pss_one (ps_ret (pe_op op_mod (pe_callTy c_int (by rfl) m2 (by decide +kernel) (pa_cons (pe_bm0 PySem.F.plainAttrs_list PySem.F.slot_list_pop PySem.F.type_list_pop mt_pop (pv 0)) pa_nil)) (pv 1)))), ?_⟩
    walk_at "go"
    refine r_lenL (SqL.of ha) ?_
    walk_at "go"
    refine ite2 (fun h1 => k 0 ns H (Int.le_refl _) hm (Nat.le_refl _) ha fun b o _ z => z) fun h1 => ?_
    have hne : ns ≠ [] := fun z => by
      subst z
      exact h1 (by decide)
    refine ⟨_, rfl, .inl ⟨rfl, _, SqL.of ha⟩, a, _, .int (ns.getLast hne), rfl, rfl, ha, ?_, ?_⟩
    · rw [List.length_map, List.getElem?_map, List.getElem?_eq_getElem (by have := List.length_pos_iff.mpr hne; omega), List.getLast_eq_getElem hne]
      rfl
    · walk_at "go"
      refine r_I hm ?_
      refine k _ ns.dropLast _ (Int.emod_nonneg _ (by omega)) (Int.emod_lt_of_pos _ hm) (by rw [List.length_dropLast]; omega) ?_ fun b o nb z => ?_
      · rw [upd_same, ← List.map_dropLast]
      · rw [upd_ne nb]
        exact z
def spDrawn (K : PySem.W.Frag) : Sp := fun vs H Q _ => ∃ (a : Addr) (ns : List Int), vs = [.ref a] ∧ SqL K H a (ns.map V.int) ∧ ns.length ≤ 63 ∧
  ∀ (p : Addr) (fs : List Int) (H' : Hp), H p = none → Same H H' → H' p = some (.lst (fs.map V.int)) → fs.length ≤ 4000 → Q (.ref p) H'
theorem scDrawn : FnScope ["_law_script", "_law_found", "_law_place", "_law_cell", "_law_turn", "_law_grain"] ["_law_script"] (defScope sDrawn) := ⟨rfl, rfl, rfl, by decide +kernel, rfl, by decide +kernel, by decide +kernel⟩
theorem same_mut {H H' : Hp} {p : Addr} {o : HO} (h : H p = none) (s : Same H H') : Same H (upd H' p o) := fun b u z => by
  rw [upd_ne (ne_of_none z h)]
  exact s b u z
theorem app_map (fs : List Int) (z : Int) : fs.map V.int ++ [V.int z] = (fs ++ [z]).map V.int := by rw [List.map_append]; rfl
theorem ok_drawn {f : Addr} {fd : FuncData} (F : Fun K "_law_drawn" "_law_drawn" sDrawn f fd) (m_len : mg "len" = none) (m_int : mg "int" = none) (m_min : mg "min" = none) (m_range : mg "range" = none) :
    FnOk P w K mg base (L2.CX P w) 1 f fd ["_law_script"] (spDrawn K) := by
  refine F.okX scDrawn (fun vs H Q E h => ?_) (fun cdv A outer s H vs Q E hr h => ?_)
  · obtain ⟨a, ns, rfl, _⟩ := h
    rfl
  · obtain ⟨a, ns, rfl, hS, hl, k⟩ := h
    have sc := scDrawn
    refine ⟨_, (pss_cons (ps_set (i := 1) sc.nd rfl (Or.inl rfl) (pe_lst pa_nil))
      (pss_cons (ps_for (passes_of rfl) rfl (pi_range1 (by rfl) m_range (pa_cons (pe_callB (c_min2 rfl) (by rfl) m_min (by decide +kernel) (pa_cons (pe_callB c_len (by rfl) m_len PySem.boot_len (pa_cons (pv 0) pa_nil)) (pa_cons pe_int pa_nil))) pa_nil)) (pg_name (i := 2) sc.nd rfl (Or.inl rfl)) (pss_cons (ps_set (i := 3) sc.nd rfl (Or.inl rfl) (pe_callTy c_int (by rfl) m_int (by decide +kernel) (pa_cons (pe_ix ix_list (pv 0) (pv 2) (fun _ _ => rfl)) pa_nil)))
      (Evl.pss_cut (ps_if (pt_cmpR op_lt (pv 3) pe_int (nomark _)) (pss_cons (ps_expr (pe_bm PySem.F.plainAttrs_list PySem.F.slot_list_append PySem.F.type_list_append mt_append (pv 1) (pa_cons pe_int pa_nil)))
      (pss_one (ps_set (i := 3) sc.nd rfl (Or.inl rfl) (pe_op op_sub pe_int (pv 3))))) pss_nil)
      (pss_one (ps_if (pt_cmpR op_ge (pv 3) (pe_op op_pow pe_int pe_int) (nomark _)) (pss_one (ps_for (passes_of rfl) rfl (pi_range1 (by rfl) m_range (pa_cons pe_int pa_nil)) (pg_name (i := 4) sc.nd rfl (Or.inl rfl)) (pss_one (ps_if (pt_cmpR op_gt (pv 3) pe_int (nomark _)) (pss_cons (ps_expr (pe_bm PySem.F.plainAttrs_list PySem.F.slot_list_append PySem.F.type_list_append mt_append (pv 1) (pa_cons (pe_op op_mod (pe_callTy c_int (by rfl) m_int (by decide +kernel) (pa_cons (pv 3) pa_nil)) pe_int) pa_nil)))
      (pss_one (ps_set (i := 3) sc.nd rfl (Or.inl rfl) (pe_op op_fdiv (pv 3) pe_int)))) pss_nil)))) (pss_cons (ps_set (i := 5) sc.nd rfl (Or.inl rfl) (pe_op op_mod (pe_callTy c_int (by rfl) m_int (by decide +kernel) (pa_cons (pe_op op_add (pe_op op_add (pe_op op_mul (pv 3) pe_int) (pe_op op_mul (pv 2) pe_int)) pe_int) pa_nil)) pe_int))
      (pss_one (ps_for (passes_of rfl) rfl (pi_range1 (by rfl) m_range (pa_cons pe_int pa_nil)) (pg_name (i := 4) sc.nd rfl (Or.inl rfl)) (pss_cons (ps_set (i := 5) sc.nd rfl (Or.inl rfl) (pe_op op_mod (pe_callTy c_int (by rfl) m_int (by decide +kernel) (pa_cons (pe_op op_add (pe_op op_add (pe_op op_add (pe_op op_mul (pv 5) (pv 5)) (pe_op op_mul (pv 4) pe_int)) (pe_op op_mul (pv 2) pe_int)) pe_int) pa_nil)) pe_int))
      (pss_one (ps_expr (pe_bm PySem.F.plainAttrs_list PySem.F.slot_list_append PySem.F.type_list_append mt_append (pv 1) (pa_cons (pe_op op_fdiv (pv 5) pe_int) pa_nil)))))))))))))
      (pss_cons (ps_expr (pe_bm0 PySem.F.plainAttrs_list PySem.F.slot_list_reverse PySem.F.type_list_reverse mt_reverse (pv 1)))
      (pss_one (ps_ret (pv 1)))))), ?_⟩
    walk_at "go"
    refine ⟨by decide, fun p hp => ?_⟩
    walk_at "go"
    refine r_lenL ((same_new hp).seq hS) ?_
    walk_at "go"
    rw [List.length_map]
    have hmin : (if (63 : Int) < (ns.length : Int) then (63 : Int) else (ns.length : Int)) = (ns.length : Int) := if_neg (by omega)
    rw [hmin]
    refine r_rngK ns.length (by omega) (by omega) ?_
    refine r_forR0 (fun i σ H2 => ∃ (v2 v3 v4 v5 : Option V) (fs : List Int), σ = [some (.ref a), some (.ref p), v2, v3, v4, v5] ∧ Same H H2 ∧ H2 p = some (.lst (fs.map V.int)) ∧ fs.length ≤ i * 51)
      ⟨none, none, none, none, [], rfl, same_new hp, upd_same, Nat.zero_le _⟩ ?_ ?_
    · rintro i σ H2 hi ⟨v2, v3, v4, v5, fs, rfl, s2, hp2, hf⟩
      obtain ⟨z, hz⟩ : ∃ z, ns[i]? = some z := ⟨ns[i], List.getElem?_eq_getElem hi⟩
      walk_at "go"
      refine r_ixL (s2.seq hS) (v := .int z) (atI_nat (by rw [List.getElem?_map, hz]; rfl)) ?_
      walk_at "go"
      refine r_cut (Mid := fun σ H2 => ∃ (z : Int) (fs : List Int), σ = [some (.ref a), some (.ref p), some (.int i), some (.int z), v4, v5] ∧ Same H H2 ∧ H2 p = some (.lst (fs.map V.int)) ∧ fs.length ≤ i * 51 + 1 ∧ 0 ≤ z) ?_ ?_
      · walk_at "go"
        refine ite2 (fun h0 => ?_) fun h0 => ?_
        · have h0 : z < 0 := of_decide_eq_true h0
          walk_at "go"
          refine r_tyL (SqL.of hp2) ?_
          walk_at "go"
          refine r_app hp2 (Nat.lt_of_le_of_lt (m := 4000) (by rw [List.length_map]; omega) (by decide)) ?_
          walk_at "go"
          exact ⟨_, fs ++ [1], rfl, same_mut hp s2, by rw [upd_same, app_map], by rw [List.length_append]; show _ + 1 ≤ _; omega, by omega⟩
        · have h0 : ¬ z < 0 := fun y => h0 (decide_eq_true y)
          walk_at "go"
          exact ⟨z, fs, rfl, s2, hp2, by omega, by omega⟩
      · rintro σ H2 ⟨z, fs, rfl, s2, hp2, hf, hz0⟩
        walk_at "go"
        refine r_I ⟨by decide, by decide, by decide⟩ ?_
        walk_at "go"
        refine ite2 (fun h1 => ?_) fun h1 => ?_
        · walk_at "go"
          refine r_rngK 50 rfl (by omega) ?_
          refine r_forR0 (fun j σ H2 => ∃ (z : Int) (v4 : Option V) (fs : List Int), σ = [some (.ref a), some (.ref p), some (.int i), some (.int z), v4, v5] ∧ Same H H2 ∧ H2 p = some (.lst (fs.map V.int)) ∧ fs.length ≤ i * 51 + 1 + j)
            ⟨z, v4, fs, rfl, s2, hp2, hf⟩ ?_ ?_
          · rintro j σ H2 hj ⟨z, v4, fs, rfl, s2, hp2, hf⟩
            walk_at "go"
            refine ite2 (fun h1 => ?_) fun h1 => ?_
            · walk_at "go"
              refine r_tyL (SqL.of hp2) ?_
              walk_at "go"
              refine r_I (by decide) ?_
              walk_at "go"
              refine r_app hp2 (Nat.lt_of_le_of_lt (m := 4000) (by rw [List.length_map]; omega) (by decide)) ?_
              walk_at "go"
              refine r_I ⟨by decide, by decide⟩ ?_
              exact ⟨_, _, fs ++ [_], rfl, same_mut hp s2, by rw [upd_same, app_map], by rw [List.length_append]; show _ + 1 ≤ _; omega⟩
            · walk_at "go"
              exact ⟨z, _, fs, rfl, s2, hp2, by omega⟩
          · rintro σ H2 ⟨z, v4, fs, rfl, s2, hp2, hf⟩
            exact ⟨_, _, _, _, fs, rfl, s2, hp2, by omega⟩
        · have h1 : ¬ (10 : Int) ^ 18 ≤ z := fun y => h1 (decide_eq_true y)
          have h1 : z < 1000000000000000000 := by
            have e : (10 : Int) ^ 18 = 1000000000000000000 := by decide
            omega
          walk_at "go"
          refine r_I (.inl ⟨by omega, by omega⟩) ?_
          walk_at "go"
          refine r_I (.inl ⟨by omega, by omega⟩) ?_
          walk_at "go"
          refine r_I (by decide) ?_
          walk_at "go"
          refine r_rngK 5 rfl (by omega) ?_
          refine r_forR0 (fun j σ H2 => ∃ (g : Int) (v4 : Option V) (fs : List Int), σ = [some (.ref a), some (.ref p), some (.int i), some (.int z), v4, some (.int g)] ∧ Same H H2 ∧ H2 p = some (.lst (fs.map V.int)) ∧ fs.length ≤ i * 51 + 1 + j ∧ 0 ≤ g ∧ g < 2147483629)
            ⟨_, v4, fs, rfl, s2, hp2, hf, Int.emod_nonneg _ (by decide), Int.emod_lt_of_pos _ (by decide)⟩ ?_ ?_
          · rintro j σ H2 hj ⟨g, v4, fs, rfl, s2, hp2, hf, g0, g1⟩
            walk_at "go"
            refine r_I (.inl ⟨by omega, by omega⟩) ?_
            walk_at "go"
            refine r_I (.inl ⟨by omega, by omega⟩) ?_
            walk_at "go"
            refine r_I (.inl ⟨by omega, by omega⟩) ?_
            walk_at "go"
            refine r_I (by decide) ?_
            walk_at "go"
            refine r_tyL (SqL.of hp2) ?_
            walk_at "go"
            refine r_I ⟨by decide, by decide⟩ ?_
            walk_at "go"
            refine r_app hp2 (Nat.lt_of_le_of_lt (m := 4000) (by rw [List.length_map]; omega) (by decide)) ?_
            have e0 := Int.emod_nonneg (g * g + (j : Int) * 52021 + (i : Int) * 31 + 11) (b := 2147483587) (by decide)
            have e1 := Int.emod_lt_of_pos (g * g + (j : Int) * 52021 + (i : Int) * 31 + 11) (b := 2147483587) (by decide)
            exact ⟨_, _, fs ++ [_], rfl, same_mut hp s2, by rw [upd_same, app_map], by rw [List.length_append]; show _ + 1 ≤ _; omega, e0, by omega⟩
          · rintro σ H2 ⟨g, v4, fs, rfl, s2, hp2, hf, _⟩
            exact ⟨_, _, _, _, fs, rfl, s2, hp2, by omega⟩
    · rintro σ H2 ⟨v2, v3, v4, v5, fs, rfl, s2, hp2, hf⟩
      walk_at "go"
      refine r_tyL (SqL.of hp2) ⟨p, _, rfl, rfl, hp2, ?_⟩
      walk_at "go"
      refine k p fs.reverse _ hp (same_mut hp s2) (by rw [upd_same, List.map_reverse]) (by rw [List.length_reverse]; omega)
end
theorem none_of_upd {H : Hp} {p q : Addr} {o : HO} (h : upd H p o q = none) : H q = none := by
  by_cases e : q = p
  · subst e
    rw [upd_same] at h
    cases h
  · rwa [upd_ne e] at h
theorem none_of_same {H H' : Hp} {q : Addr} (s : Same H H') (h : H' q = none) : H q = none := by
  cases e : H q with
  | none => rfl
  | some o =>
    rw [s _ _ e] at h
    cases h
theorem ite_no {c : Bool} {A B : Prop} (h : c = false) (q : B) : if c = true then A else B := by subst h; exact iteF q
theorem ite_yes {c : Bool} {A B : Prop} (h : c = true) (q : A) : if c = true then A else B := by subst h; exact iteT q
theorem iteB {c : Bool} {A B : Prop} (h1 : c = true → A) (h2 : c = false → B) : if c = true then A else B := by
  cases c with
  | true => exact iteT (h1 rfl)
  | false => exact iteF (h2 rfl)
theorem r_eqV {a b : Str} {H : Hp} {Q : VK} (q : Q (.bl (decide (V.str a = V.str b))) H) : rEq (.str a) (.str b) H Q := ⟨rfl, q⟩
theorem r_strc {x : Str} {H : Hp} {Q : VK} {σ : L2.St} (q : Q (.str x) H) : tC (.str x) σ H Q := q
theorem r_tYes {σ : L2.St} {H : Hp} {QT : Bool → Hp → Prop} (h : QT true H) : tYes σ H QT := h
def row (n : Nat) (f : Nat → V) : List V := (List.range n).map f
theorem row_len (n : Nat) (f : Nat → V) : (row n f).length = n := by unfold row; rw [List.length_map, List.length_range]
theorem row_at {n i : Nat} (f : Nat → V) (h : i < n) : (row n f)[i]? = some (f i) := by
  unfold row
  rw [List.getElem?_map, List.getElem?_range h]
  rfl
theorem row_succ (n : Nat) (f : Nat → V) : row (n + 1) f = row n f ++ [f n] := by
  unfold row
  rw [List.range_succ, List.map_append]
  rfl
theorem row_all (n : Nat) (f : Nat → V) : ((List.range n).filter fun _ => true).map f = row n f := by
  rw [List.filter_eq_self.mpr (fun _ _ => rfl)]
  rfl
theorem hu65_of {A : Around} {k : Nat} (hr : Room k A) : A.units + 65 < cLine := by have := hr.un; omega
theorem okd_str {x : Str} (h : PyData.canLay0 (.str x) = true) : Okd 0 (.str x) := ⟨h, Nat.le_refl _⟩
theorem tupOK {X : Cx} (K : PySem.W.Frag) (e : X.K = K := by rfl) : CallR X (.type "tuple") (rTupO K) := by subst e; exact c_tuple
theorem listOK {X : Cx} (K : PySem.W.Frag) (e : X.K = K := by rfl) : CallR X (.type "list") (rListO K) := by subst e; exact c_list
theorem SameBut.trans {a : Addr} {H H1 H2 : Hp} (s : SameBut a H H1) (t : SameBut a H1 H2) : SameBut a H H2 := fun b o n z => t b o n (s b o n z)
theorem SameBut.of {a : Addr} {H H1 : Hp} (s : Same H H1) : SameBut a H H1 := fun b o _ z => s b o z
theorem SameBut.mut {a p : Addr} {H H' : Hp} {o : HO} (s : SameBut a H H') (h : H p = none) : SameBut a H (upd H' p o) := fun b u n z => by
  rw [upd_ne (ne_of_none z h)]
  exact s b u n z
theorem SameBut.none_ {a : Addr} {H H' : Hp} {p : Addr} (s : SameBut a H H') (h : H' p = none) (n : p ≠ a) : H p = none := by
  cases e : H p with
  | none => rfl
  | some o => rw [s p o n e] at h; cases h
section
variable {K : PySem.W.Frag} {σ : L2.St} {H H' : Hp} {Q : VK} {a : Addr} {xs : List V} {te : TE} {tt : TT}
theorem _root_.Er.SqX.keep (h : SqX K H a xs) (s : Same H H') : SqX K H' a xs := h.elim (fun h => .inl (s.seq h)) fun h => .inr (same_tup s h)
theorem _root_.Er.SqX.sm (h : SqX K H a xs) : ∃ tn, Sm K H (.ref a) tn ∧ (tn == "list" || tn == "tuple") = true := h.elim (fun h => ⟨_, .lst h, by decide +kernel⟩) fun h => ⟨_, .tup h, by decide +kernel⟩
theorem r_lenX (h : SqX K H a xs) (q : Q (.int xs.length) H) : Er.rLen K [.ref a] H Q := h.elim (fun h => r_lenL h q) fun h => r_lenT h q
theorem _root_.Er.SqX.L (h : H a = some (.lst xs)) : SqX K H a xs := .inl (SqL.of h)
theorem _root_.Er.SqX.T (h : H a = some (.tup xs)) : SqX K H a xs := .inr (SqT.of h)
end
end K63
namespace K63
open PySem L2 Er KG
theorem r_tif {t : TT} {ta tb : TE} {σ : L2.St} {H : Hp} {Q : VK} (h : t σ H fun c H1 => if c = true then ta σ H1 Q else tb σ H1 Q) : tIf t ta tb σ H Q := h
theorem r_gC {t : TG} {u : TGs} {v : V} {vs : List V} {σ : L2.St} {H : Hp} {k : L2.St → Hp → Prop} (q : t v σ H fun σ1 H1 => u vs σ1 H1 k) : gCons t u (v :: vs) σ H k := ⟨v, vs, rfl, q⟩
/-- one step of a plain reading -/
local macro_rules | `(tactic| walk_at "step") => `(tactic| first
  | with_reducible refine r_seq ?_ | with_reducible refine r_nx ?_ | with_reducible refine r_asgN ?_ | with_reducible refine r_asgS ?_ | with_reducible refine r_asgT ?_ | with_reducible refine r_ifS ?_
  | with_reducible refine r_ret ?_ | with_reducible refine r_retN ?_ | with_reducible refine r_drop ?_ | with_reducible refine r_test ?_ | with_reducible refine r_B ?_ | with_reducible refine r_not ?_
  | with_reducible refine r_and ?_ | with_reducible refine r_or ?_ | with_reducible refine r_andV ?_ | with_reducible refine r_orV ?_ | with_reducible refine r_notV ?_
  | ((with_reducible refine' r_var ?e ?_); (case e => exact rfl)) | with_reducible refine r_c ?_ | with_reducible refine r_op ?_ | with_reducible refine r_un ?_
  | with_reducible refine r_I0 ?_ | with_reducible refine r_eqI ?_ | with_reducible refine r_neI ?_ | with_reducible refine r_bl ?_ | with_reducible refine r_nil ?_ | with_reducible refine r_cons ?_
  | with_reducible refine r_cb ?_ | with_reducible refine r_call ?_ | with_reducible refine r_tup ?_ | with_reducible refine r_lst ?_ | with_reducible refine r_fld ?_ | with_reducible refine r_bm ?_ | with_reducible refine r_bm0 ?_
  | with_reducible refine r_for ?_ | with_reducible refine r_rng ?_ | with_reducible refine r_rng2 ?_ | with_reducible refine r_lstI ?_ | with_reducible refine r_tupI ?_ | with_reducible refine r_lc ?_
  | with_reducible refine r_augS ?_ | with_reducible refine r_ipI ?_
  | with_reducible refine r_meth ?_ | with_reducible refine r_prop ?_ | with_reducible refine r_make ?_ | with_reducible refine r_din ?_ | with_reducible refine r_dnin ?_ | with_reducible refine r_dput ?_ | with_reducible refine r_dget ?_
  | with_reducible refine r_gN ?_ | with_reducible refine r_tsl ?_ | with_reducible refine r_noP ?_ | with_reducible refine r_part ?_ | with_reducible refine r_pI ?_ | with_reducible refine r_tif ?_ | with_reducible refine r_SL ?_ | with_reducible refine r_gC ?_ | with_reducible refine r_U ?_ | with_reducible refine r_sfld ?_ | with_reducible refine r_dnew ?_ | with_reducible refine r_keys ?_
  | with_reducible refine r_mkE ?_ | with_reducible refine iteT ?_ | with_reducible refine iteF ?_
  | with_reducible refine r_int ?_ | with_reducible refine r_min2 ?_ | with_reducible refine r_isN ?_ | with_reducible refine r_notN ?_)
/-- as far as it goes by itself -/
local macro_rules | `(tactic| walk_at "go") => `(tactic| ((repeat walk_at "step"); (try dsimp only)))


/-- BadNumber and BadRow of the program -/
structure Errs (P : Program) (w : World) (K : PySem.W.Frag) (mg : Str → Option Value) (CN CR : Addr) : Prop where
  nw : ∃ fI, XC K CN fI "word" ∧ InitRun P w K mg CN fI "word" (fun u => ∃ x t, u = .str x t ∧ x.length ≤ 1000)
  nr : ∃ fI, XC K CR fI "place" ∧ InitRun P w K mg CR fI "place" (fun _ => True)
  gN : mg "BadNumber" = some (.ref CN)
  gR : mg "BadRow" = some (.ref CR)
/-- what a row tells as a kind -/
def kindOf : List V → Option (Int × Int)
  | [.int k, .int s] => if 0 ≤ k then some (k, s) else none
  | _ => none
/-- a thing that check_kinds is asked of, and the kind that it is -/
def KindAt (K : PySem.W.Frag) (H : Hp) (x : V) (b : Option (Int × Int)) : Prop := (∃ tn, Sm K H x tn ∧ (tn == "list" || tn == "tuple") = false ∧ b = none) ∨ ∃ a xs, x = .ref a ∧ SqX K H a xs ∧ (∀ v ∈ xs, ∃ tn, Sm K H v tn) ∧ b = kindOf xs
theorem KindAt.keep {K : PySem.W.Frag} {H H' : Hp} {x : V} {b : Option (Int × Int)} (h : KindAt K H x b) (s : Same H H') : KindAt K H' x b := by
  rcases h with ⟨tn, a, c, d⟩ | ⟨a, xs, e, h1, h2, h3⟩
  · exact .inl ⟨tn, sm_ext s a, c, d⟩
  · exact .inr ⟨a, xs, e, h1.keep s, fun v hv => (h2 v hv).elim fun tn z => ⟨tn, sm_ext s z⟩, h3⟩
/-- a good kind is a row of two ints -/
theorem kind_good {xs : List V} {k s : Int} (h : kindOf xs = some (k, s)) : xs = [.int k, .int s] ∧ 0 ≤ k := by
  unfold kindOf at h
  split at h
  · rename_i k' s'
    split at h
    · rename_i h0
      cases h
      exact ⟨rfl, h0⟩
    · cases h
  · cases h
theorem KindAt.good {K : PySem.W.Frag} {H : Hp} {x : V} {k s : Int} (h : KindAt K H x (some (k, s))) : 0 ≤ k ∧ ∃ a, x = .ref a ∧ SqX K H a [.int k, .int s] := by
  rcases h with ⟨tn, a, c, d⟩ | ⟨a, xs, e, h1, h2, h3⟩
  · cases d
  · obtain ⟨rfl, h0⟩ := kind_good h3.symm
    exact ⟨h0, a, e, h1⟩
def spPairQ (K : PySem.W.Frag) : Sp := fun vs H Q _ => ∃ x, vs = [x] ∧ ((∃ tn, Sm K H x tn ∧ (tn == "list" || tn == "tuple") = false ∧ ∀ H', Same H H' → Q (.bl false) H') ∨ ∃ (a : Addr) (xs : List V), x = .ref a ∧ SqX K H a xs ∧ ∀ H', Same H H' → Q (.bl (decide (xs.length = 2))) H')
def spCheckN (K : PySem.W.Frag) (CN : Addr) : Sp := fun vs H Q E => ∃ (v : V) (tn : String) (x : Str) (m : Int), vs = [v, .str x, .int m] ∧ Sm K H v tn ∧ x.length ≤ 1000 ∧ ((∃ i, v = .int i ∧ m ≤ i ∧ ∀ H', Same H H' → Q .non H') ∨ ((∀ i, v = .int i → i < m) ∧ rsd CN "word" (.str x) H E))
def spInHours : Sp := fun vs H Q _ => ∃ a b : Int, vs = [.int a, .int b] ∧ 0 ≤ b ∧ ∀ H', Same H H' → Q (.int (if b = 0 then a else a % b)) H'
def spGoesInto : Sp := fun vs H Q _ => ∃ a b : Int, vs = [.int a, .int b] ∧ 0 ≤ a ∧ ∀ H', Same H H' → Q (.bl (decide (a.natAbs ∣ b.natAbs))) H'
def spDivided : Sp := fun vs H Q _ => ∃ a b : Int, vs = [.int a, .int b] ∧ 0 ≤ a ∧ 0 ≤ b ∧ a < 2 ^ 64 ∧ b < 2 ^ 64 ∧ ∀ H', Same H H' → Q (.int ((dv a.natAbs b.natAbs : Nat) : Int)) H'
/-- the first of the things that is no kind is told -/
def spCheck (K : PySem.W.Frag) (CR : Addr) : Sp := fun vs H Q E => ∃ (t : Addr) (xs : List V) (bs : List (Option (Int × Int))), vs = [V.ref t] ∧ SqT K H t xs ∧ bs.length = xs.length ∧ (∀ (i : Nat) (x : V) (b : Option (Int × Int)), xs[i]? = some x → bs[i]? = some b → KindAt K H x b) ∧
  ((∀ b ∈ bs, b ≠ none) → ∀ H', Same H H' → Q .non H') ∧ ∀ i : Nat, bs[i]? = some none → (∀ j : Nat, j < i → bs[j]? ≠ some none) → rsd CR "place" (.int (i : Int)) H E
section
variable {P : Program} {w : World} {K : PySem.W.Frag} {mg : Str → Option Value} {base : Heap} {CN CR : Addr}
theorem scIsPair : FnScope ["thing"] ["thing"] (defScope sIsPair) := ⟨rfl, rfl, rfl, by decide +kernel, rfl, by decide +kernel, by decide +kernel⟩
theorem ok_is_pair {f : Addr} {fd : FuncData} (F : Fun K "is_pair" "is_pair" sIsPair f fd) (m_len : mg "len" = none) (D_isrow : Fok P w K mg base 1 "is_row" ["thing"] (spThing K fun _ n => n == "list" || n == "tuple")) : FnOk P w K mg base (L2.CX P w) 2 f fd ["thing"] (spPairQ K) := by
  refine F.okX scIsPair (fun vs H Q E h => ?_) (fun cdv A outer s H vs Q E hr h => ?_)
  · obtain ⟨x, rfl, _⟩ := h
    rfl
  obtain ⟨x, rfl, h⟩ := h
  refine ⟨_, (pss_one (ps_ret (pe_and (pe_f D_isrow (hr.mono (by decide)) (pa_cons (pv 0) pa_nil)) (pe_one (pe_cmpR op_eq (pe_callB (lenK K) (by rfl) m_len PySem.boot_len (pa_cons (pv 0) pa_nil)) pe_int (nomark _)))))), ?_⟩
  rcases h with ⟨tn, hS, hn, k⟩ | ⟨a, xs, rfl, ha, k⟩
  · walk_at "go"
    refine ⟨x, tn, rfl, hS, fun H1 s1 => ?_⟩
    walk_at "go"
    rw [hn]
    refine iteF ?_
    exact k H1 s1
  · obtain ⟨tn, hS, hy⟩ := ha.sm
    walk_at "go"
    refine ⟨.ref a, tn, rfl, hS, fun H1 s1 => ?_⟩
    walk_at "go"
    rw [hy]
    refine iteT ?_
    walk_at "go"
    refine r_lenX (ha.keep s1) ?_
    walk_at "go"
    have e : decide (((xs.length : Nat) : Int) = 2) = decide (xs.length = 2) := decide_eq_decide.mpr (by omega)
    rw [e]
    exact k H1 s1
theorem scCheckNum : FnScope ["number", "word", "least"] ["number", "word", "least"] (defScope sCheckNum) := ⟨rfl, rfl, rfl, by decide +kernel, rfl, by decide +kernel, by decide +kernel⟩
theorem ok_check_number {f : Addr} {fd : FuncData} {dvs : List V} {kws : List (Str × V)} (F : FunD K "check_number" "check_number" (defArgs sCheckNum) (defBody sCheckNum) (defScope sCheckNum) dvs kws f fd) (T : Errs P w K mg CN CR) (D_isint : Fok P w K mg base 1 "is_integer" ["thing"] (spThing K fun v _ => isI v)) :
    FnOk P w K mg base (L2.CX P w) 3 f fd ["number", "word", "least"] (spCheckN K CN) := by
  obtain ⟨⟨fB, TN, RN⟩, ⟨fR, TR, RR⟩, gN, gR⟩ := id T
  refine F.ok scCheckNum (fun vs H Q E h => ?_) (fun cdv A outer s H vs Q E hr h => ?_)
  · obtain ⟨v, tn, x, m, rfl, _⟩ := h
    rfl
  obtain ⟨v, tn, x, m, rfl, hS, hx, h⟩ := h
  have sc := scCheckNum
  refine ⟨_, (pss_one (ps_if (PW.pt (pw_or (pt_not (pt_val (pe_f D_isint (hr.mono (by decide)) (pa_cons (pv 0) pa_nil)))) (pw_or1 (pt_cmpR op_lt (pv 0) (pv 2) (nomark _))))) (pss_one (ps_raise rfl (takes_of rfl rfl rfl rfl) (pmk_er (k := 0) (okV := fun v => ∃ x : Str, v = .str x ∧ x.length ≤ 1000) TN RN (fun v u r hv => by obtain ⟨x, rfl, hl⟩ := hv; obtain ⟨t, rfl⟩ := r; exact ⟨x, t, rfl, hl⟩) (hr.mono (by decide)) (by rfl) T.gN (pa_cons (pv 1) pa_nil)))) pss_nil)), ?_⟩
  walk_at "go"
  refine ⟨v, tn, rfl, hS, fun H1 s1 => ?_⟩
  walk_at "go"
  rcases h with ⟨i, rfl, hm, k⟩ | ⟨hno, r⟩
  · refine ite_no rfl ?_
    walk_at "go"
    refine ite_no (decide_eq_false (by omega)) ?_
    walk_at "go"
    exact k H1 s1
  · have fin : ∀ H2, Same H H2 → (tMkE CN "word" (fun v => ∃ x : Str, v = .str x ∧ x.length ≤ 1000) (tCons (tVar 1) tNil)) [some v, some (.str x), some (.int m)] H2 (fun c d H' => E c d H') := fun H2 s2 => by
      walk_at "go"
      exact r_mkK ⟨x, rfl, hx⟩ fun d hd => rsd_new r s2 hd
    cases hI : isI v with
    | false =>
      refine ite_yes rfl ?_
      exact fin H1 s1
    | true =>
      cases v with
      | int i =>
        refine ite_no rfl ?_
        walk_at "go"
        refine ite_yes (decide_eq_true (hno i rfl)) ?_
        exact fin H1 s1
      | _ => cases hI
theorem scInHours : FnScope ["number", "hours"] ["number", "hours"] (defScope sInHours) := ⟨rfl, rfl, rfl, by decide +kernel, rfl, by decide +kernel, by decide +kernel⟩
theorem ok_in_hours {f : Addr} {fd : FuncData} (F : Fun K "in_hours" "in_hours" sInHours f fd) : FnOk P w K mg base (L2.CX P w) 1 f fd ["number", "hours"] spInHours := by
  refine F.okX scInHours (fun vs H Q E h => ?_) (fun cdv A outer s H vs Q E hr h => ?_)
  · obtain ⟨a, b, rfl, _⟩ := h
    rfl
  obtain ⟨a, b, rfl, hb, k⟩ := h
  refine ⟨_, (pss_one (ps_ret (pe_ifExp (pt_cmpR op_eq (pv 1) pe_int (nomark _)) (pv 0) (pe_op op_mod (pv 0) (pv 1))))), ?_⟩
  walk_at "go"
  have q := k H (Same.refl H)
  by_cases e : b = 0
  · rw [if_pos e] at q
    refine ite_yes (decide_eq_true e) ?_
    walk_at "go"
    exact q
  · rw [if_neg e] at q
    refine ite_no (decide_eq_false e) ?_
    walk_at "go"
    exact r_I (by omega) q
theorem scGoesInto : FnScope ["number", "other"] ["number", "other"] (defScope sGoesInto) := ⟨rfl, rfl, rfl, by decide +kernel, rfl, by decide +kernel, by decide +kernel⟩
theorem ok_goes_into {f : Addr} {fd : FuncData} (F : Fun K "goes_into" "goes_into" sGoesInto f fd) (D_inhours : Fok P w K mg base 1 "in_hours" ["number", "hours"] spInHours) : FnOk P w K mg base (L2.CX P w) 2 f fd ["number", "other"] spGoesInto := by
  refine F.okX scGoesInto (fun vs H Q E h => ?_) (fun cdv A outer s H vs Q E hr h => ?_)
  · obtain ⟨a, b, rfl, _⟩ := h
    rfl
  obtain ⟨a, b, rfl, ha, k⟩ := h
  refine ⟨_, (pss_one (ps_ret (pe_cmpR op_eq (pe_f D_inhours (hr.mono (by decide)) (pa_cons (pv 1) (pa_cons (pv 0) pa_nil))) pe_int (nomark _)))), ?_⟩
  walk_at "go"
  refine ⟨b, a, rfl, ha, fun H1 s1 => ?_⟩
  walk_at "go"
  have e : decide ((if a = 0 then b else b % a) = 0) = decide (a.natAbs ∣ b.natAbs) := by
    refine decide_eq_decide.mpr ?_
    rw [Int.natAbs_dvd_natAbs]
    by_cases z : a = 0
    · subst z
      rw [if_pos rfl, Int.zero_dvd]
    · rw [if_neg z, Int.dvd_iff_emod_eq_zero]
  rw [e]
  exact k H1 s1
theorem scDivided : FnScope ["number", "other"] ["number", "other"] (defScope sDivided) := ⟨rfl, rfl, rfl, by decide +kernel, rfl, by decide +kernel, by decide +kernel⟩
theorem ok_divided {f : Addr} {fd : FuncData} (F : Fun K "divided" "divided" sDivided f fd) (m_gcd : mg "gcd" = some (.builtin "math.gcd")) : FnOk P w K mg base (L2.CX P w) 1 f fd ["number", "other"] spDivided := by
  refine F.okX scDivided (fun vs H Q E h => ?_) (fun cdv A outer s H vs Q E hr h => ?_)
  · obtain ⟨a, b, rfl, _⟩ := h
    rfl
  obtain ⟨a, b, rfl, ha, hb, hl, hl2, k⟩ := h
  refine ⟨_, (pss_one (ps_ret (pe_ifExp (PW.pt (pw_and (pt_cmpR op_eq (pv 0) pe_int (nomark _)) (pw_and1 (pt_cmpR op_eq (pv 1) pe_int (nomark _))))) pe_int (pe_op op_fdivW (pv 0) (pe_callBfun cr_gcd (by rfl) m_gcd (pa_cons (pv 0) (pa_cons (pv 1) pa_nil))))))), ?_⟩
  obtain ⟨n, rfl⟩ : ∃ n : Nat, a = (n : Int) := ⟨a.toNat, by omega⟩
  obtain ⟨m, rfl⟩ : ∃ m : Nat, b = (m : Int) := ⟨b.toNat, by omega⟩
  have q := k H (Same.refl H)
  rw [Int.natAbs_natCast, Int.natAbs_natCast] at q
  have hn : n < 2 ^ 64 := by omega
  unfold dv at q
  have body : ¬ (n = 0 ∧ m = 0) → tOp (rI CDivW fun i j => V.int (i / j)) (tVar 0) (tCB rGcd (tCons (tVar 0) (tCons (tVar 1) tNil))) [some (V.int (n : Int)), some (V.int (m : Int))] H Q := fun z => by
    rw [if_neg z] at q
    walk_at "go"
    refine ⟨_, _, rfl, ?_⟩
    rw [Int.natAbs_natCast, Int.natAbs_natCast]
    have g0 : 0 < Nat.gcd n m := Nat.pos_of_ne_zero fun e => z ⟨(Nat.gcd_eq_zero_iff.mp e).1, (Nat.gcd_eq_zero_iff.mp e).2⟩
    refine r_I ?_ ?_
    · refine wide_div (b := 64) (by omega) ?_ (by decide) (by decide)
      rw [Int.natAbs_natCast]
      rcases Nat.eq_zero_or_pos n with e | e
      · subst e
        rw [Nat.gcd_zero_left]
        omega
      · exact Nat.lt_of_le_of_lt (Nat.gcd_le_left m e) (by omega)
    · rw [Int.natCast_ediv] at q
      exact q
  walk_at "go"
  by_cases e : n = 0
  · subst e
    refine ite_yes (by decide) ?_
    walk_at "go"
    by_cases e2 : m = 0
    · subst e2
      refine ite_yes (by decide) ?_
      walk_at "go"
      exact q
    · refine ite_no (decide_eq_false (by omega)) ?_
      exact body fun z => e2 z.2
  · refine ite_no (decide_eq_false (by omega)) ?_
    exact body fun z => e z.1
theorem scCheckKinds : FnScope ["kinds", "place", "kind"] ["kinds"] (defScope sCheckKinds) := ⟨rfl, rfl, rfl, by decide +kernel, rfl, by decide +kernel, by decide +kernel⟩
theorem ok_check_kinds {f : Addr} {fd : FuncData} (F : Fun K "check_kinds" "check_kinds" sCheckKinds f fd) (T : Errs P w K mg CN CR) (m_enumerate : mg "enumerate" = none) (D_ispair : Fok P w K mg base 2 "is_pair" ["thing"] (spPairQ K))
    (D_isnat : Fok P w K mg base 2 "is_natural" ["thing"] (spThing K fun v _ => isN v)) (D_isint : Fok P w K mg base 1 "is_integer" ["thing"] (spThing K fun v _ => isI v)) :
    FnOk P w K mg base (L2.CX P w) 3 f fd ["kinds"] (spCheck K CR) := by
  obtain ⟨⟨fB, TN, RN⟩, ⟨fR, TR, RR⟩, gN, gR⟩ := id T
  refine F.okX scCheckKinds (fun vs H Q E h => ?_) (fun cdv A outer s H vs Q E hr h => ?_)
  · obtain ⟨t, xs, bs, rfl, _⟩ := h
    rfl
  obtain ⟨t, xs, bs, rfl, hT, hl, hk, k1, k2⟩ := h
  have sc := scCheckKinds
  refine ⟨_, (pss_one (ps_for (passes_of rfl) rfl (pi_enumT (by rfl) m_enumerate (pa_cons (pv 0) pa_nil)) (pg_tup (by rfl) (pgs_cons (pg_name (i := 1) sc.nd rfl (Or.inl rfl)) (pgs_cons (pg_name (i := 2) sc.nd rfl (Or.inl rfl)) pgs_nil))) (pss_one (ps_if (PW.pt (pw_or (pt_not (pt_val (pe_f D_ispair (hr.mono (by decide)) (pa_cons (pv 2) pa_nil)))) (pw_or (pt_not (pt_val (pe_f D_isnat (hr.mono (by decide)) (pa_cons (pe_ix (ixA K) (pv 2) pe_int (fun _ _ => rfl)) pa_nil)))) (pw_or1 (pt_not (pt_val (pe_f D_isint (hr.mono (by decide)) (pa_cons (pe_ix (ixA K) (pv 2) pe_int (fun _ _ => rfl)) pa_nil)))))))) (pss_one (ps_raise rfl (takes_of rfl rfl rfl rfl) (pmk_er (k := 0) (okV := fun _ => True) TR RR (fun _ _ _ _ => trivial) (hr.mono (by decide)) (by rfl) T.gR (pa_cons (pv 1) pa_nil)))) pss_nil)))), ?_⟩
  walk_at "go"
  refine r_enumT ?_
  walk_at "go"
  refine r_enumK hT ?_
  refine r_forE (ys := xs) (fun i σ H' => ∃ v1 v2, σ = [some (V.ref t), v1, v2] ∧ Same H H' ∧ ∀ j : Nat, j < i → bs[j]? ≠ some none) ⟨none, none, rfl, Same.refl H, fun j hj => by omega⟩ ?_ ?_ ?_
  · rintro i σ H' hi ⟨v1, v2, rfl, s1, _⟩
    exact same_t s1 hT
  · rintro i x σ H' T' hx ⟨v1, v2, rfl, s1, hn⟩ hT'
    have hi : i < xs.length := (List.getElem?_eq_some_iff.mp hx).1
    obtain ⟨b, hb⟩ : ∃ b, bs[i]? = some b := ⟨bs[i], List.getElem?_eq_getElem (by omega)⟩
    have s2 : Same H (upd H' T' (.tup [V.int (i : Nat), x])) := s1.trans (same_new hT')
    refine ⟨T', _, rfl, SqT.of upd_same, rfl, ?_⟩
    refine r_gC ?_
    walk_at "go"
    refine ⟨rfl, ?_⟩
    walk_at "go"
    generalize upd H' T' (.tup [V.int (i : Nat), x]) = H2 at s2
    have hK : KindAt K H2 x b := (hk i x b hx hb).keep s2
    have fin : b = none → ∀ H3, Same H2 H3 → (tMkE CR "place" (fun _ => True) (tCons (tVar 1) tNil)) [some (V.ref t), some (V.int (i : Nat)), some x] H3 (fun c d H' => E c d H') := fun e H3 s3 => by
      subst e
      walk_at "go"
      exact r_mkK trivial fun d hd => rsd_new (k2 i hb hn) (s2.trans s3) hd
    have go : b ≠ none → ∀ H3, Same H2 H3 → ∃ v1 v2, [some (V.ref t), some (V.int (i : Nat)), some x] = [some (V.ref t), v1, v2] ∧ Same H H3 ∧ ∀ j : Nat, j < i + 1 → bs[j]? ≠ some none := fun e H3 s3 => ⟨_, _, rfl, s2.trans s3, fun j hj => by
      rcases Nat.lt_or_ge j i with h | h
      · exact hn j h
      · have : j = i := by omega
        subst this
        rw [hb]
        exact fun z => e (Option.some.inj z)⟩
    refine ⟨x, rfl, ?_⟩
    rcases hK with ⟨tn, hS, hno, rfl⟩ | ⟨a, ys, rfl, ha, hsm, hb2⟩
    · refine .inl ⟨tn, hS, hno, fun H3 s3 => ?_⟩
      walk_at "go"
      refine ite_yes rfl ?_
      exact fin rfl H3 s3
    · refine .inr ⟨a, ys, rfl, ha, fun H3 s3 => ?_⟩
      walk_at "go"
      by_cases h2 : ys.length = 2
      · obtain ⟨u, v, rfl⟩ : ∃ u v, ys = [u, v] := by
          match ys, h2 with
          | [u, v], _ => exact ⟨u, v, rfl⟩
        refine ite_no (by rw [decide_eq_true h2]; rfl) ?_
        walk_at "go"
        refine r_ixA (ha.keep s3) (v := u) rfl ?_
        walk_at "go"
        obtain ⟨tu, hu⟩ := hsm u (List.mem_cons_self ..)
        obtain ⟨tv, hv⟩ := hsm v (by simp)
        refine ⟨u, tu, rfl, sm_ext s3 hu, fun H4 s4 => ?_⟩
        walk_at "go"
        cases hN : isN u with
        | false =>
          refine ite_yes rfl ?_
          refine fin ?_ H4 (s3.trans s4)
          rw [hb2]
          cases u with
          | int z =>
            have hz : ¬ 0 ≤ z := of_decide_eq_false hN
            cases v with
            | int y => exact if_neg hz
            | _ => rfl
          | _ => rfl
        | true =>
          refine ite_no rfl ?_
          walk_at "go"
          refine r_ixA (ha.keep (s3.trans s4)) (v := v) rfl ?_
          walk_at "go"
          refine ⟨v, tv, rfl, sm_ext (s3.trans s4) hv, fun H5 s5 => ?_⟩
          walk_at "go"
          have s35 := (s3.trans s4).trans s5
          cases u with
          | int z =>
            have hz : 0 ≤ z := of_decide_eq_true hN
            cases v with
            | int y =>
              refine ite_no rfl ?_
              walk_at "go"
              refine go ?_ H5 s35
              rw [hb2]
              show (if 0 ≤ z then some (z, y) else none) ≠ none
              rw [if_pos hz]
              intro q
              cases q
            | _ => exact ite_yes rfl (fin hb2 H5 s35)
          | _ => cases hN
      · refine ite_yes (by rw [decide_eq_false h2]; rfl) ?_
        refine fin ?_ H3 s3
        rw [hb2]
        unfold kindOf
        split
        · exact absurd rfl h2
        · rfl
  · rintro σ H' ⟨v1, v2, rfl, s1, hn⟩
    walk_at "go"
    refine k1 (fun b hb e => ?_) H' s1
    obtain ⟨j, hj⟩ := List.getElem?_of_mem hb
    subst e
    exact hn j (by have := (List.getElem?_eq_some_iff.mp hj).1; omega) hj
end
end K63
namespace K63
open PySem L2 Er KG
/-- one step of a plain reading -/
local macro_rules | `(tactic| walk_at "step") => `(tactic| first
  | with_reducible refine r_seq ?_ | with_reducible refine r_nx ?_ | with_reducible refine r_asgN ?_ | with_reducible refine r_asgS ?_ | with_reducible refine r_asgT ?_ | with_reducible refine r_ifS ?_
  | with_reducible refine r_ret ?_ | with_reducible refine r_retN ?_ | with_reducible refine r_drop ?_ | with_reducible refine r_test ?_ | with_reducible refine r_B ?_ | with_reducible refine r_not ?_
  | with_reducible refine r_and ?_ | with_reducible refine r_or ?_ | with_reducible refine r_andV ?_ | with_reducible refine r_orV ?_ | with_reducible refine r_notV ?_
  | ((with_reducible refine' r_var ?e ?_); (case e => exact rfl)) | with_reducible refine r_c ?_ | with_reducible refine r_op ?_ | with_reducible refine r_un ?_
  | with_reducible refine r_I0 ?_ | with_reducible refine r_eqI ?_ | with_reducible refine r_neI ?_ | with_reducible refine r_bl ?_ | with_reducible refine r_nil ?_ | with_reducible refine r_cons ?_
  | with_reducible refine r_cb ?_ | with_reducible refine r_call ?_ | with_reducible refine r_tup ?_ | with_reducible refine r_lst ?_ | with_reducible refine r_fld ?_ | with_reducible refine r_bm ?_ | with_reducible refine r_bm0 ?_
  | with_reducible refine r_for ?_ | with_reducible refine r_rng ?_ | with_reducible refine r_rng2 ?_ | with_reducible refine r_lstI ?_ | with_reducible refine r_tupI ?_ | with_reducible refine r_lc ?_
  | with_reducible refine r_augS ?_ | with_reducible refine r_ipI ?_
  | with_reducible refine r_meth ?_ | with_reducible refine r_prop ?_ | with_reducible refine r_make ?_ | with_reducible refine r_din ?_ | with_reducible refine r_dnin ?_ | with_reducible refine r_dput ?_ | with_reducible refine r_dget ?_
  | with_reducible refine r_gN ?_ | with_reducible refine r_tsl ?_ | with_reducible refine r_noP ?_ | with_reducible refine r_part ?_ | with_reducible refine r_pI ?_ | with_reducible refine r_tif ?_ | with_reducible refine r_SL ?_ | with_reducible refine r_gC ?_ | with_reducible refine r_U ?_ | with_reducible refine r_sfld ?_ | with_reducible refine r_dnew ?_ | with_reducible refine r_keys ?_
  | with_reducible refine r_mkE ?_ | with_reducible refine iteT ?_ | with_reducible refine iteF ?_
  | with_reducible refine r_int ?_ | with_reducible refine r_min2 ?_ | with_reducible refine r_isN ?_ | with_reducible refine r_notN ?_)
/-- as far as it goes by itself -/
local macro_rules | `(tactic| walk_at "go") => `(tactic| ((repeat walk_at "step"); (try dsimp only)))


def spGives (K : PySem.W.Frag) (CR : Addr) : Sp := fun vs H Q E => ∃ (x y : V) (b1 b2 : Option (Int × Int)), vs = [x, y] ∧ KindAt K H x b1 ∧ KindAt K H y b2 ∧ (b1 = none → rsd CR "place" (.int 0) H E) ∧ (b1 ≠ none → b2 = none → rsd CR "place" (.int 1) H E) ∧
  ∀ k s l t : Int, b1 = some (k, s) → b2 = some (l, t) → k < 2 ^ 60 ∧ s.natAbs < 2 ^ 60 ∧ l < 2 ^ 60 ∧ ∀ H', Same H H' → Q (.bl (gives k.natAbs s.natAbs l.natAbs t.natAbs)) H'
def spSums (K : PySem.W.Frag) (CN CR : Addr) : Sp := fun vs H Q E => ∃ (x y h : V) (tn : String) (b1 b2 : Option (Int × Int)), vs = [x, y, h] ∧ Sm K H h tn ∧ KindAt K H x b1 ∧ KindAt K H y b2 ∧ (b1 = none → rsd CR "place" (.int 0) H E) ∧ (b1 ≠ none → b2 = none → rsd CR "place" (.int 1) H E) ∧
  ∀ k s l t : Int, b1 = some (k, s) → b2 = some (l, t) → (∃ n : Int, h = .int n ∧ 2 ≤ n ∧ n < 2 ^ 60 ∧ k < 2 ^ 60 ∧ s.natAbs < 2 ^ 60 ∧ l < 2 ^ 60 ∧ ∀ H', Same H H' → Q (.bl (gives k.natAbs s.natAbs (Nat.gcd l.natAbs n.natAbs) t.natAbs)) H') ∨ ((∀ n : Int, h = .int n → n < 2) ∧ rsd CN "word" (.str "hours") H E)
def spAlone (K : PySem.W.Frag) (CR : Addr) : Sp := fun vs H Q E => ∃ (x : V) (b : Option (Int × Int)), vs = [x] ∧ KindAt K H x b ∧ (b = none → rsd CR "place" (.int 0) H E) ∧ ∀ k s : Int, b = some (k, s) → ∀ H', Same H H' → Q (.bl (decide (k.natAbs ∣ s.natAbs))) H'
section
variable {P : Program} {w : World} {K : PySem.W.Frag} {mg : Str → Option Value} {base : Heap} {CN CR : Addr}
theorem two_items {H : Hp} {x y : V} {b1 b2 : Option (Int × Int)} (h1 : KindAt K H x b1) (h2 : KindAt K H y b2) (i : Nat) (z : V) (b : Option (Int × Int)) (e1 : [x, y][i]? = some z) (e2 : [b1, b2][i]? = some b) : KindAt K H z b := by
  rcases i with _ | _ | i
  · cases e1; cases e2; exact h1
  · cases e1; cases e2; exact h2
  · simp at e1
theorem two_bad {H : Hp} {b1 b2 : Option (Int × Int)} {E : XK} (r0 : b1 = none → rsd CR "place" (.int 0) H E) (r1 : b1 ≠ none → b2 = none → rsd CR "place" (.int 1) H E) (i : Nat) (e : [b1, b2][i]? = some none) (g : ∀ j : Nat, j < i → [b1, b2][j]? ≠ some none) : rsd CR "place" (.int (i : Int)) H E := by
  rcases i with _ | _ | i
  · exact r0 (Option.some.inj e)
  · exact r1 (fun z => g 0 (by decide) (by rw [z]; rfl)) (Option.some.inj e)
  · simp at e
theorem two_some {b1 b2 : Option (Int × Int)} (g : ∀ b ∈ [b1, b2], b ≠ none) : ∃ k s l t : Int, b1 = some (k, s) ∧ b2 = some (l, t) := by
  have g1 := g b1 (List.mem_cons_self ..)
  have g2 := g b2 (by simp)
  cases b1 with
  | none => exact absurd rfl g1
  | some p =>
    cases b2 with
    | none => exact absurd rfl g2
    | some q => exact ⟨p.1, p.2, q.1, q.2, rfl, rfl⟩
theorem gives_cast (k s l t : Int) : decide ((((Nat.gcd (s * ((dv l.natAbs k.natAbs : Nat) : Int)).natAbs l.natAbs : Nat) : Int)).natAbs ∣ t.natAbs) = gives k.natAbs s.natAbs l.natAbs t.natAbs := by
  rw [Int.natAbs_natCast, Int.natAbs_mul, Int.natAbs_natCast]
  rfl
theorem scGives : FnScope ["one", "other"] ["one", "other"] (defScope sGives) := ⟨rfl, rfl, rfl, by decide +kernel, rfl, by decide +kernel, by decide +kernel⟩
theorem ok_gives {f : Addr} {fd : FuncData} (F : Fun K "loop_gives" "loop_gives" sGives f fd) (m_gcd : mg "gcd" = some (.builtin "math.gcd")) (D_checkkinds : Fok P w K mg base 3 "check_kinds" ["kinds"] (spCheck K CR))
    (D_goesinto : Fok P w K mg base 2 "goes_into" ["number", "other"] spGoesInto) (D_divided : Fok P w K mg base 1 "divided" ["number", "other"] spDivided) : FnOk P w K mg base (L2.CX P w) 4 f fd ["one", "other"] (spGives K CR) := by
  refine F.okX scGives (fun vs H Q E h => ?_) (fun cdv A outer s H vs Q E hr h => ?_)
  · obtain ⟨x, y, b1, b2, rfl, _⟩ := h
    rfl
  obtain ⟨x, y, b1, b2, rfl, h1, h2, r0, r1, k⟩ := h
  refine ⟨_, (pss_cons (ps_expr (pe_fX D_checkkinds (hr.mono (by decide)) (takes_of rfl rfl rfl rfl) (pa_cons (pe_tup (pa_cons (pv 0) (pa_cons (pv 1) pa_nil))) pa_nil)))
      (pss_one (ps_ret (pe_f D_goesinto (hr.mono (by decide)) (pa_cons (pe_callBfun cr_gcd (by rfl) m_gcd (pa_cons (pe_op op_mul (pe_ix (ixA K) (pv 0) pe_int (fun _ _ => rfl)) (pe_f D_divided (hr.mono (by decide)) (pa_cons (pe_ix (ixA K) (pv 1) pe_int (fun _ _ => rfl)) (pa_cons (pe_ix (ixA K) (pv 0) pe_int (fun _ _ => rfl)) pa_nil)))) (pa_cons (pe_ix (ixA K) (pv 1) pe_int (fun _ _ => rfl)) pa_nil))) (pa_cons (pe_ix (ixA K) (pv 1) pe_int (fun _ _ => rfl)) pa_nil)))))), ?_⟩
  walk_at "go"
  refine ⟨by show 2 ≤ sizeLine; decide, fun p hp => ?_⟩
  walk_at "go"
  have s1 := same_new (o := .tup [x, y]) hp
  refine ⟨p, [x, y], [b1, b2], rfl, SqT.of upd_same, rfl, two_items (h1.keep s1) (h2.keep s1), fun g H2 s2 => ?_, two_bad (fun e => rsd_keep s1 (r0 e)) fun e e2 => rsd_keep s1 (r1 e e2)⟩
  have s12 := s1.trans s2
  obtain ⟨k1, s3, l, t, rfl, rfl⟩ := two_some g
  obtain ⟨b1', b2', b3', kk⟩ := k k1 s3 l t rfl rfl
  obtain ⟨hk, a1, rfl, ha1⟩ := h1.good
  obtain ⟨hl, a2, rfl, ha2⟩ := h2.good
  walk_at "go"
  refine r_ixA (ha1.keep s12) (v := .int s3) rfl ?_
  walk_at "go"
  refine r_ixA (ha2.keep s12) (v := .int l) rfl ?_
  walk_at "go"
  refine r_ixA (ha1.keep s12) (v := .int k1) rfl ?_
  walk_at "go"
  refine ⟨l, k1, rfl, hl, hk, by omega, by omega, fun H3 s3' => ?_⟩
  walk_at "go"
  refine r_I (.inl ⟨by omega, by omega⟩) ?_
  walk_at "go"
  refine r_ixA (ha2.keep (s12.trans s3')) (v := .int l) rfl ?_
  walk_at "go"
  refine ⟨_, _, rfl, ?_⟩
  walk_at "go"
  refine r_ixA (ha2.keep (s12.trans s3')) (v := .int t) rfl ?_
  walk_at "go"
  refine ⟨_, t, rfl, Int.natCast_nonneg _, fun H4 s4 => ?_⟩
  rw [gives_cast]
  exact kk H4 ((s12.trans s3').trans s4)
theorem scSums : FnScope ["one", "other", "hours", "shared"] ["one", "other", "hours"] (defScope sSums) := ⟨rfl, rfl, rfl, by decide +kernel, rfl, by decide +kernel, by decide +kernel⟩
theorem ok_sums {f : Addr} {fd : FuncData} {t2 : Tok} (F : Fun K "loop_sums" "loop_sums" sSums f fd) (m_gcd : mg "gcd" = some (.builtin "math.gcd")) (m_LEAST : mg "LEAST_HOURS" = some (.int 2 t2)) (D_checkkinds : Fok P w K mg base 3 "check_kinds" ["kinds"] (spCheck K CR)) (D_checknumber : Fok P w K mg base 3 "check_number" ["number", "word", "least"] (spCheckN K CN))
    (D_goesinto : Fok P w K mg base 2 "goes_into" ["number", "other"] spGoesInto) (D_divided : Fok P w K mg base 1 "divided" ["number", "other"] spDivided) : FnOk P w K mg base (L2.CX P w) 4 f fd ["one", "other", "hours"] (spSums K CN CR) := by
  refine F.okX scSums (fun vs H Q E h => ?_) (fun cdv A outer s H vs Q E hr h => ?_)
  · obtain ⟨x, y, hv, tn, b1, b2, rfl, _⟩ := h
    rfl
  obtain ⟨x, y, hv, tn, b1, b2, rfl, hS, h1, h2, r0, r1, k⟩ := h
  have sc := scSums
  refine ⟨_, (pss_cons (ps_expr (pe_fX D_checkkinds (hr.mono (by decide)) (takes_of rfl rfl rfl rfl) (pa_cons (pe_tup (pa_cons (pv 0) (pa_cons (pv 1) pa_nil))) pa_nil)))
      (pss_cons (ps_expr (pe_fX D_checknumber (hr.mono (by decide)) (takes_of rfl rfl rfl rfl) (pa_cons (pv 2) (pa_cons pe_str (pa_cons (pe_glob (v := .int 2) (by rfl) m_LEAST ⟨_, rfl⟩) pa_nil)))))
      (pss_cons (ps_set (i := 3) sc.nd rfl (Or.inl rfl) (pe_callBfun cr_gcd (by rfl) m_gcd (pa_cons (pe_ix (ixA K) (pv 1) pe_int (fun _ _ => rfl)) (pa_cons (pv 2) pa_nil))))
      (pss_one (ps_ret (pe_f D_goesinto (hr.mono (by decide)) (pa_cons (pe_callBfun cr_gcd (by rfl) m_gcd (pa_cons (pe_op op_mul (pe_ix (ixA K) (pv 0) pe_int (fun _ _ => rfl)) (pe_f D_divided (hr.mono (by decide)) (pa_cons (pv 3) (pa_cons (pe_ix (ixA K) (pv 0) pe_int (fun _ _ => rfl)) pa_nil)))) (pa_cons (pv 3) pa_nil))) (pa_cons (pe_ix (ixA K) (pv 1) pe_int (fun _ _ => rfl)) pa_nil)))))))), ?_⟩
  walk_at "go"
  refine ⟨by show 2 ≤ sizeLine; decide, fun p hp => ?_⟩
  walk_at "go"
  have s1 := same_new (o := .tup [x, y]) hp
  refine ⟨p, [x, y], [b1, b2], rfl, SqT.of upd_same, rfl, two_items (h1.keep s1) (h2.keep s1), fun g H2 s2 => ?_, two_bad (fun e => rsd_keep s1 (r0 e)) fun e e2 => rsd_keep s1 (r1 e e2)⟩
  have s12 := s1.trans s2
  obtain ⟨k1, s3, l, t, rfl, rfl⟩ := two_some g
  obtain ⟨hk, a1, rfl, ha1⟩ := h1.good
  obtain ⟨hl, a2, rfl, ha2⟩ := h2.good
  walk_at "go"
  refine ⟨hv, tn, "hours", 2, rfl, sm_ext s12 hS, by decide, ?_⟩
  rcases k k1 s3 l t rfl rfl with ⟨n, rfl, n2, nl, b1', b2', b3', kk⟩ | ⟨hno, r⟩
  rotate_left
  · exact .inr ⟨hno, rsd_keep s12 r⟩
  refine .inl ⟨n, rfl, n2, fun H3 s3' => ?_⟩
  have s13 := s12.trans s3'
  walk_at "go"
  refine r_ixA (ha2.keep s13) (v := .int l) rfl ?_
  walk_at "go"
  refine ⟨_, _, rfl, ?_⟩
  walk_at "go"
  refine r_ixA (ha1.keep s13) (v := .int s3) rfl ?_
  walk_at "go"
  refine r_ixA (ha1.keep s13) (v := .int k1) rfl ?_
  walk_at "go"
  have gl : Nat.gcd l.natAbs n.natAbs < 2 ^ 60 := Nat.lt_of_le_of_lt (Nat.gcd_le_right l.natAbs (by omega)) (by omega)
  refine ⟨_, k1, rfl, Int.natCast_nonneg _, hk, by omega, by omega, fun H4 s4 => ?_⟩
  walk_at "go"
  refine r_I (.inl ⟨by omega, by omega⟩) ?_
  walk_at "go"
  refine ⟨_, _, rfl, ?_⟩
  walk_at "go"
  refine r_ixA (ha2.keep (s13.trans s4)) (v := .int t) rfl ?_
  walk_at "go"
  refine ⟨_, t, rfl, Int.natCast_nonneg _, fun H5 s5 => ?_⟩
  rw [gives_cast, Int.natAbs_natCast]
  exact kk H5 ((s13.trans s4).trans s5)
theorem scAlone : FnScope ["kind"] ["kind"] (defScope sAlone) := ⟨rfl, rfl, rfl, by decide +kernel, rfl, by decide +kernel, by decide +kernel⟩
theorem ok_alone {f : Addr} {fd : FuncData} (F : Fun K "alone" "alone" sAlone f fd) (D_checkkinds : Fok P w K mg base 3 "check_kinds" ["kinds"] (spCheck K CR)) (D_goesinto : Fok P w K mg base 2 "goes_into" ["number", "other"] spGoesInto) :
    FnOk P w K mg base (L2.CX P w) 4 f fd ["kind"] (spAlone K CR) := by
  refine F.okX scAlone (fun vs H Q E h => ?_) (fun cdv A outer s H vs Q E hr h => ?_)
  · obtain ⟨x, b, rfl, _⟩ := h
    rfl
  obtain ⟨x, b, rfl, h1, r0, k⟩ := h
  refine ⟨_, (pss_cons (ps_expr (pe_fX D_checkkinds (hr.mono (by decide)) (takes_of rfl rfl rfl rfl) (pa_cons (pe_tup (pa_cons (pv 0) pa_nil)) pa_nil)))
      (pss_one (ps_ret (pe_f D_goesinto (hr.mono (by decide)) (pa_cons (pe_ix (ixA K) (pv 0) pe_int (fun _ _ => rfl)) (pa_cons (pe_ix (ixA K) (pv 0) pe_int (fun _ _ => rfl)) pa_nil)))))), ?_⟩
  walk_at "go"
  refine ⟨by show 1 ≤ sizeLine; decide, fun p hp => ?_⟩
  walk_at "go"
  have s1 := same_new (o := .tup [x]) hp
  refine ⟨p, [x], [b], rfl, SqT.of upd_same, rfl, fun i z c e1 e2 => ?_, fun g H2 s2 => ?_, fun i e _ => ?_⟩
  · rcases i with _ | i
    · cases e1; cases e2; exact h1.keep s1
    · simp at e1
  · have s12 := s1.trans s2
    obtain ⟨k1, s3, rfl⟩ : ∃ k1 s3 : Int, b = some (k1, s3) := by
      cases b with
      | none => exact absurd rfl (g none (List.mem_cons_self ..))
      | some q => exact ⟨q.1, q.2, rfl⟩
    obtain ⟨hk, a1, rfl, ha1⟩ := h1.good
    walk_at "go"
    refine r_ixA (ha1.keep s12) (v := .int k1) rfl ?_
    walk_at "go"
    refine r_ixA (ha1.keep s12) (v := .int s3) rfl ?_
    walk_at "go"
    exact ⟨k1, s3, rfl, hk, fun H4 s4 => k k1 s3 rfl H4 (s12.trans s4)⟩
  · rcases i with _ | i
    · exact rsd_keep s1 (r0 (Option.some.inj e))
    · simp at e
end
end K63
namespace K63
open PySem L2 Er KG
def rMax2 : List V → Hp → VK → Prop := fun xs H Q => ∃ i j, xs = [.int i, .int j] ∧ Q (.int (if j > i then j else i)) H
theorem c_max2 {X : Cx} (hc : X.calm = true) : CallR X (.builtin "max") rMax2 := call_max2 hc
theorem r_max2 {i j : Int} {H : Hp} {Q : VK} (q : Q (.int (if j > i then j else i)) H) : rMax2 [.int i, .int j] H Q := ⟨i, j, rfl, q⟩
/-- one step of a plain reading -/
local macro_rules | `(tactic| walk_at "step") => `(tactic| first
  | with_reducible refine r_seq ?_ | with_reducible refine r_nx ?_ | with_reducible refine r_asgN ?_ | with_reducible refine r_asgS ?_ | with_reducible refine r_asgT ?_ | with_reducible refine r_ifS ?_
  | with_reducible refine r_ret ?_ | with_reducible refine r_retN ?_ | with_reducible refine r_drop ?_ | with_reducible refine r_test ?_ | with_reducible refine r_B ?_ | with_reducible refine r_not ?_
  | with_reducible refine r_and ?_ | with_reducible refine r_or ?_ | with_reducible refine r_andV ?_ | with_reducible refine r_orV ?_ | with_reducible refine r_notV ?_
  | ((with_reducible refine' r_var ?e ?_); (case e => exact rfl)) | with_reducible refine r_c ?_ | with_reducible refine r_op ?_ | with_reducible refine r_un ?_
  | with_reducible refine r_I0 ?_ | with_reducible refine r_eqI ?_ | with_reducible refine r_neI ?_ | with_reducible refine r_bl ?_ | with_reducible refine r_nil ?_ | with_reducible refine r_cons ?_
  | with_reducible refine r_cb ?_ | with_reducible refine r_call ?_ | with_reducible refine r_tup ?_ | with_reducible refine r_lst ?_ | with_reducible refine r_fld ?_ | with_reducible refine r_bm ?_ | with_reducible refine r_bm0 ?_
  | with_reducible refine r_for ?_ | with_reducible refine r_rng ?_ | with_reducible refine r_rng2 ?_ | with_reducible refine r_lstI ?_ | with_reducible refine r_tupI ?_ | with_reducible refine r_lc ?_
  | with_reducible refine r_augS ?_ | with_reducible refine r_ipI ?_
  | with_reducible refine r_meth ?_ | with_reducible refine r_prop ?_ | with_reducible refine r_make ?_ | with_reducible refine r_din ?_ | with_reducible refine r_dnin ?_ | with_reducible refine r_dput ?_ | with_reducible refine r_dget ?_
  | with_reducible refine r_gN ?_ | with_reducible refine r_tsl ?_ | with_reducible refine r_noP ?_ | with_reducible refine r_part ?_ | with_reducible refine r_pI ?_ | with_reducible refine r_tif ?_ | with_reducible refine r_SL ?_ | with_reducible refine r_gC ?_ | with_reducible refine r_U ?_ | with_reducible refine r_sfld ?_ | with_reducible refine r_dnew ?_ | with_reducible refine r_keys ?_
  | with_reducible refine r_mkE ?_ | with_reducible refine iteT ?_ | with_reducible refine iteF ?_
  | with_reducible refine r_int ?_ | with_reducible refine r_min2 ?_ | with_reducible refine r_isN ?_ | with_reducible refine r_notN ?_)
/-- as far as it goes by itself -/
local macro_rules | `(tactic| walk_at "go") => `(tactic| ((repeat walk_at "step"); (try dsimp only)))


/-- a row of three powers, or None -/
def PwAt (H : Hp) (v : V) (o : Pw) : Prop := (v = .non ∧ o = none) ∨ ∃ p f, v = .ref p ∧ o = some f ∧ H p = some (.lst [.int (f 0 : Nat), .int (f 1 : Nat), .int (f 2 : Nat)])
theorem PwAt.keep {H H' : Hp} {v : V} {o : Pw} (h : PwAt H v o) (s : Same H H') : PwAt H' v o := by
  rcases h with h | ⟨p, f, e1, e2, h⟩
  · exact .inl h
  · exact .inr ⟨p, f, e1, e2, s _ _ h⟩
theorem PwAt.but {H H' : Hp} {v : V} {o : Pw} {a : Addr} (h : PwAt H v o) (s : SameBut a H H') (n : v ≠ .ref a) : PwAt H' v o := by
  rcases h with h | ⟨p, f, e1, e2, h⟩
  · exact .inl h
  · exact .inr ⟨p, f, e1, e2, s _ _ (fun z => n (by rw [e1, z])) h⟩
def f3 (a b c : Nat) : Nat → Nat
  | 0 => a
  | 1 => b
  | _ => c
theorem three_new {H : Hp} {p : Addr} {a b c : Int} (ha : 0 ≤ a) (hb : 0 ≤ b) (hc : 0 ≤ c) : PwAt (upd H p (.lst [.int a, .int b, .int c])) (.ref p) (some (f3 a.toNat b.toNat c.toNat)) := by
  refine .inr ⟨p, _, rfl, rfl, ?_⟩
  rw [upd_same]
  show _ = some (HO.lst [V.int (a.toNat : Nat), V.int (b.toNat : Nat), V.int (c.toNat : Nat)])
  rw [Int.toNat_of_nonneg ha, Int.toNat_of_nonneg hb, Int.toNat_of_nonneg hc]
theorem bd_f3 {n a b c : Nat} (ha : a ≤ n) (hb : b ≤ n) (hc : c ≤ n) : Bd n (some (f3 a b c)) := fun f e => by
  cases e
  exact ⟨ha, hb, hc⟩
theorem bd_none {n : Nat} : Bd n none := fun f e => by cases e
theorem non_dec {v : V} {o : Pw} {H : Hp} (h : PwAt H v o) : decide (v = .non) = o.isNone := by
  rcases h with ⟨rfl, rfl⟩ | ⟨p, f, rfl, rfl, _⟩
  · rfl
  · rfl
/-- a tuple of two such -/
def KRow (K : PySem.W.Frag) (H : Hp) (x : V) (A B : Pw) : Prop := ∃ a v1 v2, x = .ref a ∧ SqT K H a [v1, v2] ∧ PwAt H v1 A ∧ PwAt H v2 B
theorem KRow.keep {K : PySem.W.Frag} {H H' : Hp} {x : V} {A B : Pw} (h : KRow K H x A B) (s : Same H H') : KRow K H' x A B := by
  obtain ⟨a, v1, v2, e, h1, h2, h3⟩ := h
  exact ⟨a, v1, v2, e, same_t s h1, h2.keep s, h3.keep s⟩
theorem worth_lt {o : Pw} (h : Bd 12 o) : worth o < 2 ^ 60 := by
  cases o with
  | none => show 0 < _; decide
  | some f =>
    obtain ⟨a, b, c⟩ := bd_some h
    show W f < _
    unfold W
    have h1 : 2 ^ f 0 ≤ 2 ^ 12 := Nat.pow_le_pow_right (by decide) a
    have h2 : 3 ^ f 1 ≤ 3 ^ 12 := Nat.pow_le_pow_right (by decide) b
    have h3 : 5 ^ f 2 ≤ 5 ^ 12 := Nat.pow_le_pow_right (by decide) c
    have h4 := Nat.mul_le_mul (Nat.mul_le_mul h1 h2) h3
    exact Nat.lt_of_le_of_lt h4 (by decide)
def spPowers : Sp := fun vs H Q _ => ∃ (a : Addr) (ns : List Int) (m : Int), vs = [.ref a, .int m] ∧ H a = some (.lst (ns.map V.int)) ∧ ns.length ≤ 100000 ∧
  ∀ (v : V) (o : Pw) (ns' : List Int) (H' : Hp), PwAt H' v o → (∀ p, v = .ref p → H p = none) → Bd 12 o → (m ≠ 0 → o ≠ none) → ns'.length ≤ ns.length → H' a = some (.lst (ns'.map V.int)) → SameBut a H H' → Q v H'
def spWorth : Sp := fun vs H Q _ => ∃ (v : V) (o : Pw), vs = [v] ∧ PwAt H v o ∧ Bd 12 o ∧ ∀ H', Same H H' → Q (.int ((worth o : Nat) : Int)) H'
def spPower : Sp := fun vs H Q _ => ∃ (v : V) (o : Pw) (k : Nat), vs = [v, .int (k : Int)] ∧ PwAt H v o ∧ k < 3 ∧ ∀ H', Same H H' → Q (.int ((pw o k : Nat) : Int)) H'
def spGoes (K : PySem.W.Frag) : Sp := fun vs H Q _ => ∃ (x y : V) (A B C D : Pw), vs = [x, y] ∧ KRow K H x A B ∧ KRow K H y C D ∧ ∀ (H' : Hp) (b : Bool), Same H H' → (b = true ↔ GO A B C D) → Q (.bl b) H'
def spGoesMod (K : PySem.W.Frag) : Sp := fun vs H Q _ => ∃ (x y z : V) (A B C D : Pw) (h : Nat → Nat), vs = [x, y, z] ∧ KRow K H x A B ∧ KRow K H y C D ∧ PwAt H z (some h) ∧ ∀ (H' : Hp) (b : Bool), Same H H' → (b = true ↔ GO A B (goal h C) D) → Q (.bl b) H'
def spGood (K : PySem.W.Frag) : Sp := fun vs H Q _ => ∃ (x : V) (A B : Pw) (k p : Nat), vs = [x, .int (k : Int), .int (p : Int)] ∧ KRow K H x A B ∧ k < 3 ∧ ∀ H', Same H H' → Q (.bl (decide (min p (pw A k) ≤ pw B k))) H'
def spHours (K : PySem.W.Frag) : Sp := fun vs H Q _ => ∃ (x y : V) (A B C D : Pw), vs = [x, y] ∧ KRow K H x A B ∧ KRow K H y C D ∧ ∀ (H' : Hp) (b : Bool), Same H H' → (b = true ↔ HG A B C D) → Q (.bl b) H'
section
variable {P : Program} {w : World} {K : PySem.W.Frag} {mg : Str → Option Value} {base : Heap} {CN CR : Addr}
theorem scPowers : FnScope ["_law_found", "_law_least", "_law_word"] ["_law_found", "_law_least"] (defScope sPowers) := ⟨rfl, rfl, rfl, by decide +kernel, rfl, by decide +kernel, by decide +kernel⟩
theorem ok_powers {f : Addr} {fd : FuncData} (F : Fun K "_law_powers" "_law_powers" sPowers f fd) (D_take : Fok P w K mg base 1 "_law_take" ["_law_found", "_law_many"] spTake) : FnOk P w K mg base (L2.CX P w) 2 f fd ["_law_found", "_law_least"] spPowers := by
  refine F.okX scPowers (fun vs H Q E h => ?_) (fun cdv A outer s H vs Q E hr h => ?_)
  · obtain ⟨a, ns, m, rfl, _⟩ := h
    rfl
  obtain ⟨a, ns, m, rfl, ha, hl, k⟩ := h
  have sc := scPowers
  refine ⟨_, (pss_cons (ps_set (i := 2) sc.nd rfl (Or.inl rfl) (pe_f D_take (hr.mono (by decide)) (pa_cons (pv 0) (pa_cons pe_int pa_nil))))
      (pss_cons (ps_if (PW.pt (pw_and (pt_cmpR op_eq (pv 2) pe_int (nomark _)) (pw_and1 (pt_cmpR op_eq (pv 1) pe_int (nomark _))))) (pss_one (ps_ret pe_non)) pss_nil)
      (pss_cons (ps_if (pt_cmpR op_eq (pv 2) pe_int (nomark _)) (pss_one (ps_ret (pe_lst (pa_cons (pe_f D_take (hr.mono (by decide)) (pa_cons (pv 0) (pa_cons pe_int pa_nil))) (pa_cons (pe_f D_take (hr.mono (by decide)) (pa_cons (pv 0) (pa_cons pe_int pa_nil))) (pa_cons (pe_f D_take (hr.mono (by decide)) (pa_cons (pv 0) (pa_cons pe_int pa_nil))) pa_nil)))))) pss_nil)
      (pss_cons (ps_if (pt_cmpR op_eq (pv 2) pe_int (nomark _)) (pss_one (ps_ret (pe_lst (pa_cons pe_int (pa_cons pe_int (pa_cons pe_int pa_nil)))))) pss_nil)
      (pss_one (ps_ret (pe_lst (pa_cons (pe_f D_take (hr.mono (by decide)) (pa_cons (pv 0) (pa_cons pe_int pa_nil))) (pa_cons (pe_f D_take (hr.mono (by decide)) (pa_cons (pv 0) (pa_cons pe_int pa_nil))) (pa_cons (pe_f D_take (hr.mono (by decide)) (pa_cons (pv 0) (pa_cons pe_int pa_nil))) pa_nil)))))))))), ?_⟩
  walk_at "go"
  refine ⟨a, ns, 7, rfl, ha, hl, by decide, fun r ns1 H1 h0 h7 l1 h1 s1 => ?_⟩
  -- the three that are taken
  have taken : ∀ (c1 c2 c3 : Int), 0 < c1 → c1 ≤ 13 → 0 < c2 → c2 ≤ 13 → 0 < c3 → c3 ≤ 13 → tLst (tCons (tCall spTake [] E0 (tCons (tVar 0) (tCons (tC (.int c1)) tNil))) (tCons (tCall spTake [] E0 (tCons (tVar 0) (tCons (tC (.int c2)) tNil))) (tCons (tCall spTake [] E0 (tCons (tVar 0) (tCons (tC (.int c3)) tNil))) tNil)))
      [some (V.ref a), some (V.int m), some (V.int r)] H1 Q := fun c1 c2 c3 p1 q1 p2 q2 p3 q3 => by
    walk_at "go"
    refine ⟨a, ns1, c1, rfl, h1, by omega, p1, fun r2 ns2 H2 a2 b2 l2 h2 s2 => ?_⟩
    walk_at "go"
    refine ⟨a, ns2, c2, rfl, h2, by omega, p2, fun r3 ns3 H3 a3 b3 l3 h3 s3 => ?_⟩
    walk_at "go"
    refine ⟨a, ns3, c3, rfl, h3, by omega, p3, fun r4 ns4 H4 a4 b4 l4 h4 s4 => ?_⟩
    walk_at "go"
    refine ⟨by show 3 ≤ sizeLine; decide, fun p hp => ?_⟩
    have sb := ((s1.trans s2).trans s3).trans s4
    have pa : p ≠ a := fun z => by rw [z, h4] at hp; cases hp
    refine k (.ref p) (some (f3 r2.toNat r3.toNat r4.toNat)) ns4 _ (three_new a2 a3 a4) (fun q e => ?_) (bd_f3 (by omega) (by omega) (by omega)) (fun _ z => by cases z) (by omega) ?_ (sb.mut (sb.none_ hp pa))
    · cases e
      exact sb.none_ hp pa
    · rw [upd_ne (Ne.symm pa)]
      exact h4
  walk_at "go"
  have rest : tSeq (tIfS (tTest (tOp rEq (tVar 2) (tC (V.int 1)))) (tRet (tLst (tCons (tCall spTake [] E0 (tCons (tVar 0) (tCons (tC (.int 13)) tNil))) (tCons (tCall spTake [] E0 (tCons (tVar 0) (tCons (tC (.int 9)) tNil))) (tCons (tCall spTake [] E0 (tCons (tVar 0) (tCons (tC (.int 6)) tNil))) tNil))))) tNext)
      (tSeq (tIfS (tTest (tOp rEq (tVar 2) (tC (V.int 2)))) (tRet (tLst (tCons (tC (.int 0)) (tCons (tC (.int 0)) (tCons (tC (.int 0)) tNil))))) tNext)
      (tRet (tLst (tCons (tCall spTake [] E0 (tCons (tVar 0) (tCons (tC (.int 4)) tNil))) (tCons (tCall spTake [] E0 (tCons (tVar 0) (tCons (tC (.int 3)) tNil))) (tCons (tCall spTake [] E0 (tCons (tVar 0) (tCons (tC (.int 2)) tNil))) tNil))))))
      { nx := fun _ H' => Q .non H', rt := Q } [some (V.ref a), some (V.int m), some (V.int r)] H1 := by
    walk_at "go"
    refine iteB (fun e => ?_) fun e => ?_
    · refine r_ret ?_
      exact taken 13 9 6 (by decide) (by decide) (by decide) (by decide) (by decide) (by decide)
    · walk_at "go"
      refine iteB (fun e => ?_) fun e => ?_
      · walk_at "go"
        refine ⟨by show 3 ≤ sizeLine; decide, fun p hp => ?_⟩
        have pa : p ≠ a := fun z => by rw [z, h1] at hp; cases hp
        refine k (.ref p) (some (f3 0 0 0)) ns1 _ (three_new (by decide) (by decide) (by decide)) (fun q e => ?_) (bd_f3 (by decide) (by decide) (by decide)) (fun _ z => by cases z) l1 ?_ (s1.mut (s1.none_ hp pa))
        · cases e
          exact s1.none_ hp pa
        · rw [upd_ne (Ne.symm pa)]
          exact h1
      · refine r_nx ?_
        dsimp only
        refine r_ret ?_
        exact taken 4 3 2 (by decide) (by decide) (by decide) (by decide) (by decide) (by decide)
  refine iteB (fun e => ?_) fun e => ?_
  · walk_at "go"
    refine iteB (fun e2 => ?_) fun e2 => ?_
    · walk_at "go"
      exact k .non none ns1 H1 (.inl ⟨rfl, rfl⟩) (fun p e => by cases e) bd_none (fun z => absurd (of_decide_eq_true e2) z) l1 h1 s1
    · refine r_nx ?_
      exact rest
  · refine r_nx ?_
    exact rest
theorem scWorth : FnScope ["_law_powers_here", "_law_worth_here", "_law_turn"] ["_law_powers_here"] (defScope sWorth) := ⟨rfl, rfl, rfl, by decide +kernel, rfl, by decide +kernel, by decide +kernel⟩
theorem ok_worth {f : Addr} {fd : FuncData} (F : Fun K "_law_worth" "_law_worth" sWorth f fd) (m_range : mg "range" = none) : FnOk P w K mg base (L2.CX P w) 1 f fd ["_law_powers_here"] spWorth := by
  refine F.okX scWorth (fun vs H Q E h => ?_) (fun cdv A outer s H vs Q E hr h => ?_)
  · obtain ⟨v, o, rfl, _⟩ := h
    rfl
  obtain ⟨v, o, rfl, hP, hB, k⟩ := h
  have sc := scWorth
  refine ⟨_, (pss_cons (ps_if (pt_cmpR o_isN (pv 0) pe_non (nomark _)) (pss_one (ps_ret pe_int)) pss_nil)
      (pss_cons (ps_set (i := 1) sc.nd rfl (Or.inl rfl) pe_int)
      (pss_cons (ps_for (passes_of rfl) rfl (pi_range1 (by rfl) m_range (pa_cons (pe_ix (ixL K) (pv 0) pe_int (fun _ _ => rfl)) pa_nil)) (pg_name (i := 2) sc.nd rfl (Or.inl rfl)) (pss_one (ps_set (i := 1) sc.nd rfl (Or.inl rfl) (pe_op op_mul (pv 1) pe_int))))
      (pss_cons (ps_for (passes_of rfl) rfl (pi_range1 (by rfl) m_range (pa_cons (pe_ix (ixL K) (pv 0) pe_int (fun _ _ => rfl)) pa_nil)) (pg_name (i := 2) sc.nd rfl (Or.inl rfl)) (pss_one (ps_set (i := 1) sc.nd rfl (Or.inl rfl) (pe_op op_mul (pv 1) pe_int))))
      (pss_cons (ps_for (passes_of rfl) rfl (pi_range1 (by rfl) m_range (pa_cons (pe_ix (ixL K) (pv 0) pe_int (fun _ _ => rfl)) pa_nil)) (pg_name (i := 2) sc.nd rfl (Or.inl rfl)) (pss_one (ps_set (i := 1) sc.nd rfl (Or.inl rfl) (pe_op op_mul (pv 1) pe_int))))
      (pss_one (ps_ret (pv 1)))))))), ?_⟩
  walk_at "go"
  rw [non_dec hP]
  rcases hP with ⟨rfl, rfl⟩ | ⟨p, g, rfl, rfl, hp⟩
  · refine ite_yes rfl ?_
    walk_at "go"
    exact k H (Same.refl H)
  refine ite_no rfl ?_
  obtain ⟨b0, b1, b2⟩ := bd_some hB
  walk_at "go"
  refine r_ixL (SqL.of hp) (v := .int (g 0 : Nat)) rfl ?_
  walk_at "go"
  refine r_rngK (g 0) rfl (by omega) ?_
  have pw0 : ∀ i, 0 < 2 ^ i := fun i => Nat.pow_pos (by decide)
  refine r_forR0 (fun i σ H' => ∃ vt, σ = [some (V.ref p), some (V.int ((2 ^ i : Nat) : Int)), vt] ∧ H' = H) ⟨none, rfl, rfl⟩ ?_ ?_
  · rintro i σ H' hi ⟨vt, rfl, rfl⟩
    walk_at "go"
    refine r_I (.inr ⟨by decide, by decide⟩) ?_
    walk_at "go"
    refine ⟨some (V.int (i : Nat)), ?_, rfl⟩
    rw [Nat.pow_succ, Int.natCast_mul]
    rfl
  rintro σ H' ⟨vt, rfl, rfl⟩
  walk_at "go"
  refine r_ixL (SqL.of hp) (v := .int (g 1 : Nat)) rfl ?_
  walk_at "go"
  refine r_rngK (g 1) rfl (by omega) ?_
  refine r_forR0 (fun i σ H2 => ∃ vt, σ = [some (V.ref p), some (V.int ((2 ^ g 0 * 3 ^ i : Nat) : Int)), vt] ∧ H2 = H') ⟨_, by rw [Nat.pow_zero, Nat.mul_one], rfl⟩ ?_ ?_
  · rintro i σ H2 hi ⟨vt, rfl, rfl⟩
    walk_at "go"
    refine r_I (.inr ⟨by decide, by decide⟩) ?_
    walk_at "go"
    refine ⟨some (V.int (i : Nat)), ?_, rfl⟩
    rw [Nat.pow_succ, ← Nat.mul_assoc, Int.natCast_mul (_ * _)]
    rfl
  rintro σ H2 ⟨vt2, rfl, rfl⟩
  walk_at "go"
  refine r_ixL (SqL.of hp) (v := .int (g 2 : Nat)) rfl ?_
  walk_at "go"
  refine r_rngK (g 2) rfl (by omega) ?_
  refine r_forR0 (fun i σ H3 => ∃ vt, σ = [some (V.ref p), some (V.int ((2 ^ g 0 * 3 ^ g 1 * 5 ^ i : Nat) : Int)), vt] ∧ H3 = H2) ⟨_, by rw [Nat.pow_zero, Nat.mul_one], rfl⟩ ?_ ?_
  · rintro i σ H3 hi ⟨vt, rfl, rfl⟩
    walk_at "go"
    refine r_I (.inr ⟨by decide, by decide⟩) ?_
    walk_at "go"
    refine ⟨some (V.int (i : Nat)), ?_, rfl⟩
    rw [Nat.pow_succ, ← Nat.mul_assoc, Int.natCast_mul (_ * _)]
    rfl
  rintro σ H3 ⟨vt3, rfl, rfl⟩
  walk_at "go"
  exact k _ (Same.refl _)
theorem scPower : FnScope ["_law_powers_here", "_law_k"] ["_law_powers_here", "_law_k"] (defScope sPower) := ⟨rfl, rfl, rfl, by decide +kernel, rfl, by decide +kernel, by decide +kernel⟩
theorem ok_power {f : Addr} {fd : FuncData} (F : Fun K "_law_power" "_law_power" sPower f fd) : FnOk P w K mg base (L2.CX P w) 1 f fd ["_law_powers_here", "_law_k"] spPower := by
  refine F.okX scPower (fun vs H Q E h => ?_) (fun cdv A outer s H vs Q E hr h => ?_)
  · obtain ⟨v, o, k, rfl, _⟩ := h
    rfl
  obtain ⟨v, o, k, rfl, hP, hk, q⟩ := h
  have sc := scPower
  refine ⟨_, (pss_cons (ps_if (pt_cmpR o_isN (pv 0) pe_non (nomark _)) (pss_one (ps_ret pe_int)) pss_nil)
      (pss_one (ps_ret (pe_ix (ixL K) (pv 0) (pv 1) (fun _ _ => rfl))))), ?_⟩
  have q := q H (Same.refl H)
  walk_at "go"
  rw [non_dec hP]
  rcases hP with ⟨rfl, rfl⟩ | ⟨p, g, rfl, rfl, hp⟩
  · refine ite_yes rfl ?_
    walk_at "go"
    exact q
  refine ite_no rfl ?_
  walk_at "go"
  refine r_ixL (SqL.of hp) (v := .int (g k : Nat)) (atI_nat ?_) q
  rcases k with _ | _ | _ | k
  · rfl
  · rfl
  · rfl
  · omega
theorem scGood : FnScope ["_law_kind", "_law_k", "_law_power_here"] ["_law_kind", "_law_k", "_law_power_here"] (defScope sGood) := ⟨rfl, rfl, rfl, by decide +kernel, rfl, by decide +kernel, by decide +kernel⟩
theorem ok_good {f : Addr} {fd : FuncData} (F : Fun K "_law_good" "_law_good" sGood f fd) (m_min : mg "min" = none) (D_power : Fok P w K mg base 1 "_law_power" ["_law_powers_here", "_law_k"] spPower) : FnOk P w K mg base (L2.CX P w) 2 f fd ["_law_kind", "_law_k", "_law_power_here"] (spGood K) := by
  refine F.okX scGood (fun vs H Q E h => ?_) (fun cdv A outer s H vs Q E hr h => ?_)
  · obtain ⟨x, A, B, k, p, rfl, _⟩ := h
    rfl
  obtain ⟨x, A, B, k, p, rfl, ⟨a, v1, v2, rfl, ha, h1, h2⟩, hk, q⟩ := h
  have sc := scGood
  refine ⟨_, (pss_one (ps_ret (pe_cmpR op_le (pe_callB (c_min2 rfl) (by rfl) m_min (by decide +kernel) (pa_cons (pv 2) (pa_cons (pe_f D_power (hr.mono (by decide)) (pa_cons (pe_ix (ixT K) (pv 0) pe_int (fun _ _ => rfl)) (pa_cons (pv 1) pa_nil))) pa_nil))) (pe_f D_power (hr.mono (by decide)) (pa_cons (pe_ix (ixT K) (pv 0) pe_int (fun _ _ => rfl)) (pa_cons (pv 1) pa_nil))) (nomark _)))), ?_⟩
  walk_at "go"
  refine r_ixT ha (v := v1) rfl ?_
  walk_at "go"
  refine ⟨v1, A, k, rfl, h1, hk, fun H1 s1 => ?_⟩
  walk_at "go"
  refine r_ixT (same_t s1 ha) (v := v2) rfl ?_
  walk_at "go"
  refine ⟨v2, B, k, rfl, h2.keep s1, hk, fun H2 s2 => ?_⟩
  walk_at "go"
  have e : decide ((if ((pw A k : Nat) : Int) < (p : Int) then ((pw A k : Nat) : Int) else (p : Int)) ≤ ((pw B k : Nat) : Int)) = decide (min p (pw A k) ≤ pw B k) := decide_eq_decide.mpr (by split <;> omega)
  rw [e]
  exact q H2 (s1.trans s2)
end
end K63
namespace K63
open PySem L2 Er KG
/-- one step of a plain reading -/
local macro_rules | `(tactic| walk_at "step") => `(tactic| first
  | with_reducible refine r_seq ?_ | with_reducible refine r_nx ?_ | with_reducible refine r_asgN ?_ | with_reducible refine r_asgS ?_ | with_reducible refine r_asgT ?_ | with_reducible refine r_ifS ?_
  | with_reducible refine r_ret ?_ | with_reducible refine r_retN ?_ | with_reducible refine r_drop ?_ | with_reducible refine r_test ?_ | with_reducible refine r_B ?_ | with_reducible refine r_not ?_
  | with_reducible refine r_and ?_ | with_reducible refine r_or ?_ | with_reducible refine r_andV ?_ | with_reducible refine r_orV ?_ | with_reducible refine r_notV ?_
  | ((with_reducible refine' r_var ?e ?_); (case e => exact rfl)) | with_reducible refine r_c ?_ | with_reducible refine r_op ?_ | with_reducible refine r_un ?_
  | with_reducible refine r_I0 ?_ | with_reducible refine r_eqI ?_ | with_reducible refine r_neI ?_ | with_reducible refine r_bl ?_ | with_reducible refine r_nil ?_ | with_reducible refine r_cons ?_
  | with_reducible refine r_cb ?_ | with_reducible refine r_call ?_ | with_reducible refine r_tup ?_ | with_reducible refine r_lst ?_ | with_reducible refine r_fld ?_ | with_reducible refine r_bm ?_ | with_reducible refine r_bm0 ?_
  | with_reducible refine r_for ?_ | with_reducible refine r_rng ?_ | with_reducible refine r_rng2 ?_ | with_reducible refine r_lstI ?_ | with_reducible refine r_tupI ?_ | with_reducible refine r_lc ?_
  | with_reducible refine r_augS ?_ | with_reducible refine r_ipI ?_
  | with_reducible refine r_meth ?_ | with_reducible refine r_prop ?_ | with_reducible refine r_make ?_ | with_reducible refine r_din ?_ | with_reducible refine r_dnin ?_ | with_reducible refine r_dput ?_ | with_reducible refine r_dget ?_
  | with_reducible refine r_gN ?_ | with_reducible refine r_tsl ?_ | with_reducible refine r_noP ?_ | with_reducible refine r_part ?_ | with_reducible refine r_pI ?_ | with_reducible refine r_tif ?_ | with_reducible refine r_SL ?_ | with_reducible refine r_gC ?_ | with_reducible refine r_U ?_ | with_reducible refine r_sfld ?_ | with_reducible refine r_dnew ?_ | with_reducible refine r_keys ?_
  | with_reducible refine r_mkE ?_ | with_reducible refine iteT ?_ | with_reducible refine iteF ?_
  | with_reducible refine r_int ?_ | with_reducible refine r_min2 ?_ | with_reducible refine r_isN ?_ | with_reducible refine r_notN ?_)
/-- as far as it goes by itself -/
local macro_rules | `(tactic| walk_at "go") => `(tactic| ((repeat walk_at "step"); (try dsimp only)))


theorem three_at {f : Nat → Nat} {i : Nat} (h : i < 3) : atI [V.int (f 0 : Nat), V.int (f 1 : Nat), V.int (f 2 : Nat)] (i : Int) = some (.int (f i : Nat)) := atI_nat (by
  rcases i with _ | _ | _ | i
  · rfl
  · rfl
  · rfl
  · omega)
theorem a3_of {p : Nat → Prop} (h : ∀ i, i < 3 → p i) : A3 p := ⟨h 0 (by decide), h 1 (by decide), h 2 (by decide)⟩
theorem of_a3 {p : Nat → Prop} (h : A3 p) {i : Nat} (hi : i < 3) : p i := by
  rcases i with _ | _ | _ | i
  · exact h.1
  · exact h.2.1
  · exact h.2.2
  · omega
theorem isN_iff {o : Pw} : o.isNone = true ↔ o = none := by cases o <;> simp
section
variable {P : Program} {w : World} {K : PySem.W.Frag} {mg : Str → Option Value} {base : Heap} {CN CR : Addr}
theorem scGoes : FnScope ["_law_one", "_law_other", "_law_k", "_law_most", "_law_need"] ["_law_one", "_law_other"] (defScope sGoes) := ⟨rfl, rfl, rfl, by decide +kernel, rfl, by decide +kernel, by decide +kernel⟩
theorem ok_goes {f : Addr} {fd : FuncData} (F : Fun K "_law_goes" "_law_goes" sGoes f fd) (m_range : mg "range" = none) (m_all : mg "all" = none) (m_min : mg "min" = none) (m_max : mg "max" = none) (D_power : Fok P w K mg base 1 "_law_power" ["_law_powers_here", "_law_k"] spPower) :
    FnOk P w K mg base (L2.CX P w) 2 f fd ["_law_one", "_law_other"] (spGoes K) := by
  refine F.okX scGoes (fun vs H Q E h => ?_) (fun cdv A' outer s H vs Q E hr h => ?_)
  · obtain ⟨x, y, A, B, C, D, rfl, _⟩ := h
    rfl
  obtain ⟨x, y, A, B, C, D, rfl, ⟨a, v1, v2, rfl, ha, hA, hB⟩, ⟨c, v3, v4, rfl, hc, hC, hD⟩, k⟩ := h
  have sc := scGoes
  refine ⟨_, (pss_cons (ps_if (pt_cmpR o_isN (pe_ix (ixT K) (pv 1) pe_int (fun _ _ => rfl)) pe_non (nomark _)) (pss_cons (ps_if (pt_cmpR o_notN (pe_ix (ixT K) (pv 0) pe_int (fun _ _ => rfl)) pe_non (nomark _)) (pss_one (ps_ret (pe_cmpR o_isN (pe_ix (ixT K) (pv 1) pe_int (fun _ _ => rfl)) pe_non (nomark _)))) pss_nil)
      (pss_one (ps_ret (pe_and (pe_callB (cr_all rfl) (by rfl) m_all (by decide +kernel) (pa_cons (pe_lc (own := [("_law_k", 2)]) (g := gName 2) (tt := tYes) rfl sc.nd (pi_range1 (by rfl) m_range (pa_cons pe_int pa_nil)) (blkOk_by (own := [("_law_k", 2)]) (N := ["_law_one", "_law_other", "_law_k", "_law_most", "_law_need"]) (sc := defScope sGoes) (by decide +kernel)) (fun _ _ _ _ _ => pg_name (i := 2) sc.nd rfl (Or.inl rfl)) (fun _ _ _ _ _ => pts_nil) (fun _ _ _ _ _ => (pe_cmpR op_le (pe_f D_power (hr.mono (by decide)) (pa_cons (pe_ix (ixT K) (pv 0) pe_int (fun _ _ => rfl)) (pa_cons (pv 2) pa_nil))) (pe_f D_power (hr.mono (by decide)) (pa_cons (pe_ix (ixT K) (pv 1) pe_int (fun _ _ => rfl)) (pa_cons (pv 2) pa_nil))) (nomark _)))) pa_nil)) (pe_one (pe_or (pe_cmpR o_notN (pe_ix (ixT K) (pv 0) pe_int (fun _ _ => rfl)) pe_non (nomark _)) (pe_one (pe_cmpR o_isN (pe_ix (ixT K) (pv 1) pe_int (fun _ _ => rfl)) pe_non (nomark _))))))))) pss_nil)
      (pss_cons (ps_for (passes_of rfl) rfl (pi_range1 (by rfl) m_range (pa_cons pe_int pa_nil)) (pg_name (i := 2) sc.nd rfl (Or.inl rfl)) (pss_cons (ps_set (i := 3) sc.nd rfl (Or.inl rfl) (pe_f D_power (hr.mono (by decide)) (pa_cons (pe_ix (ixT K) (pv 1) pe_int (fun _ _ => rfl)) (pa_cons (pv 2) pa_nil))))
      (pss_cons (ps_set (i := 4) sc.nd rfl (Or.inl rfl) (pe_op op_add (pe_f D_power (hr.mono (by decide)) (pa_cons (pe_ix (ixT K) (pv 0) pe_int (fun _ _ => rfl)) (pa_cons (pv 2) pa_nil))) (pe_callB (c_max2 rfl) (by rfl) m_max (by decide +kernel) (pa_cons pe_int (pa_cons (pe_op op_sub (pv 3) (pe_f D_power (hr.mono (by decide)) (pa_cons (pe_ix (ixT K) (pv 0) pe_int (fun _ _ => rfl)) (pa_cons (pv 2) pa_nil)))) pa_nil)))))
      (pss_one (ps_if (pt_cmpR op_gt (pe_callB (c_min2 rfl) (by rfl) m_min (by decide +kernel) (pa_cons (pv 4) (pa_cons (pv 3) pa_nil))) (pe_f D_power (hr.mono (by decide)) (pa_cons (pe_ix (ixT K) (pv 1) pe_int (fun _ _ => rfl)) (pa_cons (pv 2) pa_nil))) (nomark _)) (pss_one (ps_ret pe_bl)) pss_nil)))))
      (pss_one (ps_ret pe_bl)))), ?_⟩
  walk_at "go"
  refine r_ixT hc (v := v3) rfl ?_
  walk_at "go"
  rw [non_dec hC]
  cases C with
  | none =>
    refine ite_yes rfl ?_
    walk_at "go"
    refine r_ixT ha (v := v1) rfl ?_
    walk_at "go"
    rw [non_dec hA]
    cases A with
    | some g =>
      refine ite_yes rfl ?_
      walk_at "go"
      refine r_ixT hc (v := v4) rfl ?_
      walk_at "go"
      rw [non_dec hD]
      exact k H _ (Same.refl H) (isN_iff.trans ⟨fun e => ⟨fun _ => e, fun z => by cases z⟩, fun g => g.1 (by intro z; cases z)⟩)
    | none =>
      refine ite_no rfl ?_
      walk_at "go"
      refine r_rngK 3 rfl (by decide) ?_
      refine r_lcR (fun _ => true) (fun i => V.bl (decide (pw B i ≤ pw D i))) (by decide) (fun _ => rfl) (fun i H1 hi s1 QT q => q H1 (Same.refl _)) (fun i H1 hi _ s1 Q' q => ?_) fun p H1 hp s1 h1 => ?_
      · walk_at "go"
        refine r_ixT (same_t s1 ha) (v := v2) rfl ?_
        walk_at "go"
        refine ⟨v2, B, i, rfl, hB.keep s1, hi, fun H2 s2 => ?_⟩
        walk_at "go"
        refine r_ixT (same_t (s1.trans s2) hc) (v := v4) rfl ?_
        walk_at "go"
        refine ⟨v4, D, i, rfl, hD.keep (s1.trans s2), hi, fun H3 s3 => ?_⟩
        walk_at "go"
        have e : decide (((pw B i : Nat) : Int) ≤ ((pw D i : Nat) : Int)) = decide (pw B i ≤ pw D i) := decide_eq_decide.mpr (by omega)
        rw [e]
        exact q H3 (s2.trans s3)
      · walk_at "go"
        refine r_all (bs := [decide (pw B 0 ≤ pw D 0), decide (pw B 1 ≤ pw D 1), decide (pw B 2 ≤ pw D 2)]) (SqL.of h1) ?_
        walk_at "go"
        have e : (([decide (pw B 0 ≤ pw D 0), decide (pw B 1 ≤ pw D 1), decide (pw B 2 ≤ pw D 2)].all id) = true) ↔ A3 fun i => pw B i ≤ pw D i := by simp [A3]
        have no : ∀ b : Bool, b = false → ¬ GO none B none D → (b = true ↔ GO none B none D) := fun b e1 e2 => by
          subst e1
          exact ⟨fun z => (by cases z), fun z => absurd z e2⟩
        refine iteB (fun e1 => ?_) fun e1 => ?_
        · walk_at "go"
          refine r_ixT (same_t s1 ha) (v := v2) rfl ?_
          walk_at "go"
          rw [non_dec (hB.keep s1)]
          cases B with
          | some g =>
            refine ite_yes rfl ?_
            exact k H1 true s1 ⟨fun _ => ⟨fun z => absurd rfl z, fun _ => ⟨e.mp e1, .inl (by intro z; cases z)⟩⟩, fun _ => rfl⟩
          | none =>
            refine ite_no rfl ?_
            walk_at "go"
            refine r_ixT (same_t s1 hc) (v := v4) rfl ?_
            walk_at "go"
            rw [non_dec (hD.keep s1)]
            exact k H1 _ s1 (isN_iff.trans ⟨fun d => ⟨fun z => absurd rfl z, fun _ => ⟨e.mp e1, .inr d⟩⟩, fun g => (g.2 rfl).2.resolve_left fun z => z rfl⟩)
        · exact k H1 false s1 (no false rfl fun g => by
            have := e.mpr (g.2 rfl).1
            rw [this] at e1
            cases e1)
  | some l =>
    refine ite_no rfl ?_
    walk_at "go"
    refine r_rngK 3 rfl (by decide) ?_
    refine r_forR0 (fun i σ H' => ∃ u2 u3 u4, σ = [some (V.ref a), some (V.ref c), u2, u3, u4] ∧ Same H H' ∧ ∀ j : Nat, j < i → min (pw B j + (l j - pw A j)) (l j) ≤ pw D j) ⟨none, none, none, rfl, Same.refl H, fun j hj => by omega⟩ ?_ ?_
    · rintro i σ H1 hi ⟨u2, u3, u4, rfl, s1, hn⟩
      walk_at "go"
      refine r_ixT (same_t s1 hc) (v := v3) rfl ?_
      walk_at "go"
      refine ⟨v3, some l, i, rfl, hC.keep s1, hi, fun H2 s2 => ?_⟩
      have s12 := s1.trans s2
      walk_at "go"
      refine r_ixT (same_t s12 ha) (v := v2) rfl ?_
      walk_at "go"
      refine ⟨v2, B, i, rfl, hB.keep s12, hi, fun H3 s3 => ?_⟩
      have s13 := s12.trans s3
      walk_at "go"
      refine r_ixT (same_t s13 ha) (v := v1) rfl ?_
      walk_at "go"
      refine ⟨v1, A, i, rfl, hA.keep s13, hi, fun H4 s4 => ?_⟩
      have s14 := s13.trans s4
      walk_at "go"
      refine r_max2 ?_
      walk_at "go"
      refine r_ixT (same_t s14 hc) (v := v4) rfl ?_
      walk_at "go"
      refine ⟨v4, D, i, rfl, hD.keep s14, hi, fun H5 s5 => ?_⟩
      have s15 := s14.trans s5
      walk_at "go"
      have el : pw (some l) i = l i := rfl
      rw [el]
      by_cases good : min (pw B i + (l i - pw A i)) (l i) ≤ pw D i
      · refine ite_no (decide_eq_false (by split <;> split <;> omega)) ?_
        walk_at "go"
        refine ⟨_, _, _, rfl, s15, fun j hj => ?_⟩
        rcases Nat.lt_or_ge j i with h | h
        · exact hn j h
        · have : j = i := by omega
          subst this
          exact good
      · refine ite_yes (decide_eq_true (by split <;> split <;> omega)) ?_
        walk_at "go"
        exact k H5 false s15 ⟨fun z => (by cases z), fun g => absurd (of_a3 (p := fun i => min (pw B i + (l i - pw A i)) (l i) ≤ pw D i) g hi) good⟩
    · rintro σ H1 ⟨u2, u3, u4, rfl, s1, hn⟩
      walk_at "go"
      exact k H1 true s1 ⟨fun _ => a3_of hn, fun _ => rfl⟩
theorem scGoesMod : FnScope ["_law_one", "_law_other", "_law_hours", "_law_goal", "_law_k"] ["_law_one", "_law_other", "_law_hours"] (defScope sGoesMod) := ⟨rfl, rfl, rfl, by decide +kernel, rfl, by decide +kernel, by decide +kernel⟩
theorem ok_goes_mod {f : Addr} {fd : FuncData} (F : Fun K "_law_goes_mod" "_law_goes_mod" sGoesMod f fd) (m_range : mg "range" = none) (m_min : mg "min" = none) (D_power : Fok P w K mg base 1 "_law_power" ["_law_powers_here", "_law_k"] spPower) (D_goes : Fok P w K mg base 2 "_law_goes" ["_law_one", "_law_other"] (spGoes K)) :
    FnOk P w K mg base (L2.CX P w) 3 f fd ["_law_one", "_law_other", "_law_hours"] (spGoesMod K) := by
  refine F.okX scGoesMod (fun vs H Q E h => ?_) (fun cdv A' outer s H vs Q E hr h => ?_)
  · obtain ⟨x, y, z, A, B, C, D, h, rfl, _⟩ := h
    rfl
  obtain ⟨x, y, z, A, B, C, D, hh, rfl, hX, ⟨c, v3, v4, rfl, hc, hC, hD⟩, hZ, k⟩ := h
  obtain ⟨hz, e⟩ | ⟨p, g, rfl, e, hp⟩ := hZ
  · cases e
  cases e
  have sc := scGoesMod
  refine ⟨_, (pss_cons (ps_setLc (i := 3) (own := [("_law_k", 4)]) (g := gName 4) (tt := tYes) (by rfl) sc.nd rfl rfl (sw_true rfl rfl rfl (by decide +kernel)) (pi_range1 (by rfl) m_range (pa_cons pe_int pa_nil)) (blkOk_by (own := [("_law_k", 4)]) (N := ["_law_one", "_law_other", "_law_hours", "_law_goal", "_law_k"]) (sc := defScope sGoesMod) (by decide +kernel)) (fun _ _ _ _ _ => pg_name (i := 4) sc.nd rfl (Or.inl rfl)) (fun _ _ _ _ _ => pts_nil) (fun _ _ _ _ _ => (pe_callB (c_min2 rfl) (by rfl) m_min (by decide +kernel) (pa_cons (pe_ix (ixL K) (pv 2) (pv 4) (fun _ _ => rfl)) (pa_cons (pe_f D_power (hr.mono (by decide)) (pa_cons (pe_ix (ixT K) (pv 1) pe_int (fun _ _ => rfl)) (pa_cons (pv 4) pa_nil))) pa_nil)))))
      (pss_one (ps_ret (pe_f D_goes (hr.mono (by decide)) (pa_cons (pv 0) (pa_cons (pe_tup (pa_cons (pv 3) (pa_cons (pe_ix (ixT K) (pv 1) pe_int (fun _ _ => rfl)) pa_nil))) pa_nil)))))), ?_⟩
  walk_at "go"
  refine r_rngK 3 rfl (by decide) ?_
  refine r_lcR (fun _ => true) (fun i => V.int ((min (hh i) (pw C i) : Nat) : Int)) (by decide) (fun _ => rfl) (fun i H1 hi s1 QT q => q H1 (Same.refl _)) (fun i H1 hi _ s1 Q' q => ?_) fun q H1 hq s1 h1 => ?_
  · walk_at "go"
    refine r_ixL (SqL.of (s1 _ _ hp)) (v := .int (hh i : Nat)) (three_at hi) ?_
    walk_at "go"
    refine r_ixT (same_t s1 hc) (v := v3) rfl ?_
    walk_at "go"
    refine ⟨v3, C, i, rfl, hC.keep s1, hi, fun H2 s2 => ?_⟩
    walk_at "go"
    have e : (if ((pw C i : Nat) : Int) < ((hh i : Nat) : Int) then ((pw C i : Nat) : Int) else ((hh i : Nat) : Int)) = ((min (hh i) (pw C i) : Nat) : Int) := by split <;> omega
    rw [e]
    exact q H2 s2
  walk_at "go"
  refine r_ixT (same_t s1 hc) (v := v4) rfl ?_
  walk_at "go"
  refine ⟨by show 2 ≤ sizeLine; decide, fun t ht => ?_⟩
  walk_at "go"
  have s2 := same_new (o := .tup [V.ref q, v4]) ht
  exact ⟨x, .ref t, A, B, goal hh C, D, rfl, (hX.keep s1).keep s2, ⟨t, .ref q, v4, rfl, SqT.of upd_same, .inr ⟨q, _, rfl, rfl, s2 _ _ h1⟩, (hD.keep s1).keep s2⟩, fun H3 b s3 hb => k H3 b ((s1.trans s2).trans s3) hb⟩
theorem scHoursGo : FnScope ["_law_one", "_law_other", "_law_k", "_law_power_here"] ["_law_one", "_law_other"] (defScope sHoursGo) := ⟨rfl, rfl, rfl, by decide +kernel, rfl, by decide +kernel, by decide +kernel⟩
theorem ok_hours {f : Addr} {fd : FuncData} (F : Fun K "_law_hours_go_on" "_law_hours_go_on" sHoursGo f fd) (m_range : mg "range" = none) (D_good : Fok P w K mg base 2 "_law_good" ["_law_kind", "_law_k", "_law_power_here"] (spGood K)) :
    FnOk P w K mg base (L2.CX P w) 3 f fd ["_law_one", "_law_other"] (spHours K) := by
  refine F.okX scHoursGo (fun vs H Q E h => ?_) (fun cdv A' outer s H vs Q E hr h => ?_)
  · obtain ⟨x, y, A, B, C, D, rfl, _⟩ := h
    rfl
  obtain ⟨x, y, A, B, C, D, rfl, hX, hY, k⟩ := h
  have sc := scHoursGo
  refine ⟨_, (pss_cons (ps_for (passes_of rfl) rfl (pi_range1 (by rfl) m_range (pa_cons pe_int pa_nil)) (pg_name (i := 2) sc.nd rfl (Or.inl rfl)) (pss_one (ps_for (passes_of rfl) rfl (pi_range2 (by rfl) m_range (pa_cons pe_int (pa_cons pe_int pa_nil))) (pg_name (i := 3) sc.nd rfl (Or.inl rfl)) (pss_one (ps_if (PW.pt (pw_and (pt_val (pe_f D_good (hr.mono (by decide)) (pa_cons (pv 0) (pa_cons (pv 2) (pa_cons (pv 3) pa_nil))))) (pw_and1 (pt_not (pt_val (pe_f D_good (hr.mono (by decide)) (pa_cons (pv 1) (pa_cons (pv 2) (pa_cons (pv 3) pa_nil))))))))) (pss_one (ps_ret pe_bl)) pss_nil)))))
      (pss_cons (ps_if (PW.pt (pw_and (pt_cmpR o_isN (pe_ix (ixT K) (pv 1) pe_int (fun _ _ => rfl)) pe_non (nomark _)) (pw_and1 (pt_cmpR o_notN (pe_ix (ixT K) (pv 1) pe_int (fun _ _ => rfl)) pe_non (nomark _))))) (pss_one (ps_ret (pe_cmpR o_isN (pe_ix (ixT K) (pv 0) pe_int (fun _ _ => rfl)) pe_non (nomark _)))) pss_nil)
      (pss_one (ps_ret pe_bl)))), ?_⟩
  walk_at "go"
  refine r_rngK 3 rfl (by decide) ?_
  refine r_forR0 (fun i σ H' => ∃ u2 u3, σ = [some x, some y, u2, u3] ∧ Same H H' ∧ ∀ j : Nat, j < i → ∀ p, 1 ≤ p → p < 15 → min p (pw A j) ≤ pw B j → min p (pw C j) ≤ pw D j) ⟨none, none, rfl, Same.refl H, fun j hj => by omega⟩ ?_ ?_
  · rintro i σ H1 hi ⟨u2, u3, rfl, s1, hn⟩
    walk_at "go"
    refine r_rngK2 14 rfl (by decide) ?_
    refine r_forR (fun q σ H' => ∃ u3, σ = [some x, some y, some (V.int (i : Nat)), u3] ∧ Same H H' ∧ ∀ p, 1 ≤ p → p < 1 + q → min p (pw A i) ≤ pw B i → min p (pw C i) ≤ pw D i) ⟨u3, rfl, s1, fun p h1 h2 => by omega⟩ ?_ ?_
    · rintro q σ H2 hq ⟨u3', rfl, s2, hm⟩
      have e1 : (1 : Int) + (q : Int) = ((1 + q : Nat) : Int) := by omega
      rw [e1]
      walk_at "go"
      refine ⟨x, A, B, i, 1 + q, rfl, hX.keep s2, hi, fun H3 s3 => ?_⟩
      walk_at "go"
      have more : (min (1 + q) (pw A i) ≤ pw B i → min (1 + q) (pw C i) ≤ pw D i) → ∀ p, 1 ≤ p → p < 1 + (q + 1) → min p (pw A i) ≤ pw B i → min p (pw C i) ≤ pw D i := fun z p h1 h2 h3 => by
        rcases Nat.lt_or_ge p (1 + q) with h | h
        · exact hm p h1 h h3
        · have : p = 1 + q := by omega
          subst this
          exact z h3
      refine iteB (fun g1 => ?_) fun g1 => ?_
      · walk_at "go"
        refine ⟨y, C, D, i, 1 + q, rfl, hY.keep (s2.trans s3), hi, fun H4 s4 => ?_⟩
        walk_at "go"
        have s24 := (s2.trans s3).trans s4
        by_cases g2 : min (1 + q) (pw C i) ≤ pw D i
        · refine ite_no (by rw [decide_eq_true g2]; rfl) ?_
          walk_at "go"
          exact ⟨_, rfl, s24, more fun _ => g2⟩
        · refine ite_yes (by rw [decide_eq_false g2]; rfl) ?_
          walk_at "go"
          exact k H4 false s24 ⟨fun z => (by cases z), fun z => absurd (of_a3 (p := fun i => ∀ p, 1 ≤ p → p < 15 → min p (pw A i) ≤ pw B i → min p (pw C i) ≤ pw D i) z.1 hi (1 + q) (by omega) (by omega) (of_decide_eq_true g1)) g2⟩
      · walk_at "go"
        exact ⟨_, rfl, s2.trans s3, more fun z => absurd z (of_decide_eq_false g1)⟩
    · rintro σ H2 ⟨u3', rfl, s2, hm⟩
      walk_at "go"
      refine ⟨_, _, rfl, s2, fun j hj => ?_⟩
      rcases Nat.lt_or_ge j i with h | h
      · exact hn j h
      · have : j = i := by omega
        subst this
        exact hm
  · rintro σ H1 ⟨u2, u3, rfl, s1, hn⟩
    have a3 := a3_of hn
    obtain ⟨c, v3, v4, rfl, hc, hC, hD⟩ := hY.keep s1
    obtain ⟨a, v1, v2, rfl, ha, hA, hB⟩ := hX.keep s1
    have yes : ∀ b : Bool, (b = true ↔ (C = none → D ≠ none → A = none)) → (b = true ↔ HG A B C D) := fun b h => h.trans ⟨fun z => ⟨a3, z⟩, fun z => z.2⟩
    walk_at "go"
    refine r_ixT hc (v := v3) rfl ?_
    walk_at "go"
    rw [non_dec hC]
    cases C with
    | some l =>
      refine ite_no rfl ?_
      walk_at "go"
      exact k H1 true s1 (yes true ⟨fun _ z => (by cases z), fun _ => rfl⟩)
    | none =>
      refine ite_yes rfl ?_
      walk_at "go"
      refine r_ixT hc (v := v4) rfl ?_
      walk_at "go"
      rw [non_dec hD]
      cases D with
      | none =>
        refine ite_no rfl ?_
        walk_at "go"
        exact k H1 true s1 (yes true ⟨fun _ _ z => absurd rfl z, fun _ => rfl⟩)
      | some t =>
        refine ite_yes rfl ?_
        walk_at "go"
        refine r_ixT ha (v := v1) rfl ?_
        walk_at "go"
        rw [non_dec hA]
        exact k H1 _ s1 (yes _ (isN_iff.trans ⟨fun z _ _ => z, fun z => z rfl (by intro q; cases q)⟩))
end
end K63
namespace K63
open PySem L2 Er KG
theorem r_neBl {a b : Bool} {H : Hp} {Q : VK} (q : Q (.bl (!decide (a = b))) H) : rNe (.bl a) (.bl b) H Q := ⟨rfl, by
  have e : decide ((V.bl a) = V.bl b) = decide (a = b) := by cases a <;> cases b <;> simp
  rw [e]; exact q⟩
theorem r_eqBl {a b : Bool} {H : Hp} {Q : VK} (q : Q (.bl (decide (a = b))) H) : rEq (.bl a) (.bl b) H Q := ⟨rfl, by
  have e : decide ((V.bl a) = V.bl b) = decide (a = b) := by cases a <;> cases b <;> simp
  rw [e]; exact q⟩
/-- one step of a plain reading -/
local macro_rules | `(tactic| walk_at "step") => `(tactic| first
  | with_reducible refine r_seq ?_ | with_reducible refine r_nx ?_ | with_reducible refine r_asgN ?_ | with_reducible refine r_asgS ?_ | with_reducible refine r_asgT ?_ | with_reducible refine r_ifS ?_
  | with_reducible refine r_ret ?_ | with_reducible refine r_retN ?_ | with_reducible refine r_drop ?_ | with_reducible refine r_test ?_ | with_reducible refine r_B ?_ | with_reducible refine r_not ?_
  | with_reducible refine r_and ?_ | with_reducible refine r_or ?_ | with_reducible refine r_andV ?_ | with_reducible refine r_orV ?_ | with_reducible refine r_notV ?_
  | ((with_reducible refine' r_var ?e ?_); (case e => exact rfl)) | with_reducible refine r_c ?_ | with_reducible refine r_op ?_ | with_reducible refine r_un ?_
  | with_reducible refine r_I0 ?_ | with_reducible refine r_eqI ?_ | with_reducible refine r_neI ?_ | with_reducible refine r_bl ?_ | with_reducible refine r_nil ?_ | with_reducible refine r_cons ?_
  | with_reducible refine r_cb ?_ | with_reducible refine r_call ?_ | with_reducible refine r_tup ?_ | with_reducible refine r_lst ?_ | with_reducible refine r_fld ?_ | with_reducible refine r_bm ?_ | with_reducible refine r_bm0 ?_
  | with_reducible refine r_for ?_ | with_reducible refine r_rng ?_ | with_reducible refine r_rng2 ?_ | with_reducible refine r_lstI ?_ | with_reducible refine r_tupI ?_ | with_reducible refine r_lc ?_
  | with_reducible refine r_augS ?_ | with_reducible refine r_ipI ?_
  | with_reducible refine r_meth ?_ | with_reducible refine r_prop ?_ | with_reducible refine r_make ?_ | with_reducible refine r_din ?_ | with_reducible refine r_dnin ?_ | with_reducible refine r_dput ?_ | with_reducible refine r_dget ?_
  | with_reducible refine r_gN ?_ | with_reducible refine r_tsl ?_ | with_reducible refine r_noP ?_ | with_reducible refine r_part ?_ | with_reducible refine r_pI ?_ | with_reducible refine r_tif ?_ | with_reducible refine r_SL ?_ | with_reducible refine r_gC ?_ | with_reducible refine r_U ?_ | with_reducible refine r_sfld ?_ | with_reducible refine r_dnew ?_ | with_reducible refine r_keys ?_
  | with_reducible refine r_mkE ?_ | with_reducible refine iteT ?_ | with_reducible refine iteF ?_
  | with_reducible refine r_int ?_ | with_reducible refine r_min2 ?_ | with_reducible refine r_isN ?_ | with_reducible refine r_notN ?_)
/-- as far as it goes by itself -/
local macro_rules | `(tactic| walk_at "go") => `(tactic| ((repeat walk_at "step"); (try dsimp only)))


def SameAv (av : List Addr) (H H' : Hp) : Prop := ∀ b o, b ∉ av → H b = some o → H' b = some o
theorem SameAv.of {av : List Addr} {a : Addr} {H H' : Hp} (ha : a ∈ av) (s : SameBut a H H') : SameAv av H H' := fun b o hb z => s b o (fun e => hb (e ▸ ha)) z
theorem SameAv.ofS {av : List Addr} {H H' : Hp} (s : Same H H') : SameAv av H H' := fun b o _ z => s b o z
theorem PwAt.av {H H' : Hp} {v : V} {o : Pw} {av : List Addr} (h : PwAt H v o) (s : SameAv av H H') (n : ∀ c ∈ av, v ≠ .ref c) : PwAt H' v o := by
  rcases h with h | ⟨p, f, e1, e2, h⟩
  · exact .inl h
  · exact .inr ⟨p, f, e1, e2, s _ _ (fun z => n p z e1) h⟩
/-- a row as the law keeps it: the powers of both numbers, and the numbers; all of it apart from the lists of av, which change -/
def RAt (H : Hp) (av : List Addr) (v : V) (A B : Pw) (k s : Int) : Prop := ∃ p r t v1 v2, v = .ref p ∧ H p = some (.lst [.ref r, .ref t]) ∧ H r = some (.tup [v1, v2]) ∧ PwAt H v1 A ∧ PwAt H v2 B ∧ H t = some (.tup [.int k, .int s]) ∧ p ∉ av ∧ r ∉ av ∧ t ∉ av ∧ (∀ c ∈ av, v1 ≠ .ref c) ∧ ∀ c ∈ av, v2 ≠ .ref c
theorem RAt.keep {H H' : Hp} {av : List Addr} {v : V} {A B : Pw} {k s : Int} (h : RAt H av v A B k s) (e : SameAv av H H') : RAt H' av v A B k s := by
  obtain ⟨p, r, t, v1, v2, h0, h1, h2, h3, h4, h5, n1, n2, n3, n4, n5⟩ := h
  exact ⟨p, r, t, v1, v2, h0, e _ _ n1 h1, e _ _ n2 h2, h3.av e n4, h4.av e n5, e _ _ n3 h5, n1, n2, n3, n4, n5⟩
structure Fit (A B : Pw) (k s : Int) : Prop where
  k : k = ((worth A : Nat) : Int)
  s : s.natAbs = worth B
  a : Bd 9 A
  b : Bd 12 B
theorem _root_.KG.Bd.up {m n : Nat} {o : Pw} (h : Bd m o) (l : m ≤ n) : Bd n o := fun f e => by
  obtain ⟨a, b, c⟩ := h f e
  exact ⟨by omega, by omega, by omega⟩
def RX (H : Hp) (av : List Addr) (v : V) : Prop := ∃ A B k s, RAt H av v A B k s ∧ Fit A B k s
theorem RX.keep {H H' : Hp} {av : List Addr} {v : V} (h : RX H av v) (e : SameAv av H H') : RX H' av v := by
  obtain ⟨A, B, k, s, h, f⟩ := h
  exact ⟨A, B, k, s, h.keep e, f⟩
def spKinds : Sp := fun vs H Q _ => ∃ (a : Addr) (ns : List Int), vs = [.ref a] ∧ H a = some (.lst (ns.map V.int)) ∧ ns.length ≤ 100000 ∧
  ∀ (q : Addr) (xs : List V) (ns' : List Int) (H' : Hp), q ≠ a → H' q = some (.lst xs) → xs.length = 3 → (∀ x ∈ xs, RX H' [a, q] x) → ns'.length ≤ ns.length → H' a = some (.lst (ns'.map V.int)) → Q (.ref q) H'
def spPairs : Sp := fun vs H Q _ => ∃ (a : Addr) (ns : List Int) (x y : V) (av : List Addr), vs = [.ref a, x, y] ∧ H a = some (.lst (ns.map V.int)) ∧ ns.length ≤ 100000 ∧ a ∈ av ∧ RX H av x ∧ RX H av y ∧
  ∀ (ns' : List Int) (H' : Hp), ns'.length ≤ ns.length → H' a = some (.lst (ns'.map V.int)) → SameBut a H H' → Q (.bl true) H'
def spEnds (K : PySem.W.Frag) : Sp := fun vs H Q _ => ∃ (a : Addr) (k s : Int), vs = [.ref a] ∧ SqT K H a [.int k, .int s] ∧ 0 ≤ k ∧ k < 2 ^ 60 ∧ s.natAbs < 2 ^ 60 ∧ ∀ H', Same H H' → Q (.bl true) H'
/-- min(f[i], m) -/
theorem cut_int (n m : Nat) : (if ((m : Nat) : Int) < ((n : Nat) : Int) then ((m : Nat) : Int) else ((n : Nat) : Int)) = ((min n m : Nat) : Int) := by split <;> omega
theorem three_lst {H : Hp} {p : Addr} {a b c : Nat} : PwAt (upd H p (.lst [.int (a : Nat), .int (b : Nat), .int (c : Nat)])) (.ref p) (some (f3 a b c)) := .inr ⟨p, _, rfl, rfl, upd_same⟩
theorem same_av {H H' : Hp} {av : List Addr} {p : Addr} {o : HO} (s : SameAv av H H') (h : H p = none) : SameAv av H (upd H' p o) := fun b u n z => by
  rw [upd_ne (ne_of_none z h)]
  exact s b u n z
section
variable {P : Program} {w : World} {K : PySem.W.Frag} {mg : Str → Option Value} {base : Heap} {CN CR : Addr}
theorem scKinds : FnScope ["_law_found", "_law_rows", "_law_turn", "_law_first", "_law_row", "_law_sign"] ["_law_found"] (defScope sKinds) := ⟨rfl, rfl, rfl, by decide +kernel, rfl, by decide +kernel, by decide +kernel⟩
theorem ok_kinds {f : Addr} {fd : FuncData} (F : Fun K "_law_kinds" "_law_kinds" sKinds f fd) (m_range : mg "range" = none) (m_min : mg "min" = none) (D_take : Fok P w K mg base 1 "_law_take" ["_law_found", "_law_many"] spTake) (D_powers : Fok P w K mg base 2 "_law_powers" ["_law_found", "_law_least"] spPowers) (D_worth : Fok P w K mg base 1 "_law_worth" ["_law_powers_here"] spWorth) :
    FnOk P w K mg base (L2.CX P w) 3 f fd ["_law_found"] spKinds := by
  refine F.okX scKinds (fun vs H Q E h => ?_) (fun cdv A' outer s H vs Q E hr h => ?_)
  · obtain ⟨a, ns, rfl, _⟩ := h
    rfl
  obtain ⟨a, ns, rfl, ha, hl, k⟩ := h
  have sc := scKinds
  refine ⟨_, (pss_cons (ps_set (i := 1) sc.nd rfl (Or.inl rfl) (pe_lst pa_nil))
      (pss_cons (ps_for (passes_of rfl) rfl (pi_range1 (by rfl) m_range (pa_cons pe_int pa_nil)) (pg_name (i := 2) sc.nd rfl (Or.inl rfl)) (pss_cons (ps_set (i := 3) sc.nd rfl (Or.inl rfl) (pe_f D_powers (hr.mono (by decide)) (pa_cons (pv 0) (pa_cons pe_int pa_nil))))
      (Evl.pss_cut (ps_if (pt_cmpR o_notN (pv 3) pe_non (nomark _)) (pss_one (ps_set (i := 3) sc.nd rfl (Or.inl rfl) (pe_lst (pa_cons (pe_callB (c_min2 rfl) (by rfl) m_min (by decide +kernel) (pa_cons (pe_ix (ixL K) (pv 3) pe_int (fun _ _ => rfl)) (pa_cons pe_int pa_nil))) (pa_cons (pe_callB (c_min2 rfl) (by rfl) m_min (by decide +kernel) (pa_cons (pe_ix (ixL K) (pv 3) pe_int (fun _ _ => rfl)) (pa_cons pe_int pa_nil))) (pa_cons (pe_callB (c_min2 rfl) (by rfl) m_min (by decide +kernel) (pa_cons (pe_ix (ixL K) (pv 3) pe_int (fun _ _ => rfl)) (pa_cons pe_int pa_nil))) pa_nil)))))) pss_nil)
      (pss_cons (ps_set (i := 4) sc.nd rfl (Or.inl rfl) (pe_tup (pa_cons (pv 3) (pa_cons (pe_f D_powers (hr.mono (by decide)) (pa_cons (pv 0) (pa_cons pe_int pa_nil))) pa_nil))))
      (pss_cons (ps_set (i := 5) sc.nd rfl (Or.inl rfl) (pe_op op_sub pe_int (pe_op op_mul pe_int (pe_f D_take (hr.mono (by decide)) (pa_cons (pv 0) (pa_cons pe_int pa_nil))))))
      (pss_one (ps_expr (pe_bm PySem.F.plainAttrs_list PySem.F.slot_list_append PySem.F.type_list_append mt_append (pv 1) (pa_cons (pe_lst (pa_cons (pv 4) (pa_cons (pe_tup (pa_cons (pe_f D_worth (hr.mono (by decide)) (pa_cons (pe_ix (ixT K) (pv 4) pe_int (fun _ _ => rfl)) pa_nil)) (pa_cons (pe_op op_mul (pv 5) (pe_f D_worth (hr.mono (by decide)) (pa_cons (pe_ix (ixT K) (pv 4) pe_int (fun _ _ => rfl)) pa_nil))) pa_nil))) pa_nil))) pa_nil)))))))))
      (Evl.pss_cut (ps_if (pt_cmpR op_eq (pe_f D_take (hr.mono (by decide)) (pa_cons (pv 0) (pa_cons pe_int pa_nil))) pe_int (nomark _)) (pss_one (ps_asg (pe_ix (ixL K) (pv 1) pe_int (fun _ _ => rfl)) (pg_sub (pv 1) pe_int set_list))) pss_nil)
      (pss_one (ps_ret (pv 1)))))), ?_⟩
  walk_at "go"
  refine ⟨by decide, fun q hq => ?_⟩
  walk_at "go"
  have qa : q ≠ a := fun z => by rw [z, ha] at hq; cases hq
  refine r_rngK 3 rfl (by decide) ?_
  refine r_forR0 (fun i σ H' => ∃ (u2 u3 u4 u5 : Option V) (xs : List V) (ns' : List Int), σ = [some (V.ref a), some (V.ref q), u2, u3, u4, u5] ∧ H' q = some (.lst xs) ∧ xs.length = i ∧ (∀ x ∈ xs, RX H' [a, q] x) ∧ ns'.length ≤ ns.length ∧ H' a = some (.lst (ns'.map V.int)))
    ⟨none, none, none, none, [], ns, rfl, upd_same, rfl, (fun x hx => by cases hx), Nat.le_refl _, by rw [upd_ne (Ne.symm qa)]; exact ha⟩ ?_ ?_
  · rintro i σ H1 hi ⟨u2, u3, u4, u5, xs, ns1, rfl, hq1, hxl, hxs, hn1, ha1⟩
    have inA : a ∈ [a, q] := List.mem_cons_self ..
    have inQ : q ∈ [a, q] := by simp
    walk_at "go"
    refine ⟨a, ns1, 0, rfl, ha1, by omega, fun v o ns2 H2 hv nv bo _ hn2 ha2 s2 => ?_⟩
    have av2 : SameAv [a, q] H1 H2 := .of inA s2
    have hq2 := s2 _ _ qa hq1
    have vq : ∀ c ∈ [a, q], v ≠ .ref c := fun c hc e => by
      have := nv c e
      rcases List.mem_cons.mp hc with z | hc
      · rw [z, ha1] at this; cases this
      · rw [List.mem_singleton.mp hc, hq1] at this; cases this
    walk_at "go"
    refine r_cut (Mid := fun σ H' => ∃ v3 A, σ = [some (V.ref a), some (V.ref q), some (V.int (i : Nat)), some v3, u4, u5] ∧ PwAt H' v3 A ∧ Bd 9 A ∧ (∀ c ∈ [a, q], v3 ≠ .ref c) ∧ Same H2 H') ?_ ?_
    · walk_at "go"
      rw [non_dec hv]
      cases o with
      | none =>
        refine ite_no rfl ?_
        walk_at "go"
        exact ⟨v, none, rfl, hv, bd_none, vq, Same.refl _⟩
      | some g =>
        refine ite_yes rfl ?_
        obtain ⟨_, e⟩ | ⟨p, g', rfl, e, hp⟩ := hv
        · cases e
        cases e
        walk_at "go"
        refine r_ixL (SqL.of hp) (v := .int (g 0 : Nat)) rfl ?_
        walk_at "go"
        refine r_ixL (SqL.of hp) (v := .int (g 1 : Nat)) rfl ?_
        walk_at "go"
        refine r_ixL (SqL.of hp) (v := .int (g 2 : Nat)) rfl ?_
        walk_at "go"
        refine ⟨by show 3 ≤ sizeLine; decide, fun t ht => ?_⟩
        walk_at "go"
        have c0 := cut_int (g 0) 9
        have c1 := cut_int (g 1) 5
        have c2 := cut_int (g 2) 3
        refine ⟨.ref t, some (f3 (min (g 0) 9) (min (g 1) 5) (min (g 2) 3)), rfl, ?_, bd_f3 (by omega) (by omega) (by omega), fun c hc e => ?_, same_new ht⟩
        · have := three_lst (H := H2) (p := t) (a := min (g 0) 9) (b := min (g 1) 5) (c := min (g 2) 3)
          rw [← c0, ← c1, ← c2] at this
          exact this
        · cases e
          rcases List.mem_cons.mp hc with z | hc
          · rw [z, ha2] at ht; cases ht
          · rw [List.mem_singleton.mp hc, hq2] at ht; cases ht
    rintro σ H3 ⟨v3, A, rfl, hA, bA, nA, s3⟩
    have ha3 := s3 _ _ ha2
    have hq3 := s3 _ _ hq2
    walk_at "go"
    refine ⟨a, ns2, 0, rfl, ha3, by omega, fun v4 B ns4 H4 hB nB bB _ hn4 ha4 s4 => ?_⟩
    have nB' : ∀ c ∈ [a, q], v4 ≠ .ref c := fun c hc e => by
      have := nB c e
      rcases List.mem_cons.mp hc with z | hc
      · rw [z, ha3] at this; cases this
      · rw [List.mem_singleton.mp hc, hq3] at this; cases this
    have av4 : SameAv [a, q] H3 H4 := .of inA s4
    have hq4 := s4 _ _ qa hq3
    walk_at "go"
    refine ⟨by show 2 ≤ sizeLine; decide, fun r hr' => ?_⟩
    walk_at "go"
    have ra : r ≠ a := fun z => by rw [z, ha4] at hr'; cases hr'
    have rq : r ≠ q := fun z => by rw [z, hq4] at hr'; cases hr'
    have s5 := same_new (o := .tup [v3, v4]) hr'
    have hr5 : upd H4 r (.tup [v3, v4]) r = some (.tup [v3, v4]) := upd_same
    have ha5 := s5 _ _ ha4
    have hq5 := s5 _ _ hq4
    have hA5 : PwAt (upd H4 r (.tup [v3, v4])) v3 A := (hA.av av4 nA).keep s5
    have hB5 : PwAt (upd H4 r (.tup [v3, v4])) v4 B := hB.keep s5
    have av5 : SameAv [a, q] H1 (upd H4 r (.tup [v3, v4])) := fun b u n z => s5 _ _ (av4 b u n (s3 _ _ (av2 b u n z)))
    generalize upd H4 r (.tup [v3, v4]) = H5 at s5 hr5 ha5 hq5 hA5 hB5 av5
    refine ⟨a, ns4, 2, rfl, ha5, by omega, by decide, fun z ns6 H6 z0 z2 hn6 ha6 s6 => ?_⟩
    have av6 : SameAv [a, q] H5 H6 := .of inA s6
    have hq6 := s6 _ _ qa hq5
    have hr6 := s6 _ _ ra hr5
    walk_at "go"
    refine r_I (.inl ⟨by decide, by decide⟩) ?_
    walk_at "go"
    refine r_tyL (SqL.of hq6) ?_
    walk_at "go"
    refine r_ixT (SqT.of hr6) (v := v3) rfl ?_
    walk_at "go"
    refine ⟨v3, A, rfl, hA5.av av6 nA, bA.up (by decide), fun H7 s7 => ?_⟩
    walk_at "go"
    refine r_ixT (SqT.of (s7 _ _ hr6)) (v := v4) rfl ?_
    walk_at "go"
    refine ⟨v4, B, rfl, (hB5.av av6 nB').keep s7, bB, fun H8 s8 => ?_⟩
    have s78 := s7.trans s8
    walk_at "go"
    refine r_I (.inl ⟨by omega, by omega⟩) ?_
    walk_at "go"
    refine ⟨by show 2 ≤ sizeLine; decide, fun t ht => ?_⟩
    walk_at "go"
    refine ⟨by show 2 ≤ sizeLine; decide, fun p hp => ?_⟩
    walk_at "go"
    have ha8 := s78 _ _ ha6
    have hq8 := s78 _ _ hq6
    have hr8 := s78 _ _ hr6
    have ta : t ≠ a := fun z => by rw [z, ha8] at ht; cases ht
    have tq : t ≠ q := fun z => by rw [z, hq8] at ht; cases ht
    have s9 := same_new (o := .tup [V.int ((worth A : Nat) : Int), V.int ((1 - 2 * z) * ((worth B : Nat) : Int))]) ht
    have ha9 := s9 _ _ ha8
    have hq9 := s9 _ _ hq8
    have pa : p ≠ a := fun z => by rw [z, ha9] at hp; cases hp
    have pq : p ≠ q := fun z => by rw [z, hq9] at hp; cases hp
    have s10 := same_new (o := .lst [V.ref r, V.ref t]) hp
    refine r_app (s10 _ _ hq9) (by rw [hxl]; exact Nat.lt_of_lt_of_le hi (by decide)) ?_
    walk_at "go"
    have s6to10 := (s78.trans s9).trans s10
    have av10 : SameAv [a, q] H1 _ := fun b u n y => s6to10 _ _ (av6 b u n (av5 b u n y))
    have put : SameAv [a, q] (upd (upd H8 t (.tup [V.int ((worth A : Nat) : Int), V.int ((1 - 2 * z) * ((worth B : Nat) : Int))])) p (.lst [V.ref r, V.ref t])) (upd (upd (upd H8 t (.tup [V.int ((worth A : Nat) : Int), V.int ((1 - 2 * z) * ((worth B : Nat) : Int))])) p (.lst [V.ref r, V.ref t])) q (.lst (xs ++ [V.ref p]))) := fun b u n y => by
      rw [upd_ne (fun e => n (by rw [e]; exact inQ))]
      exact y
    refine ⟨_, _, _, _, xs ++ [.ref p], ns6, rfl, upd_same, by rw [List.length_append, hxl]; rfl, fun x hx => ?_, by omega, ?_⟩
    · rcases List.mem_append.mp hx with hx | hx
      · exact ((hxs x hx).keep av10).keep put
      · rw [List.mem_singleton.mp hx]
        refine RX.keep ?_ put
        refine ⟨A, B, _, _, ⟨p, r, t, v3, v4, rfl, upd_same, s10 _ _ (s9 _ _ hr8), ((hA5.av av6 nA).keep s6to10), ((hB5.av av6 nB').keep s6to10), s10 _ _ upd_same, ?_, ?_, ?_, nA, nB'⟩, ⟨rfl, ?_, bA, bB⟩⟩
        · simp [pa, pq]
        · simp [ra, rq]
        · simp [ta, tq]
        · rw [Int.natAbs_mul, Int.natAbs_natCast]
          have : (1 - 2 * z).natAbs = 1 := by omega
          rw [this, Nat.one_mul]
    · rw [upd_ne (Ne.symm qa)]
      exact s10 _ _ ha9
  · rintro σ H1 ⟨u2, u3, u4, u5, xs, ns1, rfl, hq1, hxl, hxs, hn1, ha1⟩
    have inA : a ∈ [a, q] := List.mem_cons_self ..
    have inQ : q ∈ [a, q] := by simp
    walk_at "go"
    refine r_cut (Mid := fun σ H' => ∃ (xs : List V) (ns' : List Int), σ = [some (V.ref a), some (V.ref q), u2, u3, u4, u5] ∧ H' q = some (.lst xs) ∧ xs.length = 3 ∧ (∀ x ∈ xs, RX H' [a, q] x) ∧ ns'.length ≤ ns.length ∧ H' a = some (.lst (ns'.map V.int))) ?_ ?_
    · walk_at "go"
      refine ⟨a, ns1, 3, rfl, ha1, by omega, by decide, fun z ns2 H2 z0 z3 hn2 ha2 s2 => ?_⟩
      have av2 : SameAv [a, q] H1 H2 := .of inA s2
      have hq2 := s2 _ _ qa hq1
      walk_at "go"
      refine iteB (fun e => ?_) fun e => ?_
      · obtain ⟨x0, x1, x2, rfl⟩ : ∃ x0 x1 x2, xs = [x0, x1, x2] := by
          match xs, hxl with
          | [x0, x1, x2], _ => exact ⟨x0, x1, x2, rfl⟩
        walk_at "go"
        refine r_ixL (SqL.of hq2) (v := x0) rfl ?_
        walk_at "go"
        refine r_setL hq2 (j := 1) rfl ?_
        have put : SameAv [a, q] H2 (upd H2 q (.lst ([x0, x1, x2].set 1 x0))) := fun b u n y => by
          rw [upd_ne (fun e => n (by rw [e]; exact inQ))]
          exact y
        refine ⟨[x0, x0, x2], ns2, rfl, upd_same, rfl, fun x hx => ?_, by omega, by rw [upd_ne (Ne.symm qa)]; exact ha2⟩
        have hx' : x ∈ [x0, x1, x2] := by
          simp at hx ⊢
          rcases hx with h | h
          · exact .inl h
          · exact .inr (.inr h)
        exact ((hxs x hx').keep av2).keep put
      · walk_at "go"
        exact ⟨xs, ns2, rfl, hq2, hxl, fun x hx => (hxs x hx).keep av2, by omega, ha2⟩
    · rintro σ H2 ⟨xs2, ns2, rfl, hq2, hl2, hxs2, hn2, ha2⟩
      walk_at "go"
      exact k q xs2 ns2 H2 qa hq2 hl2 hxs2 hn2 ha2
end
end K63
namespace K63
open PySem L2 Er KG
/-- one step of a plain reading -/
local macro_rules | `(tactic| walk_at "step") => `(tactic| first
  | with_reducible refine r_seq ?_ | with_reducible refine r_nx ?_ | with_reducible refine r_asgN ?_ | with_reducible refine r_asgS ?_ | with_reducible refine r_asgT ?_ | with_reducible refine r_ifS ?_
  | with_reducible refine r_ret ?_ | with_reducible refine r_retN ?_ | with_reducible refine r_drop ?_ | with_reducible refine r_test ?_ | with_reducible refine r_B ?_ | with_reducible refine r_not ?_
  | with_reducible refine r_and ?_ | with_reducible refine r_or ?_ | with_reducible refine r_andV ?_ | with_reducible refine r_orV ?_ | with_reducible refine r_notV ?_
  | ((with_reducible refine' r_var ?e ?_); (case e => exact rfl)) | with_reducible refine r_c ?_ | with_reducible refine r_op ?_ | with_reducible refine r_un ?_
  | with_reducible refine r_I0 ?_ | with_reducible refine r_eqI ?_ | with_reducible refine r_neI ?_ | with_reducible refine r_bl ?_ | with_reducible refine r_nil ?_ | with_reducible refine r_cons ?_
  | with_reducible refine r_cb ?_ | with_reducible refine r_call ?_ | with_reducible refine r_tup ?_ | with_reducible refine r_lst ?_ | with_reducible refine r_fld ?_ | with_reducible refine r_bm ?_ | with_reducible refine r_bm0 ?_
  | with_reducible refine r_for ?_ | with_reducible refine r_rng ?_ | with_reducible refine r_rng2 ?_ | with_reducible refine r_lstI ?_ | with_reducible refine r_tupI ?_ | with_reducible refine r_lc ?_
  | with_reducible refine r_augS ?_ | with_reducible refine r_ipI ?_
  | with_reducible refine r_meth ?_ | with_reducible refine r_prop ?_ | with_reducible refine r_make ?_ | with_reducible refine r_din ?_ | with_reducible refine r_dnin ?_ | with_reducible refine r_dput ?_ | with_reducible refine r_dget ?_
  | with_reducible refine r_gN ?_ | with_reducible refine r_tsl ?_ | with_reducible refine r_noP ?_ | with_reducible refine r_part ?_ | with_reducible refine r_pI ?_ | with_reducible refine r_tif ?_ | with_reducible refine r_SL ?_ | with_reducible refine r_gC ?_ | with_reducible refine r_U ?_ | with_reducible refine r_sfld ?_ | with_reducible refine r_dnew ?_ | with_reducible refine r_keys ?_
  | with_reducible refine r_mkE ?_ | with_reducible refine iteT ?_ | with_reducible refine iteF ?_
  | with_reducible refine r_int ?_ | with_reducible refine r_min2 ?_ | with_reducible refine r_isN ?_ | with_reducible refine r_notN ?_)
/-- as far as it goes by itself -/
local macro_rules | `(tactic| walk_at "go") => `(tactic| ((repeat walk_at "step"); (try dsimp only)))


theorem kind_at {K : PySem.W.Frag} {H : Hp} {a : Addr} {k s : Int} (h : SqX K H a [.int k, .int s]) (h0 : 0 ≤ k) : KindAt K H (.ref a) (some (k, s)) := .inr ⟨a, _, rfl, h, fun v hv => by
  rcases List.mem_cons.mp hv with rfl | hv
  · exact ⟨_, .int _⟩
  · rw [List.mem_singleton.mp hv]
    exact ⟨_, .int _⟩, by
  show _ = if 0 ≤ k then some (k, s) else none
  rw [if_pos h0]⟩
theorem W_two {h : Nat → Nat} (z : ¬ (h 0 = 0 ∧ h 1 = 0 ∧ h 2 = 0)) : 2 ≤ W h := by
  have g : ∀ p n : Nat, 2 ≤ p → 1 ≤ p ^ n := fun p n hp => Nat.pow_pos (by omega)
  have g2 : ∀ p n : Nat, 2 ≤ p → n ≠ 0 → 2 ≤ p ^ n := fun p n hp hn => by
    obtain ⟨m, rfl⟩ : ∃ m, n = m + 1 := ⟨n - 1, by omega⟩
    rw [Nat.pow_succ]
    exact Nat.le_trans hp (Nat.le_mul_of_pos_left p (Nat.pow_pos (by omega)))
  unfold W
  have a := g 2 (h 0) (by decide)
  have b := g 3 (h 1) (by decide)
  have c := g 5 (h 2) (by decide)
  have m : ∀ x y : Nat, 1 ≤ x → 1 ≤ y → 1 ≤ x * y := fun x y hx hy => Nat.mul_pos hx hy
  by_cases h0 : h 0 = 0
  · by_cases h1 : h 1 = 0
    · have := g2 5 (h 2) (by decide) (fun e => z ⟨h0, h1, e⟩)
      exact Nat.le_trans this (Nat.le_mul_of_pos_left _ (m _ _ a b))
    · have := g2 3 (h 1) (by decide) h1
      exact Nat.le_trans this (Nat.le_trans (Nat.le_mul_of_pos_left _ a) (Nat.le_mul_of_pos_right _ c))
  · have := g2 2 (h 0) (by decide) h0
    exact Nat.le_trans this (Nat.le_trans (Nat.le_mul_of_pos_right _ b) (Nat.le_mul_of_pos_right _ c))
def lst3 (a b c : Int) : PyData := .list [.int a, .int b, .int c]
theorem dp_lst3 {K : PySem.W.Frag} {H : Hp} {p : Addr} {a b c : Int} (h : H p = some (.lst [.int a, .int b, .int c])) : Dp K H (.ref p) (lst3 a b c) := .lst (SqL.of h) (.cons (.int _) (.cons (.int _) (.cons (.int _) .nil)))
theorem okd_lst3 (a b c : Int) : Okd 1 (lst3 a b c) := okd_lst (k := 0) fun d hd => by
  rcases List.mem_cons.mp hd with rfl | hd
  · exact okd_int _
  rcases List.mem_cons.mp hd with rfl | hd
  · exact okd_int _
  rw [List.mem_singleton.mp hd]
  exact okd_int _
theorem bool_eq {a b : Bool} {p : Prop} (h1 : a = true ↔ p) (h2 : b = true ↔ p) : a = b := by
  cases a <;> cases b <;> simp_all
section
variable {P : Program} {w : World} {K : PySem.W.Frag} {mg : Str → Option Value} {base : Heap} {CN CR : Addr}
theorem scPair : FnScope ["_law_found", "_law_one", "_law_other", "_law_gives", "_law_due", "_law_drawn_here", "_law_powers_here", "_law_sums", "_law_within"] ["_law_found", "_law_one", "_law_other"] (defScope sPair) := ⟨rfl, rfl, rfl, by decide +kernel, rfl, by decide +kernel, by decide +kernel⟩
theorem ok_pair {f : Addr} {fd : FuncData} (F : Fun K "_law_pair" "_law_pair" sPair f fd) (m_list : mg "list" = none) (m_isinstance : mg "isinstance" = none) (m_bool : mg "bool" = none) (m_min : mg "min" = none) (m_int : mg "int" = none)
    (D_gives : Fok P w K mg base 4 "loop_gives" ["one", "other"] (spGives K CR)) (D_sums : Fok P w K mg base 4 "loop_sums" ["one", "other", "hours"] (spSums K CN CR)) (D_powers : Fok P w K mg base 2 "_law_powers" ["_law_found", "_law_least"] spPowers) (D_worth : Fok P w K mg base 1 "_law_worth" ["_law_powers_here"] spWorth)
    (D_goes : Fok P w K mg base 2 "_law_goes" ["_law_one", "_law_other"] (spGoes K)) (D_goesmod : Fok P w K mg base 3 "_law_goes_mod" ["_law_one", "_law_other", "_law_hours"] (spGoesMod K)) (D_hours : Fok P w K mg base 3 "_law_hours_go_on" ["_law_one", "_law_other"] (spHours K)) :
    FnOk P w K mg base (L2.CX P w) 5 f fd ["_law_found", "_law_one", "_law_other"] spPairs := by
  refine F.okX scPair (fun vs H Q E h => ?_) (fun cdv A' outer s' H vs Q E hr h => ?_)
  · obtain ⟨a, ns, x, y, av, rfl, _⟩ := h
    rfl
  obtain ⟨a, ns, x, y, av, rfl, ha, hl, hav, ⟨A, B, k, s, hX, fX⟩, ⟨C, D, l, t, hY, fY⟩, q⟩ := h
  obtain ⟨p1, r1, t1, v1, v2, rfl, hp1, hr1, hA, hB, ht1, np1, nr1, nt1, nA, nB⟩ := hX
  obtain ⟨p2, r2, t2, v3, v4, rfl, hp2, hr2, hC, hD, ht2, np2, nr2, nt2, nC, nD⟩ := hY
  obtain ⟨rfl, hs, bA, bB⟩ := fX
  obtain ⟨rfl, ht, bC, bD⟩ := fY
  have bA12 : Bd 12 A := bA.up (by decide)
  have bC12 : Bd 12 C := bC.up (by decide)
  have lA := worth_lt bA12
  have lB := worth_lt bB
  have lC := worth_lt bC12
  have sc := scPair
  refine ⟨_, (pss_cons (ps_set (i := 3) sc.nd rfl (Or.inl rfl) (pe_f D_gives (hr.mono (by decide)) (pa_cons (pe_callTy (listOK K) (by rfl) m_list (by decide +kernel) (pa_cons (pe_ix (ixL K) (pv 1) pe_int (fun _ _ => rfl)) pa_nil)) (pa_cons (pe_ix (ixL K) (pv 2) pe_int (fun _ _ => rfl)) pa_nil))))
      (pss_cons (ps_set (i := 4) sc.nd rfl (Or.inl rfl) (pe_f D_goes (hr.mono (by decide)) (pa_cons (pe_ix (ixL K) (pv 1) pe_int (fun _ _ => rfl)) (pa_cons (pe_ix (ixL K) (pv 2) pe_int (fun _ _ => rfl)) pa_nil))))
      (pss_cons (ps_if (PW.pt (pw_or (pt_cmpR op_ne (pv 3) (pv 4) (nomark _)) (pw_or1 (pt_not (pt_val (pe_callB call_isi (by rfl) m_isinstance (by decide +kernel) (pa_cons (pv 3) (pa_cons (pe_bltn (v := .ty "bool") (u := .type "bool") (by rfl) m_bool (by decide +kernel) rfl) pa_nil)))))))) (pss_one (ps_ret pe_bl)) pss_nil)
      (pss_cons (ps_set (i := 5) sc.nd rfl (Or.inl rfl) (pe_f D_powers (hr.mono (by decide)) (pa_cons (pv 0) (pa_cons pe_int pa_nil))))
      (pss_cons (ps_set (i := 6) sc.nd rfl (Or.inl rfl) (pe_lst (pa_cons (pe_callB (c_min2 rfl) (by rfl) m_min (by decide +kernel) (pa_cons (pe_ix (ixL K) (pv 5) pe_int (fun _ _ => rfl)) (pa_cons pe_int pa_nil))) (pa_cons (pe_callB (c_min2 rfl) (by rfl) m_min (by decide +kernel) (pa_cons (pe_ix (ixL K) (pv 5) pe_int (fun _ _ => rfl)) (pa_cons pe_int pa_nil))) (pa_cons (pe_callB (c_min2 rfl) (by rfl) m_min (by decide +kernel) (pa_cons (pe_ix (ixL K) (pv 5) pe_int (fun _ _ => rfl)) (pa_cons pe_int pa_nil))) pa_nil)))))
      (Evl.pss_cut (ps_if (pt_cmpR (op_eqD hr.units) (pv 6) (pe_lst (pa_cons pe_int (pa_cons pe_int (pa_cons pe_int pa_nil)))) (nomark _)) (pss_one (ps_set (i := 6) sc.nd rfl (Or.inl rfl) (pe_lst (pa_cons pe_int (pa_cons pe_int (pa_cons pe_int pa_nil)))))) pss_nil)
      (pss_cons (ps_set (i := 7) sc.nd rfl (Or.inl rfl) (pe_f D_sums (hr.mono (by decide)) (pa_cons (pe_ix (ixL K) (pv 1) pe_int (fun _ _ => rfl)) (pa_cons (pe_callTy (listOK K) (by rfl) m_list (by decide +kernel) (pa_cons (pe_ix (ixL K) (pv 2) pe_int (fun _ _ => rfl)) pa_nil)) (pa_cons (pe_f D_worth (hr.mono (by decide)) (pa_cons (pv 6) pa_nil)) pa_nil)))))
      (Evl.pss_cut (ps_if (PW.pt (pw_or (pt_cmpR op_ne (pv 7) (pe_f D_goesmod (hr.mono (by decide)) (pa_cons (pe_ix (ixL K) (pv 1) pe_int (fun _ _ => rfl)) (pa_cons (pe_ix (ixL K) (pv 2) pe_int (fun _ _ => rfl)) (pa_cons (pv 6) pa_nil)))) (nomark _)) (pw_or (pt_not (pt_val (pe_callB call_isi (by rfl) m_isinstance (by decide +kernel) (pa_cons (pv 7) (pa_cons (pe_bltn (v := .ty "bool") (u := .type "bool") (by rfl) m_bool (by decide +kernel) rfl) pa_nil))))) (pw_or1 (PW.pt (pw_and (pt_val (pv 3)) (pw_and1 (pt_not (pt_val (pv 7)))))))))) (pss_one (ps_ret pe_bl)) pss_nil)
      (Evl.pss_cut (ps_if (PW.pt (pw_and (pt_val (pv 3)) (pw_and1 (pt_not (pt_val (pe_f D_hours (hr.mono (by decide)) (pa_cons (pe_ix (ixL K) (pv 1) pe_int (fun _ _ => rfl)) (pa_cons (pe_ix (ixL K) (pv 2) pe_int (fun _ _ => rfl)) pa_nil)))))))) (pss_one (ps_ret pe_bl)) pss_nil)
      (Evl.pss_cut (ps_set (i := 8) sc.nd rfl (Or.inl rfl) (pe_and (pe_cmpR op_gt (pe_ix (ixT K) (pe_ix (ixL K) (pv 2) pe_int (fun _ _ => rfl)) pe_int (fun _ _ => rfl)) pe_int (nomark _)) (pe_one (pe_cmpR op_eq (pe_op op_mod (pe_callTy c_int (by rfl) m_int (by decide +kernel) (pa_cons (pe_ix (ixT K) (pe_ix (ixL K) (pv 1) pe_int (fun _ _ => rfl)) pe_int (fun _ _ => rfl)) pa_nil)) (pe_ix (ixT K) (pe_ix (ixL K) (pv 2) pe_int (fun _ _ => rfl)) pe_int (fun _ _ => rfl))) pe_int (nomark _)))))
      (pss_cons (ps_if (PW.pt (pw_and (PW.pt (pw_or (pt_cmpR op_eq (pe_ix (ixT K) (pe_ix (ixL K) (pv 1) pe_int (fun _ _ => rfl)) pe_int (fun _ _ => rfl)) pe_int (nomark _)) (pw_or1 (pt_val (pv 8))))) (pw_and1 (pt_val (pe_f D_hours (hr.mono (by decide)) (pa_cons (pe_ix (ixL K) (pv 1) pe_int (fun _ _ => rfl)) (pa_cons (pe_ix (ixL K) (pv 2) pe_int (fun _ _ => rfl)) pa_nil))))))) (pss_one (ps_ret (pv 3))) pss_nil)
      (pss_one (ps_ret pe_bl))))))))))))), ?_⟩
  walk_at "go"
  refine r_ixL (SqL.of hp1) (v := .ref t1) rfl ?_
  walk_at "go"
  refine r_listO (.inr (SqT.of ht1)) fun c1 hc1 => ?_
  walk_at "go"
  have s1 := same_new (o := .lst [V.int ((worth A : Nat) : Int), V.int s]) hc1
  refine r_ixL (SqL.of (s1 _ _ hp2)) (v := .ref t2) rfl ?_
  walk_at "go"
  refine ⟨.ref c1, .ref t2, some (_, s), some (_, t), rfl, kind_at (SqX.L upd_same) (by omega), kind_at (SqX.T (s1 _ _ ht2)) (by omega), fun z => (by cases z), fun _ z => (by cases z), fun k' s' l' t' e1 e2 => ?_⟩
  cases e1
  cases e2
  refine ⟨by omega, by omega, by omega, fun H2 s2 => ?_⟩
  rw [Int.natAbs_natCast, Int.natAbs_natCast, hs, ht]
  have hgo := gives_GO (K := A) (S := B) (L := C) (T := D) bB bC12 bD
  have s12 := s1.trans s2
  generalize hg : gives (worth A) (worth B) (worth C) (worth D) = g at hgo
  walk_at "go"
  refine r_ixL (SqL.of (s12 _ _ hp1)) (v := .ref r1) rfl ?_
  walk_at "go"
  refine r_ixL (SqL.of (s12 _ _ hp2)) (v := .ref r2) rfl ?_
  walk_at "go"
  refine ⟨.ref r1, .ref r2, A, B, C, D, rfl, ⟨r1, v1, v2, rfl, SqT.of (s12 _ _ hr1), hA.keep s12, hB.keep s12⟩, ⟨r2, v3, v4, rfl, SqT.of (s12 _ _ hr2), hC.keep s12, hD.keep s12⟩, fun H3 b s3 hb => ?_⟩
  have e1 : b = g := bool_eq hb hgo
  subst e1
  have s13 := s12.trans s3
  walk_at "go"
  refine r_neBl ?_
  refine r_bl ?_
  refine ite_no (by simp) ?_
  walk_at "go"
  refine ⟨.bl b, .ty "bool", .type "bool", .type "bool", true, rfl, .ty _, sm_ty (.bl b), kit_ty (by decide +kernel), ?_⟩
  walk_at "go"
  refine ite_no rfl ?_
  walk_at "go"
  refine ⟨a, ns, 1, rfl, s13 _ _ ha, hl, fun v o ns4 H4 hv nv bo one hn4 ha4 s4 => ?_⟩
  obtain ⟨_, e⟩ | ⟨p5, g5, rfl, e, hp5⟩ := hv
  · exact absurd e (one (by decide))
  cases e
  have sb4 : SameBut a H H4 := (SameBut.of s13).trans s4
  have av4 : SameAv av H H4 := .of hav sb4
  walk_at "go"
  refine r_ixL (SqL.of hp5) (v := .int (g5 0 : Nat)) rfl ?_
  walk_at "go"
  refine r_ixL (SqL.of hp5) (v := .int (g5 1 : Nat)) rfl ?_
  walk_at "go"
  refine r_ixL (SqL.of hp5) (v := .int (g5 2 : Nat)) rfl ?_
  walk_at "go"
  refine ⟨by show 3 ≤ sizeLine; decide, fun p6 hp6 => ?_⟩
  walk_at "go"
  have c0 := cut_int (g5 0) 9
  have c1' := cut_int (g5 1) 5
  have c2 := cut_int (g5 2) 3
  have h6 := three_lst (H := H4) (p := p6) (a := min (g5 0) 9) (b := min (g5 1) 5) (c := min (g5 2) 3)
  rw [← c0, ← c1', ← c2] at h6
  have s6 := same_new (o := .lst [V.int (if (9 : Int) < ((g5 0 : Nat) : Int) then 9 else ((g5 0 : Nat) : Int)), V.int (if (5 : Int) < ((g5 1 : Nat) : Int) then 5 else ((g5 1 : Nat) : Int)), V.int (if (3 : Int) < ((g5 2 : Nat) : Int) then 3 else ((g5 2 : Nat) : Int))]) hp6
  have h6l : (upd H4 p6 (.lst [V.int (if (9 : Int) < ((g5 0 : Nat) : Int) then 9 else ((g5 0 : Nat) : Int)), V.int (if (5 : Int) < ((g5 1 : Nat) : Int) then 5 else ((g5 1 : Nat) : Int)), V.int (if (3 : Int) < ((g5 2 : Nat) : Int) then 3 else ((g5 2 : Nat) : Int))])) p6 = _ := upd_same
  have ha6 := s6 _ _ ha4
  have pa6 : p6 ≠ a := fun z => by rw [z, ha4] at hp6; cases hp6
  generalize upd H4 p6 _ = H6 at s6 h6 h6l ha6 ⊢
  refine r_cut (Mid := fun σ H' => ∃ v6 h, σ = [some (V.ref a), some (V.ref p1), some (V.ref p2), some (V.bl b), some (V.bl b), some (V.ref p5), some v6, none, none] ∧ PwAt H' v6 (some h) ∧ Bd 9 (some h) ∧ 2 ≤ W h ∧ Same H6 H') ?_ ?_
  · walk_at "go"
    refine ⟨by show 3 ≤ sizeLine; decide, fun p7 hp7 => ?_⟩
    walk_at "go"
    have s7 := same_new (o := .lst [V.int 0, V.int 0, V.int 0]) hp7
    refine ⟨_, _, dp_lst3 (s7 _ _ h6l), dp_lst3 upd_same, (okd_lst3 _ _ _).sh, (okd_lst3 _ _ _).sh, ?_⟩
    walk_at "go"
    refine iteB (fun e => ?_) fun e => ?_
    · walk_at "go"
      refine ⟨by show 3 ≤ sizeLine; decide, fun p8 hp8 => ?_⟩
      walk_at "go"
      exact ⟨.ref p8, f3 1 0 1, rfl, three_lst (a := 1) (b := 0) (c := 1), bd_f3 (by decide) (by decide) (by decide), W_two (by decide), s7.trans (same_new hp8)⟩
    · walk_at "go"
      refine ⟨.ref p6, f3 (min (g5 0) 9) (min (g5 1) 5) (min (g5 2) 3), rfl, h6.keep s7, bd_f3 (by omega) (by omega) (by omega), W_two fun z => ?_, s7⟩
      obtain ⟨z0, z1, z2⟩ := z
      have z0 : min (g5 0) 9 = 0 := z0
      have z1 : min (g5 1) 5 = 0 := z1
      have z2 : min (g5 2) 3 = 0 := z2
      have w0 : (if (9 : Int) < ((g5 0 : Nat) : Int) then (9 : Int) else ((g5 0 : Nat) : Int)) = 0 := by split <;> omega
      have w1 : (if (5 : Int) < ((g5 1 : Nat) : Int) then (5 : Int) else ((g5 1 : Nat) : Int)) = 0 := by split <;> omega
      have w2 : (if (3 : Int) < ((g5 2 : Nat) : Int) then (3 : Int) else ((g5 2 : Nat) : Int)) = 0 := by split <;> omega
      rw [w0, w1, w2] at e
      have := SeqAt.eqv_refl (lst3 0 0 0) (okd_lst3 0 0 0).1
      have e' : PyData.eqv (lst3 0 0 0) (lst3 0 0 0) = false := e
      rw [this] at e'
      cases e'
  rintro σ H7 ⟨v6, h, rfl, hP, bh, hW, s7⟩
  have ha7 := s7 _ _ ha6
  have sb7 : SameBut a H H7 := sb4.trans (.of (s6.trans s7))
  have av7 : SameAv av H H7 := .of hav sb7
  have bh12 : Bd 12 (some h) := bh.up (by decide)
  have lh : worth (some h) < 2 ^ 60 := worth_lt bh12
  have lh' : W h < 2 ^ 60 := lh
  walk_at "go"
  refine r_ixL (SqL.of (av7 _ _ np1 hp1)) (v := .ref t1) rfl ?_
  walk_at "go"
  refine r_ixL (SqL.of (av7 _ _ np2 hp2)) (v := .ref t2) rfl ?_
  walk_at "go"
  refine r_listO (.inr (SqT.of (av7 _ _ nt2 ht2))) fun c8 hc8 => ?_
  walk_at "go"
  have s8 := same_new (o := .lst [V.int ((worth C : Nat) : Int), V.int t]) hc8
  refine ⟨v6, some h, rfl, hP.keep s8, bh12, fun H9 s9 => ?_⟩
  have s89 := s8.trans s9
  walk_at "go"
  refine ⟨.ref t1, .ref c8, .int _, "int", some (_, s), some (_, t), rfl, .int _, kind_at (SqX.T (s89 _ _ (av7 _ _ nt1 ht1))) (by omega), kind_at (SqX.L (s9 _ _ upd_same)) (by omega), fun z => (by cases z), fun _ z => (by cases z), fun k' s' l' t' e1 e2 => ?_⟩
  cases e1
  cases e2
  refine .inl ⟨_, rfl, by show (2 : Int) ≤ ((W h : Nat) : Int); omega, by omega, by omega, by omega, by omega, fun H10 s10 => ?_⟩
  rw [Int.natAbs_natCast, Int.natAbs_natCast, Int.natAbs_natCast, hs, ht]
  have eg : Nat.gcd (worth C) (worth (some h)) = worth (goal h C) := shared_eq (bh12 h rfl) C
  rw [eg]
  have bgoal : Bd 12 (goal h C) := fun f e => by
    cases e
    obtain ⟨z0, z1, z2⟩ := bd_some bh12
    exact ⟨by show min (h 0) _ ≤ 12; omega, by show min (h 1) _ ≤ 12; omega, by show min (h 2) _ ≤ 12; omega⟩
  have hgo2 := gives_GO (K := A) (S := B) (L := goal h C) (T := D) bB bgoal bD
  generalize gives (worth A) (worth B) (worth (goal h C)) (worth D) = g2 at hgo2
  have s7to10 := s89.trans s10
  have av10 : SameAv av H H10 := fun b' u n z => s7to10 _ _ (av7 b' u n z)
  have ha10 := s7to10 _ _ ha7
  have kr1 : KRow K H10 (.ref r1) A B := ⟨r1, v1, v2, rfl, SqT.of (av10 _ _ nr1 hr1), hA.av av10 nA, hB.av av10 nB⟩
  have kr2 : KRow K H10 (.ref r2) C D := ⟨r2, v3, v4, rfl, SqT.of (av10 _ _ nr2 hr2), hC.av av10 nC, hD.av av10 nD⟩
  have hp1' := av10 _ _ np1 hp1
  have hp2' := av10 _ _ np2 hp2
  have ht1' := av10 _ _ nt1 ht1
  have ht2' := av10 _ _ nt2 ht2
  have hPP := hP.keep s7to10
  have sb10 : SameBut a H H10 := sb7.trans (.of s7to10)
  have fin : ∀ H', Same H10 H' → Q (.bl true) H' := fun H' s' => q ns4 H' hn4 (s' _ _ ha10) (sb10.trans (.of s'))
  have imp : b = true → g2 = true := fun z => hgo2.mpr (go_goal h (bh12 h rfl) (hgo.mp z))
  clear av10 av7 sb7 sb10 ha7 ha6 h6 h6l s6 s7 hP ha4 sb4 av4 hp5 hp6 nv hc8 s8 s9 s89 s10 s7to10 ha10
  refine r_cut (Mid := fun σ H' => σ = [some (V.ref a), some (V.ref p1), some (V.ref p2), some (V.bl b), some (V.bl b), some (V.ref p5), some v6, some (V.bl g2), none] ∧ Same H10 H') ?_ ?_
  · walk_at "go"
    refine r_ixL (SqL.of hp1') (v := .ref r1) rfl ?_
    walk_at "go"
    refine r_ixL (SqL.of hp2') (v := .ref r2) rfl ?_
    walk_at "go"
    refine ⟨.ref r1, .ref r2, v6, A, B, C, D, h, rfl, kr1, kr2, hPP, fun H11 b2 s11 hb2 => ?_⟩
    have e2 : b2 = g2 := bool_eq hb2 hgo2
    subst e2
    walk_at "go"
    refine r_neBl ?_
    refine r_bl ?_
    refine ite_no (by simp) ?_
    walk_at "go"
    refine ⟨.bl b2, .ty "bool", .type "bool", .type "bool", true, rfl, .ty _, sm_ty (.bl b2), kit_ty (by decide +kernel), ?_⟩
    walk_at "go"
    refine ite_no rfl ?_
    walk_at "go"
    cases b with
    | false =>
      refine ite_no rfl ?_
      walk_at "go"
      exact ⟨rfl, s11⟩
    | true =>
      have e3 := imp rfl
      subst e3
      refine ite_yes rfl ?_
      walk_at "go"
      refine ite_no rfl ?_
      walk_at "go"
      exact ⟨rfl, s11⟩
  rintro σ H11 ⟨rfl, s11⟩
  have kr1' := kr1.keep s11
  have kr2' := kr2.keep s11
  have hp1'' := s11 _ _ hp1'
  have hp2'' := s11 _ _ hp2'
  walk_at "go"
  refine r_cut (Mid := fun σ H' => σ = [some (V.ref a), some (V.ref p1), some (V.ref p2), some (V.bl b), some (V.bl b), some (V.ref p5), some v6, some (V.bl g2), none] ∧ Same H10 H') ?_ ?_
  · walk_at "go"
    cases b with
    | false =>
      refine ite_no rfl ?_
      walk_at "go"
      exact ⟨rfl, s11⟩
    | true =>
      refine ite_yes rfl ?_
      walk_at "go"
      refine r_ixL (SqL.of hp1'') (v := .ref r1) rfl ?_
      walk_at "go"
      refine r_ixL (SqL.of hp2'') (v := .ref r2) rfl ?_
      walk_at "go"
      refine ⟨.ref r1, .ref r2, A, B, C, D, rfl, kr1', kr2', fun H12 b3 s12 hb3 => ?_⟩
      walk_at "go"
      have e3 : b3 = true := hb3.mpr (go_hours (hgo.mp rfl))
      subst e3
      refine ite_no rfl ?_
      walk_at "go"
      exact ⟨rfl, s11.trans s12⟩
  clear kr1' kr2' hp1'' hp2'' s11
  rintro σ H12 ⟨rfl, s12⟩
  walk_at "go"
  refine r_cut (Mid := fun σ H' => ∃ wi, σ = [some (V.ref a), some (V.ref p1), some (V.ref p2), some (V.bl b), some (V.bl b), some (V.ref p5), some v6, some (V.bl g2), some (V.bl wi)] ∧ H' = H12 ∧ (wi = true → A = none ∨ ∃ l k, C = some l ∧ A = some k ∧ A3 fun i => l i ≤ k i)) ?_ ?_
  · walk_at "go"
    refine r_ixL (SqL.of (s12 _ _ hp2')) (v := .ref t2) rfl ?_
    walk_at "go"
    refine r_ixT (SqT.of (s12 _ _ ht2')) (v := .int ((worth C : Nat) : Int)) rfl ?_
    walk_at "go"
    refine iteB (fun e => ?_) fun e => ?_
    · have e := of_decide_eq_true e
      walk_at "go"
      refine r_ixL (SqL.of (s12 _ _ hp1')) (v := .ref t1) rfl ?_
      walk_at "go"
      refine r_ixT (SqT.of (s12 _ _ ht1')) (v := .int ((worth A : Nat) : Int)) rfl ?_
      walk_at "go"
      refine r_ixL (SqL.of (s12 _ _ hp2')) (v := .ref t2) rfl ?_
      walk_at "go"
      refine r_ixT (SqT.of (s12 _ _ ht2')) (v := .int ((worth C : Nat) : Int)) rfl ?_
      walk_at "go"
      refine r_I e ?_
      walk_at "go"
      refine ⟨_, rfl, rfl, fun z => ?_⟩
      have z := of_decide_eq_true z
      have dv0 : worth C ∣ worth A := by
        have : ((worth A % worth C : Nat) : Int) = 0 := by rw [Int.natCast_emod]; exact z
        exact Nat.dvd_of_mod_eq_zero (by omega)
      cases A with
      | none => exact .inl rfl
      | some k =>
        cases C with
        | none =>
          have e : (0 : Int) < ((0 : Nat) : Int) := e
          omega
        | some l => exact .inr ⟨l, k, rfl, rfl, W_dvd.mp dv0⟩
    · refine ⟨false, rfl, rfl, fun z => by cases z⟩
  rintro σ H12' ⟨wi, rfl, rfl, hwi⟩
  walk_at "go"
  refine r_ixL (SqL.of (s12 _ _ hp1')) (v := .ref t1) rfl ?_
  walk_at "go"
  refine r_ixT (SqT.of (s12 _ _ ht1')) (v := .int ((worth A : Nat) : Int)) rfl ?_
  walk_at "go"
  refine iteB (fun e => ?_) fun e => ?_
  · have e := of_decide_eq_true e
    have e0 : A = none := worth_zero.mp (by omega)
    walk_at "go"
    refine r_ixL (SqL.of (s12 _ _ hp1')) (v := .ref r1) rfl ?_
    walk_at "go"
    refine r_ixL (SqL.of (s12 _ _ hp2')) (v := .ref r2) rfl ?_
    walk_at "go"
    refine ⟨.ref r1, .ref r2, A, B, C, D, rfl, kr1.keep s12, kr2.keep s12, fun H13 b3 s13 hb3 => ?_⟩
    walk_at "go"
    refine iteB (fun e3 => ?_) fun e3 => ?_
    · walk_at "go"
      have e4 : b = true := hgo.mpr (hours_go bB bC bD (.inl e0) (hb3.mp e3))
      rw [e4]
      exact fin H13 (s12.trans s13)
    · walk_at "go"
      exact fin H13 (s12.trans s13)
  · walk_at "go"
    cases wi with
    | false =>
      refine ite_no rfl ?_
      walk_at "go"
      exact fin H12' s12
    | true =>
      refine ite_yes rfl ?_
      walk_at "go"
      refine r_ixL (SqL.of (s12 _ _ hp1')) (v := .ref r1) rfl ?_
      walk_at "go"
      refine r_ixL (SqL.of (s12 _ _ hp2')) (v := .ref r2) rfl ?_
      walk_at "go"
      refine ⟨.ref r1, .ref r2, A, B, C, D, rfl, kr1.keep s12, kr2.keep s12, fun H13 b3 s13 hb3 => ?_⟩
      walk_at "go"
      refine iteB (fun e3 => ?_) fun e3 => ?_
      · walk_at "go"
        have e4 : b = true := hgo.mpr (hours_go bB bC bD (hwi rfl) (hb3.mp e3))
        rw [e4]
        exact fin H13 (s12.trans s13)
      · walk_at "go"
        exact fin H13 (s12.trans s13)
theorem scEnds : FnScope ["_law_kind"] ["_law_kind"] (defScope sEnds) := ⟨rfl, rfl, rfl, by decide +kernel, rfl, by decide +kernel, by decide +kernel⟩
theorem ok_ends {f : Addr} {fd : FuncData} (F : Fun K "_law_ends" "_law_ends" sEnds f fd) (m_list : mg "list" = none) (D_gives : Fok P w K mg base 4 "loop_gives" ["one", "other"] (spGives K CR)) (D_alone : Fok P w K mg base 4 "alone" ["kind"] (spAlone K CR)) :
    FnOk P w K mg base (L2.CX P w) 5 f fd ["_law_kind"] (spEnds K) := by
  refine F.okX scEnds (fun vs H Q E h => ?_) (fun cdv A' outer s' H vs Q E hr h => ?_)
  · obtain ⟨a, k, s, rfl, _⟩ := h
    rfl
  obtain ⟨a, k, s, rfl, ha, hk, lk, ls, q⟩ := h
  have sc := scEnds
  refine ⟨_, (pss_cons (ps_if (PW.pt (pw_or (pt_cmpR op_ne (pe_f D_alone (hr.mono (by decide)) (pa_cons (pe_callTy (listOK K) (by rfl) m_list (by decide +kernel) (pa_cons (pv 0) pa_nil)) pa_nil)) (pe_f D_gives (hr.mono (by decide)) (pa_cons (pe_tup (pa_cons pe_int (pa_cons pe_int pa_nil))) (pa_cons (pv 0) pa_nil))) (nomark _)) (pw_or (pt_not (pt_val (pe_f D_gives (hr.mono (by decide)) (pa_cons (pe_tup (pa_cons pe_int (pa_cons pe_int pa_nil))) (pa_cons (pv 0) pa_nil))))) (pw_or1 (pt_not (pt_val (pe_f D_gives (hr.mono (by decide)) (pa_cons (pv 0) (pa_cons (pv 0) pa_nil))))))))) (pss_one (ps_ret pe_bl)) pss_nil)
      (pss_one (ps_ret (pe_or (pe_cmpR op_eq (pe_f D_gives (hr.mono (by decide)) (pa_cons (pe_tup (pa_cons pe_int (pa_cons pe_int pa_nil))) (pa_cons (pv 0) pa_nil))) (pe_f D_alone (hr.mono (by decide)) (pa_cons (pv 0) pa_nil)) (nomark _)) (pe_one (pe_cmpR op_eq (pe_ix (ixT K) (pv 0) pe_int (fun _ _ => rfl)) pe_int (nomark _))))))), ?_⟩
  -- a written kind against this one
  have ask : ∀ (u v : Int) (H1 : Hp) (p : Addr) (Q2 : VK), 0 ≤ u → u < 2 ^ 60 → v.natAbs < 2 ^ 60 → Same H H1 → H1 p = none → (∀ H2, Same H1 H2 → Q2 (.bl (gives u.natAbs v.natAbs k.natAbs s.natAbs)) H2) → spGives K CR [V.ref p, V.ref a] (upd H1 p (.tup [V.int u, V.int v])) Q2 E0 := fun u v H1 p Q2 hu lu lv s1 hp z => by
    have s2 := same_new (o := .tup [V.int u, V.int v]) hp
    refine ⟨.ref p, .ref a, some (u, v), some (k, s), rfl, kind_at (SqX.T upd_same) hu, kind_at (.inr (same_t (s1.trans s2) ha)) hk, fun z => (by cases z), fun _ z => (by cases z), fun k' s' l' t' e1 e2 => ?_⟩
    cases e1
    cases e2
    exact ⟨lu, lv, lk, fun H2 s3 => z H2 (s2.trans s3)⟩
  walk_at "go"
  refine r_listO (.inr ha) fun c hc => ?_
  have s1 := same_new (o := .lst [V.int k, V.int s]) hc
  walk_at "go"
  refine ⟨.ref c, some (k, s), rfl, kind_at (SqX.L upd_same) hk, fun z => (by cases z), fun k' s' e1 H2 s2 => ?_⟩
  cases e1
  have s12 := s1.trans s2
  walk_at "go"
  refine ⟨by show 2 ≤ sizeLine; decide, fun p1 hp1 => ?_⟩
  walk_at "go"
  refine ask 1 0 H2 p1 _ (by decide) (by decide) (by decide) s12 hp1 fun H3 s3 => ?_
  have s13 := s12.trans s3
  walk_at "go"
  refine r_neBl ?_
  refine r_bl ?_
  have e1 : gives (Int.natAbs 1) (Int.natAbs 0) k.natAbs s.natAbs = decide (k.natAbs ∣ s.natAbs) := ends_all _ _
  rw [e1]
  refine ite_no (by simp) ?_
  walk_at "go"
  refine ⟨by show 2 ≤ sizeLine; decide, fun p2 hp2 => ?_⟩
  walk_at "go"
  refine ask 0 1 H3 p2 _ (by decide) (by decide) (by decide) s13 hp2 fun H4 s4 => ?_
  have s14 := s13.trans s4
  have e2 : gives (Int.natAbs 0) (Int.natAbs 1) k.natAbs s.natAbs = true := ends_first _ _
  rw [e2]
  walk_at "go"
  refine ite_no rfl ?_
  walk_at "go"
  refine ⟨.ref a, .ref a, some (k, s), some (k, s), rfl, kind_at (.inr (same_t s14 ha)) hk, kind_at (.inr (same_t s14 ha)) hk, fun z => (by cases z), fun _ z => (by cases z), fun k' s' l' t' e1 e2 => ?_⟩
  cases e1
  cases e2
  refine ⟨lk, ls, lk, fun H5 s5 => ?_⟩
  have s15 := s14.trans s5
  rw [ends_self]
  walk_at "go"
  refine ite_no rfl ?_
  walk_at "go"
  refine ⟨by show 2 ≤ sizeLine; decide, fun p3 hp3 => ?_⟩
  walk_at "go"
  refine ask 0 0 H5 p3 _ (by decide) (by decide) (by decide) s15 hp3 fun H6 s6 => ?_
  have s16 := s15.trans s6
  have e3 : gives (Int.natAbs 0) (Int.natAbs 0) k.natAbs s.natAbs = decide (k.natAbs ∣ s.natAbs) := ends_zero _ _
  rw [e3]
  walk_at "go"
  refine ⟨.ref a, some (k, s), rfl, kind_at (.inr (same_t s16 ha)) hk, fun z => (by cases z), fun k' s' e1 H7 s7 => ?_⟩
  cases e1
  walk_at "go"
  refine r_eqBl ?_
  refine r_bl ?_
  refine ite_yes (by simp) ?_
  exact q H7 (s16.trans s7)
end
end K63
namespace K63
open PySem L2 Er KG
/-- one step of a plain reading -/
local macro_rules | `(tactic| walk_at "step") => `(tactic| first
  | with_reducible refine r_seq ?_ | with_reducible refine r_nx ?_ | with_reducible refine r_asgN ?_ | with_reducible refine r_asgS ?_ | with_reducible refine r_asgT ?_ | with_reducible refine r_ifS ?_
  | with_reducible refine r_ret ?_ | with_reducible refine r_retN ?_ | with_reducible refine r_drop ?_ | with_reducible refine r_test ?_ | with_reducible refine r_B ?_ | with_reducible refine r_not ?_
  | with_reducible refine r_and ?_ | with_reducible refine r_or ?_ | with_reducible refine r_andV ?_ | with_reducible refine r_orV ?_ | with_reducible refine r_notV ?_
  | ((with_reducible refine' r_var ?e ?_); (case e => exact rfl)) | with_reducible refine r_c ?_ | with_reducible refine r_op ?_ | with_reducible refine r_un ?_
  | with_reducible refine r_I0 ?_ | with_reducible refine r_eqI ?_ | with_reducible refine r_neI ?_ | with_reducible refine r_bl ?_ | with_reducible refine r_nil ?_ | with_reducible refine r_cons ?_
  | with_reducible refine r_cb ?_ | with_reducible refine r_call ?_ | with_reducible refine r_tup ?_ | with_reducible refine r_lst ?_ | with_reducible refine r_fld ?_ | with_reducible refine r_bm ?_ | with_reducible refine r_bm0 ?_
  | with_reducible refine r_for ?_ | with_reducible refine r_rng ?_ | with_reducible refine r_rng2 ?_ | with_reducible refine r_lstI ?_ | with_reducible refine r_tupI ?_ | with_reducible refine r_lc ?_
  | with_reducible refine r_augS ?_ | with_reducible refine r_ipI ?_
  | with_reducible refine r_meth ?_ | with_reducible refine r_prop ?_ | with_reducible refine r_make ?_ | with_reducible refine r_din ?_ | with_reducible refine r_dnin ?_ | with_reducible refine r_dput ?_ | with_reducible refine r_dget ?_
  | with_reducible refine r_gN ?_ | with_reducible refine r_tsl ?_ | with_reducible refine r_noP ?_ | with_reducible refine r_part ?_ | with_reducible refine r_pI ?_ | with_reducible refine r_tif ?_ | with_reducible refine r_SL ?_ | with_reducible refine r_gC ?_ | with_reducible refine r_U ?_ | with_reducible refine r_sfld ?_ | with_reducible refine r_dnew ?_ | with_reducible refine r_keys ?_
  | with_reducible refine r_mkE ?_ | with_reducible refine iteT ?_ | with_reducible refine iteF ?_
  | with_reducible refine r_int ?_ | with_reducible refine r_min2 ?_ | with_reducible refine r_isN ?_ | with_reducible refine r_notN ?_)
/-- as far as it goes by itself -/
local macro_rules | `(tactic| walk_at "go") => `(tactic| ((repeat walk_at "step"); (try dsimp only)))


theorem five {σ : L2.St} (h : σ.length = 5) : ∃ x0 x1 x2 x3 x4, σ = [x0, x1, x2, x3, x4] := by
  match σ, h with
  | [x0, x1, x2, x3, x4], _ => exact ⟨x0, x1, x2, x3, x4, rfl⟩
structure ErrsX (K : PySem.W.Frag) (CN CR : Addr) : Prop where
  nn : PySem.W.exmOne K (.ref CN) (.ref CN) = some true
  rr : PySem.W.exmOne K (.ref CR) (.ref CR) = some true
  xn : XfC K CN
  xr : XfC K CR
  fn : PySem.W.findIn K (.ref CN) "word" = some none
  fr : PySem.W.findIn K (.ref CR) "place" = some none
def spToldRow (K : PySem.W.Frag) : Sp := fun vs H Q _ => ∃ (f : Int) (x y : V) (b1 b2 : Option (Int × Int)), vs = [.int f, x, y] ∧ KindAt K H x b1 ∧ KindAt K H y b2 ∧ (((f = 0 ∨ f = 1) ∧ ((b1 = none ∧ ∀ H', Same H H' → Q (.int 0) H') ∨ (b1 ≠ none ∧ b2 = none ∧ ∀ H', Same H H' → Q (.int 1) H'))) ∨
  (f = 2 ∧ ((b1 = none ∧ ∀ H', Same H H' → Q (.int 0) H') ∨ (b1 ≠ none ∧ ∀ H', Same H H' → Q (.str "none") H'))))
def spToldHours (K : PySem.W.Frag) : Sp := fun vs H Q _ => ∃ (x y h : V) (tn : String) (k s l t : Int), vs = [x, y, h] ∧ KindAt K H x (some (k, s)) ∧ KindAt K H y (some (l, t)) ∧ Sm K H h tn ∧ (∀ n : Int, h = .int n → n < 2) ∧ ∀ H', Same H H' → Q (.str "hours") H'
def spRefused : Sp := fun vs H Q _ => ∃ (a c : Addr) (ns : List Int) (k s : Int), vs = [.ref a, .ref c] ∧ H a = some (.lst (ns.map V.int)) ∧ ns.length ≤ 100000 ∧ H c = some (.tup [.int k, .int s]) ∧ 0 ≤ k ∧ ∀ H', Q (.bl true) H'
theorem bad_at {b1 b2 b3 b4 b5 b6 b7 b8 : Addr} {r : Int} (h0 : 0 ≤ r) (h11 : r < 11) : ∃ v, atI [V.ref b1, .ref b2, .ref b3, .int 5, .non, .ref b4, .ref b5, .ref b6, .ref b7, .str "ab", .ref b8] r = some v ∧
    ∀ (K : PySem.W.Frag) (H : Hp), H b1 = some (.lst [.int (-1), .int 0]) → H b2 = some (.lst [.int 0]) → H b3 = some (.tup [.int 1, .int 2, .int 3]) → H b4 = some (.lst [.bl true, .int 0]) → H b5 = some (.lst [.int 0, .non]) → H b6 = some (.lst []) → H b7 = some (.tup [.int 3, .bl false]) → H b8 = some (.lst [.int (-7), .int 3]) → KindAt K H v none := by
  have sm : ∀ {K : PySem.W.Frag} {H : Hp} (xs : List V), (∀ x ∈ xs, x = .non ∨ (∃ b, x = .bl b) ∨ ∃ i, x = .int i) → ∀ v ∈ xs, ∃ tn, Sm K H v tn := fun xs h v hv => by
    rcases h v hv with rfl | ⟨b, rfl⟩ | ⟨i, rfl⟩
    · exact ⟨_, .non⟩
    · exact ⟨_, .bl b⟩
    · exact ⟨_, .int i⟩
  have : r = 0 ∨ r = 1 ∨ r = 2 ∨ r = 3 ∨ r = 4 ∨ r = 5 ∨ r = 6 ∨ r = 7 ∨ r = 8 ∨ r = 9 ∨ r = 10 := by omega
  rcases this with rfl | rfl | rfl | rfl | rfl | rfl | rfl | rfl | rfl | rfl | rfl
  · exact ⟨_, rfl, fun K H h1 h2 h3 h4 h5 h6 h7 h8 => .inr ⟨_, _, rfl, SqX.L h1, sm _ (by simp), rfl⟩⟩
  · exact ⟨_, rfl, fun K H h1 h2 h3 h4 h5 h6 h7 h8 => .inr ⟨_, _, rfl, SqX.L h2, sm _ (by simp), rfl⟩⟩
  · exact ⟨_, rfl, fun K H h1 h2 h3 h4 h5 h6 h7 h8 => .inr ⟨_, _, rfl, SqX.T h3, sm _ (by simp), rfl⟩⟩
  · exact ⟨_, rfl, fun K H h1 h2 h3 h4 h5 h6 h7 h8 => .inl ⟨_, .int _, by decide +kernel, rfl⟩⟩
  · exact ⟨_, rfl, fun K H h1 h2 h3 h4 h5 h6 h7 h8 => .inl ⟨_, .non, by decide +kernel, rfl⟩⟩
  · exact ⟨_, rfl, fun K H h1 h2 h3 h4 h5 h6 h7 h8 => .inr ⟨_, _, rfl, SqX.L h4, sm _ (by simp), rfl⟩⟩
  · exact ⟨_, rfl, fun K H h1 h2 h3 h4 h5 h6 h7 h8 => .inr ⟨_, _, rfl, SqX.L h5, sm _ (by simp), rfl⟩⟩
  · exact ⟨_, rfl, fun K H h1 h2 h3 h4 h5 h6 h7 h8 => .inr ⟨_, _, rfl, SqX.L h6, sm _ (by simp), rfl⟩⟩
  · exact ⟨_, rfl, fun K H h1 h2 h3 h4 h5 h6 h7 h8 => .inr ⟨_, _, rfl, SqX.T h7, sm _ (by simp), rfl⟩⟩
  · exact ⟨_, rfl, fun K H h1 h2 h3 h4 h5 h6 h7 h8 => .inl ⟨_, .str _, by decide +kernel, rfl⟩⟩
  · exact ⟨_, rfl, fun K H h1 h2 h3 h4 h5 h6 h7 h8 => .inr ⟨_, _, rfl, SqX.L h8, sm _ (by simp), rfl⟩⟩
theorem hours_at {r : Int} (h0 : 0 ≤ r) (h5 : r < 5) : ∃ v, atI [V.int 1, .int 0, .int (-2), .bl true, .non] r = some v ∧ (∀ (K : PySem.W.Frag) (H : Hp), ∃ tn, Sm K H v tn) ∧ ∀ n : Int, v = .int n → n < 2 := by
  have : r = 0 ∨ r = 1 ∨ r = 2 ∨ r = 3 ∨ r = 4 := by omega
  rcases this with rfl | rfl | rfl | rfl | rfl
  · exact ⟨_, rfl, fun K H => ⟨_, .int _⟩, fun n e => by cases e; decide⟩
  · exact ⟨_, rfl, fun K H => ⟨_, .int _⟩, fun n e => by cases e; decide⟩
  · exact ⟨_, rfl, fun K H => ⟨_, .int _⟩, fun n e => by cases e; decide⟩
  · exact ⟨_, rfl, fun K H => ⟨_, .bl _⟩, fun n e => by cases e⟩
  · exact ⟨_, rfl, fun K H => ⟨_, .non⟩, fun n e => by cases e⟩
section
variable {P : Program} {w : World} {K : PySem.W.Frag} {mg : Str → Option Value} {base : Heap} {CN CR : Addr}
theorem scToldRow : FnScope ["_law_function", "_law_one", "_law_other", "_law_place", "error"] ["_law_function", "_law_one", "_law_other"] (defScope sToldRow) := ⟨rfl, rfl, rfl, by decide +kernel, rfl, by decide +kernel, by decide +kernel⟩
theorem ok_told_row {f : Addr} {fd : FuncData} (F : Fun K "_law_told_row" "_law_told_row" sToldRow f fd) (T : Errs P w K mg CN CR) (TX : ErrsX K CN CR)
    (D_gives : Fok P w K mg base 4 "loop_gives" ["one", "other"] (spGives K CR)) (D_sums : Fok P w K mg base 4 "loop_sums" ["one", "other", "hours"] (spSums K CN CR)) (D_alone : Fok P w K mg base 4 "alone" ["kind"] (spAlone K CR)) :
    FnOk P w K mg base (L2.CX P w) 5 f fd ["_law_function", "_law_one", "_law_other"] (spToldRow K) := by
  refine F.okX scToldRow (fun vs H Q E h => ?_) (fun cdv A outer s H vs Q E hr h => ?_)
  · obtain ⟨f, x, y, b1, b2, rfl, _⟩ := h
    rfl
  obtain ⟨f, x, y, b1, b2, rfl, h1, h2, h⟩ := h
  have sc := scToldRow
  refine ⟨_, (pss_cons (ps_set (i := 3) sc.nd rfl (Or.inl rfl) pe_str)
      (pss_cons (ps_try_ch (Wout := fun c d _ H => E c d H) rfl rfl sc.nd (takes_of rfl rfl rfl rfl)
      (fun W pn xe tk po => (pss_one (ps_if (pt_cmpR op_eq (pv 0) pe_int (nomark _)) (pss_one (ps_expr (pe_fT D_gives (hr.mono (by decide)) 5 tk (pa_cons (pv 1) (pa_cons (pv 2) pa_nil))))) (pss_one (ps_if (pt_cmpR op_eq (pv 0) pe_int (nomark _)) (pss_one (ps_expr (pe_fT D_sums (hr.mono (by decide)) 5 tk (pa_cons (pv 1) (pa_cons (pv 2) (pa_cons pe_int pa_nil)))))) (pss_one (ps_expr (pe_fT D_alone (hr.mono (by decide)) 5 tk (pa_cons (pv 1) pa_nil)))))))))
      (.named (i := 4) (c := .ref CR) ⟨rfl, by decide, .inl T.gR⟩ rfl rfl (fun a oe cls d pn hz hf => pss_one (ps_set (i := 3) sc.nd rfl (Or.inl rfl) (pe_xf (C := CR) TX.xr TX.fr hz hf (pv 4)))) .nil))
      (pss_one (ps_ret (pv 3))))), ?_⟩
  walk_at "go"
  rcases h with ⟨hf, h⟩ | ⟨rfl, h⟩
  · rcases hf with rfl | rfl
    · refine ite_yes rfl ?_
      walk_at "go"
      refine ⟨x, y, b1, b2, rfl, h1, h2, fun e => ?_, fun e1 e2 => ?_, fun k s l t e1 e2 => ?_⟩
      · rcases h with ⟨_, k⟩ | ⟨n, _⟩
        · intro d H9 s9 hd9
          intro σ9 hσ9
          obtain ⟨x0, x1, x2, x3, x4, rfl⟩ := five hσ9
          refine ⟨true, TX.rr, fun _ a9 ha9 => ?_, fun z => (by cases z)⟩
          walk_at "go"
          refine ⟨.ref a9, rfl, rfl, rfl, d, _, _, rfl, hd9, rfl, ?_⟩
          show tRet (tVar 3) _ _ _
          walk_at "go"
          exact k _ s9
        · exact absurd e n
      · rcases h with ⟨n, _⟩ | ⟨_, _, k⟩
        · exact absurd n e1
        · intro d H9 s9 hd9
          intro σ9 hσ9
          obtain ⟨x0, x1, x2, x3, x4, rfl⟩ := five hσ9
          refine ⟨true, TX.rr, fun _ a9 ha9 => ?_, fun z => (by cases z)⟩
          walk_at "go"
          refine ⟨.ref a9, rfl, rfl, rfl, d, _, _, rfl, hd9, rfl, ?_⟩
          show tRet (tVar 3) _ _ _
          walk_at "go"
          exact k _ s9
      · rcases h with ⟨n, _⟩ | ⟨_, n, _⟩
        · rw [n] at e1; cases e1
        · rw [n] at e2; cases e2
    · refine ite_no rfl ?_
      walk_at "go"
      refine ite_yes rfl ?_
      walk_at "go"
      refine ⟨x, y, .int 0, "int", b1, b2, rfl, .int 0, h1, h2, fun e => ?_, fun e1 e2 => ?_, fun k s l t e1 e2 => ?_⟩
      · rcases h with ⟨_, k⟩ | ⟨n, _⟩
        · intro d H9 s9 hd9
          intro σ9 hσ9
          obtain ⟨x0, x1, x2, x3, x4, rfl⟩ := five hσ9
          refine ⟨true, TX.rr, fun _ a9 ha9 => ?_, fun z => (by cases z)⟩
          walk_at "go"
          refine ⟨.ref a9, rfl, rfl, rfl, d, _, _, rfl, hd9, rfl, ?_⟩
          show tRet (tVar 3) _ _ _
          walk_at "go"
          exact k _ s9
        · exact absurd e n
      · rcases h with ⟨n, _⟩ | ⟨_, _, k⟩
        · exact absurd n e1
        · intro d H9 s9 hd9
          intro σ9 hσ9
          obtain ⟨x0, x1, x2, x3, x4, rfl⟩ := five hσ9
          refine ⟨true, TX.rr, fun _ a9 ha9 => ?_, fun z => (by cases z)⟩
          walk_at "go"
          refine ⟨.ref a9, rfl, rfl, rfl, d, _, _, rfl, hd9, rfl, ?_⟩
          show tRet (tVar 3) _ _ _
          walk_at "go"
          exact k _ s9
      · rcases h with ⟨n, _⟩ | ⟨_, n, _⟩
        · rw [n] at e1; cases e1
        · rw [n] at e2; cases e2
  · refine ite_no rfl ?_
    walk_at "go"
    refine ite_no rfl ?_
    walk_at "go"
    refine ⟨x, b1, rfl, h1, fun e => ?_, fun k s e H1 s1 => ?_⟩
    · rcases h with ⟨_, k⟩ | ⟨n, _⟩
      · intro d H9 s9 hd9
        intro σ9 hσ9
        obtain ⟨x0, x1, x2, x3, x4, rfl⟩ := five hσ9
        refine ⟨true, TX.rr, fun _ a9 ha9 => ?_, fun z => (by cases z)⟩
        walk_at "go"
        refine ⟨.ref a9, rfl, rfl, rfl, d, _, _, rfl, hd9, rfl, ?_⟩
        show tRet (tVar 3) _ _ _
        walk_at "go"
        exact k _ s9
      · exact absurd e n
    · rcases h with ⟨n, _⟩ | ⟨_, k⟩
      · rw [n] at e; cases e
      · walk_at "go"
        exact k H1 s1
theorem scToldHours : FnScope ["_law_one", "_law_other", "_law_hours", "_law_word", "error"] ["_law_one", "_law_other", "_law_hours"] (defScope sToldHours) := ⟨rfl, rfl, rfl, by decide +kernel, rfl, by decide +kernel, by decide +kernel⟩
theorem ok_told_hours {f : Addr} {fd : FuncData} (F : Fun K "_law_told_hours" "_law_told_hours" sToldHours f fd) (T : Errs P w K mg CN CR) (TX : ErrsX K CN CR) (D_sums : Fok P w K mg base 4 "loop_sums" ["one", "other", "hours"] (spSums K CN CR)) :
    FnOk P w K mg base (L2.CX P w) 5 f fd ["_law_one", "_law_other", "_law_hours"] (spToldHours K) := by
  refine F.okX scToldHours (fun vs H Q E h => ?_) (fun cdv A outer s H vs Q E hr h => ?_)
  · obtain ⟨x, y, h, tn, k, s, l, t, rfl, _⟩ := h
    rfl
  obtain ⟨x, y, hv, tn, k1, s1, l1, t1, rfl, h1, h2, hS, hno, k⟩ := h
  have sc := scToldHours
  refine ⟨_, (pss_cons (ps_set (i := 3) sc.nd rfl (Or.inl rfl) pe_str)
      (pss_cons (ps_try_ch (Wout := fun c d _ H => E c d H) rfl rfl sc.nd (takes_of rfl rfl rfl rfl)
      (fun W pn xe tk po => (pss_one (ps_expr (pe_fT D_sums (hr.mono (by decide)) 5 tk (pa_cons (pv 0) (pa_cons (pv 1) (pa_cons (pv 2) pa_nil)))))))
      (.named (i := 4) (c := .ref CN) ⟨rfl, by decide, .inl T.gN⟩ rfl rfl (fun a oe cls d pn hz hf => pss_one (ps_set (i := 3) sc.nd rfl (Or.inl rfl) (pe_xf (C := CN) TX.xn TX.fn hz hf (pv 4)))) .nil))
      (pss_one (ps_ret (pv 3))))), ?_⟩
  walk_at "go"
  refine ⟨x, y, hv, tn, some (k1, s1), some (l1, t1), rfl, hS, h1, h2, fun z => (by cases z), fun _ z => (by cases z), fun k' s' l' t' e1 e2 => .inr ⟨hno, ?_⟩⟩
  intro d H9 s9 hd9
  intro σ9 hσ9
  obtain ⟨x0, x1, x2, x3, x4, rfl⟩ := five hσ9
  refine ⟨true, TX.nn, fun _ a9 ha9 => ?_, fun z => (by cases z)⟩
  walk_at "go"
  refine ⟨.ref a9, rfl, rfl, rfl, d, _, _, rfl, hd9, rfl, ?_⟩
  show tRet (tVar 3) _ _ _
  walk_at "go"
  exact k _ s9
end
end K63
namespace K63
open PySem L2 Er KG
theorem r_neV {a b : Str} {H : Hp} {Q : VK} (q : Q (.bl (!decide (V.str a = V.str b))) H) : rNe (.str a) (.str b) H Q := ⟨rfl, q⟩
/-- one step of a plain reading -/
local macro_rules | `(tactic| walk_at "step") => `(tactic| first
  | with_reducible refine r_seq ?_ | with_reducible refine r_nx ?_ | with_reducible refine r_asgN ?_ | with_reducible refine r_asgS ?_ | with_reducible refine r_asgT ?_ | with_reducible refine r_ifS ?_
  | with_reducible refine r_ret ?_ | with_reducible refine r_retN ?_ | with_reducible refine r_drop ?_ | with_reducible refine r_test ?_ | with_reducible refine r_B ?_ | with_reducible refine r_not ?_
  | with_reducible refine r_and ?_ | with_reducible refine r_or ?_ | with_reducible refine r_andV ?_ | with_reducible refine r_orV ?_ | with_reducible refine r_notV ?_
  | ((with_reducible refine' r_var ?e ?_); (case e => exact rfl)) | with_reducible refine r_c ?_ | with_reducible refine r_op ?_ | with_reducible refine r_un ?_
  | with_reducible refine r_I0 ?_ | with_reducible refine r_eqI ?_ | with_reducible refine r_neI ?_ | with_reducible refine r_bl ?_ | with_reducible refine r_nil ?_ | with_reducible refine r_cons ?_
  | with_reducible refine r_cb ?_ | with_reducible refine r_call ?_ | with_reducible refine r_tup ?_ | with_reducible refine r_lst ?_ | with_reducible refine r_fld ?_ | with_reducible refine r_bm ?_ | with_reducible refine r_bm0 ?_
  | with_reducible refine r_for ?_ | with_reducible refine r_rng ?_ | with_reducible refine r_rng2 ?_ | with_reducible refine r_lstI ?_ | with_reducible refine r_tupI ?_ | with_reducible refine r_lc ?_
  | with_reducible refine r_augS ?_ | with_reducible refine r_ipI ?_
  | with_reducible refine r_meth ?_ | with_reducible refine r_prop ?_ | with_reducible refine r_make ?_ | with_reducible refine r_din ?_ | with_reducible refine r_dnin ?_ | with_reducible refine r_dput ?_ | with_reducible refine r_dget ?_
  | with_reducible refine r_gN ?_ | with_reducible refine r_tsl ?_ | with_reducible refine r_noP ?_ | with_reducible refine r_part ?_ | with_reducible refine r_pI ?_ | with_reducible refine r_tif ?_ | with_reducible refine r_SL ?_ | with_reducible refine r_gC ?_ | with_reducible refine r_U ?_ | with_reducible refine r_sfld ?_ | with_reducible refine r_dnew ?_ | with_reducible refine r_keys ?_
  | with_reducible refine r_mkE ?_ | with_reducible refine iteT ?_ | with_reducible refine iteF ?_
  | with_reducible refine r_int ?_ | with_reducible refine r_min2 ?_ | with_reducible refine r_isN ?_ | with_reducible refine r_notN ?_)
/-- as far as it goes by itself -/
local macro_rules | `(tactic| walk_at "go") => `(tactic| ((repeat walk_at "step"); (try dsimp only)))


def spLaw (K : PySem.W.Frag) : Sp := fun vs H Q _ => ∃ (a : Addr) (ns : List Int), vs = [.ref a] ∧ SqL K H a (ns.map V.int) ∧ ns.length ≤ 63 ∧ ∀ H', Q (.bl true) H'
section
variable {P : Program} {w : World} {K : PySem.W.Frag} {mg : Str → Option Value} {base : Heap} {CN CR : Addr}
theorem scRefused : FnScope ["_law_found", "_law_kind", "_law_bad", "_law_one", "_law_other", "_law_function", "_law_hours"] ["_law_found", "_law_kind"] (defScope sRefused) := ⟨rfl, rfl, rfl, by decide +kernel, rfl, by decide +kernel, by decide +kernel⟩
theorem ok_refused {f : Addr} {fd : FuncData} (F : Fun K "_law_refused" "_law_refused" sRefused f fd) (m_range : mg "range" = none) (m_list : mg "list" = none) (D_take : Fok P w K mg base 1 "_law_take" ["_law_found", "_law_many"] spTake)
    (D_toldrow : Fok P w K mg base 5 "_law_told_row" ["_law_function", "_law_one", "_law_other"] (spToldRow K)) (D_toldhours : Fok P w K mg base 5 "_law_told_hours" ["_law_one", "_law_other", "_law_hours"] (spToldHours K)) :
    FnOk P w K mg base (L2.CX P w) 6 f fd ["_law_found", "_law_kind"] spRefused := by
  refine F.okX scRefused (fun vs H Q E h => ?_) (fun cdv A outer s0 H vs Q E hr h => ?_)
  · obtain ⟨a, c, ns, k, s, rfl, _⟩ := h
    rfl
  obtain ⟨a, c, ns, k, s, rfl, ha, hl, hc, hk, q⟩ := h
  have sc := scRefused
  refine ⟨_, (pss_cons (ps_set (i := 2) sc.nd rfl (Or.inl rfl) (pe_lst (pa_cons (pe_lst (pa_cons (pe_un un_neg pe_int) (pa_cons pe_int pa_nil))) (pa_cons (pe_lst (pa_cons pe_int pa_nil)) (pa_cons (pe_tup (pa_cons pe_int (pa_cons pe_int (pa_cons pe_int pa_nil)))) (pa_cons pe_int (pa_cons pe_non (pa_cons (pe_lst (pa_cons pe_bl (pa_cons pe_int pa_nil))) (pa_cons (pe_lst (pa_cons pe_int (pa_cons pe_non pa_nil))) (pa_cons (pe_lst pa_nil) (pa_cons (pe_tup (pa_cons pe_int (pa_cons pe_bl pa_nil))) (pa_cons pe_str (pa_cons (pe_lst (pa_cons (pe_un un_neg pe_int) (pa_cons pe_int pa_nil))) pa_nil)))))))))))))
      (pss_cons (ps_set (i := 3) sc.nd rfl (Or.inl rfl) (pe_ix (ixL K) (pv 2) (pe_f D_take (hr.mono (by decide)) (pa_cons (pv 0) (pa_cons pe_int pa_nil))) (fun _ _ => rfl)))
      (pss_cons (ps_set (i := 4) sc.nd rfl (Or.inl rfl) (pe_ix (ixL K) (pv 2) (pe_f D_take (hr.mono (by decide)) (pa_cons (pv 0) (pa_cons pe_int pa_nil))) (fun _ _ => rfl)))
      (pss_cons (ps_for (passes_of rfl) rfl (pi_range1 (by rfl) m_range (pa_cons pe_int pa_nil)) (pg_name (i := 5) sc.nd rfl (Or.inl rfl)) (pss_cons (ps_if (PW.pt (pw_or (pt_cmpR op_ne (pe_f D_toldrow (hr.mono (by decide)) (pa_cons (pv 5) (pa_cons (pv 3) (pa_cons (pv 1) pa_nil)))) pe_int (nomark _)) (pw_or1 (pt_cmpR op_ne (pe_f D_toldrow (hr.mono (by decide)) (pa_cons (pv 5) (pa_cons (pv 1) (pa_cons (pv 3) pa_nil)))) pe_int (nomark _))))) (pss_one (ps_ret pe_bl)) pss_nil)
      (pss_one (ps_if (pt_cmpR op_ne (pe_f D_toldrow (hr.mono (by decide)) (pa_cons (pv 5) (pa_cons (pv 3) (pa_cons (pv 4) pa_nil)))) pe_int (nomark _)) (pss_one (ps_ret pe_bl)) pss_nil))))
      (pss_cons (ps_if (PW.pt (pw_or (pt_cmpR op_ne (pe_f D_toldrow (hr.mono (by decide)) (pa_cons pe_int (pa_cons (pv 4) (pa_cons (pv 1) pa_nil)))) pe_int (nomark _)) (pw_or1 (pt_cmpR op_ne (pe_f D_toldrow (hr.mono (by decide)) (pa_cons pe_int (pa_cons (pv 1) (pa_cons (pv 4) pa_nil)))) pe_str (nomark _))))) (pss_one (ps_ret pe_bl)) pss_nil)
      (pss_cons (ps_set (i := 6) sc.nd rfl (Or.inl rfl) (pe_ix (ixL K) (pe_lst (pa_cons pe_int (pa_cons pe_int (pa_cons (pe_un un_neg pe_int) (pa_cons pe_bl (pa_cons pe_non pa_nil)))))) (pe_f D_take (hr.mono (by decide)) (pa_cons (pv 0) (pa_cons pe_int pa_nil))) (fun _ _ => rfl)))
      (pss_one (ps_ret (pe_cmpR op_eq (pe_f D_toldhours (hr.mono (by decide)) (pa_cons (pv 1) (pa_cons (pe_callTy (listOK K) (by rfl) m_list (by decide +kernel) (pa_cons (pv 1) pa_nil)) (pa_cons (pv 6) pa_nil)))) pe_str (nomark _)))))))))), ?_⟩
  have ca : c ≠ a := ne_of hc ha (by intro z; cases z)
  walk_at "go"
  refine ⟨by show 2 ≤ sizeLine; decide, fun b1 hb1 => ?_⟩
  walk_at "go"
  have s1 := same_new (o := .lst [V.int (-1), V.int 0]) hb1
  have h1 : (upd H b1 (.lst [V.int (-1), V.int 0])) b1 = some (.lst [V.int (-1), V.int 0]) := upd_same
  generalize upd H b1 (.lst [V.int (-1), V.int 0]) = H1 at s1 h1 ⊢
  refine ⟨by show 1 ≤ sizeLine; decide, fun b2 hb2 => ?_⟩
  walk_at "go"
  have s2 := same_new (o := .lst [V.int 0]) hb2
  have h2 : (upd H1 b2 (.lst [V.int 0])) b2 = some (.lst [V.int 0]) := upd_same
  generalize upd H1 b2 (.lst [V.int 0]) = H2 at s2 h2 ⊢
  refine ⟨by show 3 ≤ sizeLine; decide, fun b3 hb3 => ?_⟩
  walk_at "go"
  have s3 := same_new (o := .tup [V.int 1, V.int 2, V.int 3]) hb3
  have h3 : (upd H2 b3 (.tup [V.int 1, V.int 2, V.int 3])) b3 = some (.tup [V.int 1, V.int 2, V.int 3]) := upd_same
  generalize upd H2 b3 (.tup [V.int 1, V.int 2, V.int 3]) = H3 at s3 h3 ⊢
  refine ⟨by show 2 ≤ sizeLine; decide, fun b4 hb4 => ?_⟩
  walk_at "go"
  have s4 := same_new (o := .lst [V.bl true, V.int 0]) hb4
  have h4 : (upd H3 b4 (.lst [V.bl true, V.int 0])) b4 = some (.lst [V.bl true, V.int 0]) := upd_same
  generalize upd H3 b4 (.lst [V.bl true, V.int 0]) = H4 at s4 h4 ⊢
  refine ⟨by show 2 ≤ sizeLine; decide, fun b5 hb5 => ?_⟩
  walk_at "go"
  have s5 := same_new (o := .lst [V.int 0, V.non]) hb5
  have h5 : (upd H4 b5 (.lst [V.int 0, V.non])) b5 = some (.lst [V.int 0, V.non]) := upd_same
  generalize upd H4 b5 (.lst [V.int 0, V.non]) = H5 at s5 h5 ⊢
  refine ⟨by show 0 ≤ sizeLine; decide, fun b6 hb6 => ?_⟩
  walk_at "go"
  have s6 := same_new (o := .lst []) hb6
  have h6 : (upd H5 b6 (.lst [])) b6 = some (.lst []) := upd_same
  generalize upd H5 b6 (.lst []) = H6 at s6 h6 ⊢
  refine ⟨by show 2 ≤ sizeLine; decide, fun b7 hb7 => ?_⟩
  walk_at "go"
  have s7 := same_new (o := .tup [V.int 3, V.bl false]) hb7
  have h7 : (upd H6 b7 (.tup [V.int 3, V.bl false])) b7 = some (.tup [V.int 3, V.bl false]) := upd_same
  generalize upd H6 b7 (.tup [V.int 3, V.bl false]) = H7 at s7 h7 ⊢
  refine ⟨by show 2 ≤ sizeLine; decide, fun b8 hb8 => ?_⟩
  walk_at "go"
  have s8 := same_new (o := .lst [V.int (-7), V.int 3]) hb8
  have h8 : (upd H7 b8 (.lst [V.int (-7), V.int 3])) b8 = some (.lst [V.int (-7), V.int 3]) := upd_same
  generalize upd H7 b8 (.lst [V.int (-7), V.int 3]) = H8 at s8 h8 ⊢
  refine ⟨by show 11 ≤ sizeLine; decide, fun b9 hb9 => ?_⟩
  walk_at "go"
  have s9 := same_new (o := .lst [V.ref b1, .ref b2, .ref b3, .int 5, .non, .ref b4, .ref b5, .ref b6, .ref b7, .str "ab", .ref b8]) hb9
  have h9 : (upd H8 b9 (.lst [V.ref b1, .ref b2, .ref b3, .int 5, .non, .ref b4, .ref b5, .ref b6, .ref b7, .str "ab", .ref b8])) b9 = some (.lst [V.ref b1, .ref b2, .ref b3, .int 5, .non, .ref b4, .ref b5, .ref b6, .ref b7, .str "ab", .ref b8]) := upd_same
  generalize upd H8 b9 (.lst [V.ref b1, .ref b2, .ref b3, .int 5, .non, .ref b4, .ref b5, .ref b6, .ref b7, .str "ab", .ref b8]) = H9 at s9 h9 ⊢
  have na : ∀ {Hx : Hp} {b : Addr}, Same H Hx → Hx b = none → b ≠ a := fun {Hx b} sx e z => by
    rw [z, sx _ _ ha] at e
    cases e
  have t1 := s1
  have t2 := t1.trans s2
  have t3 := t2.trans s3
  have t4 := t3.trans s4
  have t5 := t4.trans s5
  have t6 := t5.trans s6
  have t7 := t6.trans s7
  have t8 := t7.trans s8
  have t9 := t8.trans s9
  have n1 := na (Same.refl H) hb1
  have n2 := na t1 hb2
  have n3 := na t2 hb3
  have n4 := na t3 hb4
  have n5 := na t4 hb5
  have n6 := na t5 hb6
  have n7 := na t6 hb7
  have n8 := na t7 hb8
  have n9 := na t8 hb9
  have u8 := s8.trans s9
  have u7 := s7.trans u8
  have u6 := s6.trans u7
  have u5 := s5.trans u6
  have u4 := s4.trans u5
  have u3 := s3.trans u4
  have u2 := s2.trans u3
  replace h1 := u2 _ _ h1
  replace h2 := u3 _ _ h2
  replace h3 := u4 _ _ h3
  replace h4 := u5 _ _ h4
  replace h5 := u6 _ _ h5
  replace h6 := u7 _ _ h6
  replace h7 := u8 _ _ h7
  replace h8 := s9 _ _ h8
  replace ha := t9 _ _ ha
  replace hc := t9 _ _ hc
  clear s1 s2 s3 s4 s5 s6 s7 s8 s9 t1 t2 t3 t4 t5 t6 t7 t8 t9 u2 u3 u4 u5 u6 u7 u8 hb1 hb2 hb3 hb4 hb5 hb6 hb7 hb8 hb9 na
  refine ⟨a, ns, 11, rfl, ha, hl, by decide, fun r ns1 G1 r0 r11 l1 ha1 x1 => ?_⟩
  obtain ⟨v1, e1, B1⟩ := bad_at (b1 := b1) (b2 := b2) (b3 := b3) (b4 := b4) (b5 := b5) (b6 := b6) (b7 := b7) (b8 := b8) r0 r11
  refine r_ixL (SqL.of (x1 _ _ n9 h9)) e1 ?_
  walk_at "go"
  refine ⟨a, ns1, 11, rfl, ha1, by omega, by decide, fun r' ns2 G2 r0' r11' l2 ha2 x2 => ?_⟩
  obtain ⟨v2, e2, B2⟩ := bad_at (b1 := b1) (b2 := b2) (b3 := b3) (b4 := b4) (b5 := b5) (b6 := b6) (b7 := b7) (b8 := b8) r0' r11'
  have x12 := x1.trans x2
  refine r_ixL (SqL.of (x12 _ _ n9 h9)) e2 ?_
  walk_at "go"
  have K1 : KindAt K G2 v1 none := B1 K G2 (x12 _ _ n1 h1) (x12 _ _ n2 h2) (x12 _ _ n3 h3) (x12 _ _ n4 h4) (x12 _ _ n5 h5) (x12 _ _ n6 h6) (x12 _ _ n7 h7) (x12 _ _ n8 h8)
  have K2 : KindAt K G2 v2 none := B2 K G2 (x12 _ _ n1 h1) (x12 _ _ n2 h2) (x12 _ _ n3 h3) (x12 _ _ n4 h4) (x12 _ _ n5 h5) (x12 _ _ n6 h6) (x12 _ _ n7 h7) (x12 _ _ n8 h8)
  have hc2 := x12 _ _ ca hc
  have Kc : ∀ H', Same G2 H' → KindAt K H' (.ref c) (some (k, s)) := fun H' z => kind_at (SqX.T (z _ _ hc2)) hk
  clear h1 h2 h3 h4 h5 h6 h7 h8 B1 B2 x1 x2 x12 h9
  refine r_rngK 2 rfl (by decide) ?_
  refine r_forR0 (fun i σ H' => ∃ u5, σ = [some (V.ref a), some (V.ref c), some (V.ref b9), some v1, some v2, u5, none] ∧ Same G2 H') ⟨none, rfl, Same.refl _⟩ ?_ ?_
  · rintro i σ H' hi ⟨u5, rfl, z⟩
    have hi' : ((i : Nat) : Int) = 0 ∨ ((i : Nat) : Int) = 1 := by omega
    walk_at "go"
    refine ⟨_, v1, .ref c, none, some (k, s), rfl, K1.keep z, Kc H' z, .inl ⟨hi', .inl ⟨rfl, fun H3 z3 => ?_⟩⟩⟩
    walk_at "go"
    refine ite_no rfl ?_
    walk_at "go"
    have z13 := z.trans z3
    refine ⟨_, .ref c, v1, some (k, s), none, rfl, Kc H3 z13, K1.keep z13, .inl ⟨hi', .inr ⟨(by intro e; cases e), rfl, fun H4 z4 => ?_⟩⟩⟩
    walk_at "go"
    refine ite_no rfl ?_
    walk_at "go"
    have z14 := z13.trans z4
    refine ⟨_, v1, v2, none, none, rfl, K1.keep z14, K2.keep z14, .inl ⟨hi', .inl ⟨rfl, fun H5 z5 => ?_⟩⟩⟩
    walk_at "go"
    refine ite_no rfl ?_
    walk_at "go"
    exact ⟨_, rfl, z14.trans z5⟩
  · rintro σ H' ⟨u5, rfl, z⟩
    walk_at "go"
    refine ⟨2, v2, .ref c, none, some (k, s), rfl, K2.keep z, Kc H' z, .inr ⟨rfl, .inl ⟨rfl, fun H3 z3 => ?_⟩⟩⟩
    walk_at "go"
    refine ite_no rfl ?_
    walk_at "go"
    have z13 := z.trans z3
    refine ⟨2, .ref c, v2, some (k, s), none, rfl, Kc H3 z13, K2.keep z13, .inr ⟨rfl, .inr ⟨(by intro e; cases e), fun H4 z4 => ?_⟩⟩⟩
    walk_at "go"
    refine r_neV ?_
    walk_at "go"
    refine ite_no (by decide +kernel) ?_
    walk_at "go"
    have z14 := z13.trans z4
    refine ⟨by show 5 ≤ sizeLine; decide, fun b hb => ?_⟩
    walk_at "go"
    have z5 := same_new (o := .lst [V.int 1, .int 0, .int (-2), .bl true, .non]) hb
    have z15 := z14.trans z5
    have ba : b ≠ a := fun e => by rw [e, z14 _ _ ha2] at hb; cases hb
    refine ⟨a, ns2, 5, rfl, z15 _ _ ha2, by omega, by decide, fun r5 ns5 G5 y0 y5 l5 ha5 x5 => ?_⟩
    obtain ⟨hv, e5, hS, hno⟩ := hours_at y0 y5
    refine r_ixL (SqL.of (x5 _ _ ba upd_same)) e5 ?_
    walk_at "go"
    have hc5 := x5 _ _ ca (z15 _ _ hc2)
    refine r_listO (.inr (SqT.of hc5)) fun b' hb' => ?_
    walk_at "go"
    have z6 := same_new (o := .lst [V.int k, V.int s]) hb'
    obtain ⟨tn, hS⟩ := hS K (upd G5 b' (.lst [V.int k, V.int s]))
    refine ⟨.ref c, .ref b', hv, tn, k, s, k, s, rfl, kind_at (SqX.T (z6 _ _ hc5)) hk, kind_at (SqX.L upd_same) hk, hS, hno, fun H9 z9 => ?_⟩
    walk_at "go"
    refine r_eqV ?_
    have e : decide ((V.str "hours") = V.str "hours") = true := by decide +kernel
    rw [e]
    exact q H9
theorem scLaw : FnScope ["_law_script", "_law_found", "_law_rows", "_law_one", "_law_other", "_law_kinds_here", "_law_row"] ["_law_script"] (defScope sLaw) := ⟨rfl, rfl, rfl, by decide +kernel, rfl, by decide +kernel, by decide +kernel⟩
theorem ok_law {f : Addr} {fd : FuncData} (F : Fun K "law" "law" sLaw f fd)
    (D_drawn : Fok P w K mg base 1 "_law_drawn" ["_law_script"] (spDrawn K)) (D_kinds : Fok P w K mg base 3 "_law_kinds" ["_law_found"] spKinds) (D_pair : Fok P w K mg base 5 "_law_pair" ["_law_found", "_law_one", "_law_other"] spPairs) (D_ends : Fok P w K mg base 5 "_law_ends" ["_law_kind"] (spEnds K))
    (D_gives : Fok P w K mg base 4 "loop_gives" ["one", "other"] (spGives K CR)) (D_alone : Fok P w K mg base 4 "alone" ["kind"] (spAlone K CR)) (D_refused : Fok P w K mg base 6 "_law_refused" ["_law_found", "_law_kind"] spRefused) :
    FnOk P w K mg base (L2.CX P w) 7 f fd ["_law_script"] (spLaw K) := by
  refine F.okX scLaw (fun vs H Q E h => ?_) (fun cdv A outer s0 H vs Q E hr h => ?_)
  · obtain ⟨a, ns, rfl, _⟩ := h
    rfl
  obtain ⟨a, ns, rfl, hS, hl, q⟩ := h
  have sc := scLaw
  refine ⟨_, (pss_cons (ps_set (i := 1) sc.nd rfl (Or.inl rfl) (pe_f D_drawn (hr.mono (by decide)) (pa_cons (pv 0) pa_nil)))
      (pss_cons (ps_set (i := 2) sc.nd rfl (Or.inl rfl) (pe_f D_kinds (hr.mono (by decide)) (pa_cons (pv 1) pa_nil)))
      (pss_cons (ps_for (passes_of rfl) rfl (pi_list (pv 2)) (pg_name (i := 3) sc.nd rfl (Or.inl rfl)) (pss_cons (ps_for (passes_of rfl) rfl (pi_list (pv 2)) (pg_name (i := 4) sc.nd rfl (Or.inl rfl)) (pss_one (ps_if (pt_not (pt_val (pe_f D_pair (hr.mono (by decide)) (pa_cons (pv 1) (pa_cons (pv 3) (pa_cons (pv 4) pa_nil)))))) (pss_one (ps_ret pe_bl)) pss_nil)))
      (pss_one (ps_if (pt_not (pt_val (pe_f D_ends (hr.mono (by decide)) (pa_cons (pe_ix (ixL K) (pv 3) pe_int (fun _ _ => rfl)) pa_nil)))) (pss_one (ps_ret pe_bl)) pss_nil))))
      (pss_cons (ps_setLc (i := 5) (own := [("_law_row", 6)]) (g := gName 6) (tt := tYes) (by rfl) sc.nd rfl rfl (sw_true rfl rfl rfl (by decide +kernel)) (pi_list (pv 2)) (blkOk_by (own := [("_law_row", 6)]) (N := ["_law_script", "_law_found", "_law_rows", "_law_one", "_law_other", "_law_kinds_here", "_law_row"]) (sc := defScope sLaw) (by decide +kernel)) (fun _ _ _ _ _ => pg_name (i := 6) sc.nd rfl (Or.inl rfl)) (fun _ _ _ _ _ => pts_nil) (fun _ _ _ _ _ => (pe_ix (ixL K) (pv 6) pe_int (fun _ _ => rfl))))
      (Evl.pss_cut (ps_if (PW.pt (pw_and (pt_val (pe_f D_gives (hr.mono (by decide)) (pa_cons (pe_ix (ixL K) (pv 5) pe_int (fun _ _ => rfl)) (pa_cons (pe_ix (ixL K) (pv 5) pe_int (fun _ _ => rfl)) pa_nil)))) (pw_and (pt_val (pe_f D_gives (hr.mono (by decide)) (pa_cons (pe_ix (ixL K) (pv 5) pe_int (fun _ _ => rfl)) (pa_cons (pe_ix (ixL K) (pv 5) pe_int (fun _ _ => rfl)) pa_nil)))) (pw_and1 (pt_not (pt_val (pe_f D_gives (hr.mono (by decide)) (pa_cons (pe_ix (ixL K) (pv 5) pe_int (fun _ _ => rfl)) (pa_cons (pe_ix (ixL K) (pv 5) pe_int (fun _ _ => rfl)) pa_nil))))))))) (pss_one (ps_ret pe_bl)) pss_nil)
      (Evl.pss_cut (ps_if (PW.pt (pw_and (pt_val (pe_f D_alone (hr.mono (by decide)) (pa_cons (pe_ix (ixL K) (pv 5) pe_int (fun _ _ => rfl)) pa_nil))) (pw_and1 (pt_not (PW.pt (pw_and (pt_val (pe_f D_gives (hr.mono (by decide)) (pa_cons (pe_ix (ixL K) (pv 5) pe_int (fun _ _ => rfl)) (pa_cons (pe_ix (ixL K) (pv 5) pe_int (fun _ _ => rfl)) pa_nil)))) (pw_and1 (pt_val (pe_f D_gives (hr.mono (by decide)) (pa_cons (pe_ix (ixL K) (pv 5) pe_int (fun _ _ => rfl)) (pa_cons (pe_ix (ixL K) (pv 5) pe_int (fun _ _ => rfl)) pa_nil))))))))))) (pss_one (ps_ret pe_bl)) pss_nil)
      (pss_cons (ps_if (PW.pt (pw_or (pt_val (pe_f D_gives (hr.mono (by decide)) (pa_cons (pe_tup (pa_cons pe_int (pa_cons pe_int pa_nil))) (pa_cons (pe_tup (pa_cons pe_int (pa_cons pe_int pa_nil))) pa_nil)))) (pw_or1 (pt_not (pt_val (pe_f D_gives (hr.mono (by decide)) (pa_cons (pe_tup (pa_cons pe_int (pa_cons pe_int pa_nil))) (pa_cons (pe_tup (pa_cons pe_int (pa_cons pe_int pa_nil))) pa_nil)))))))) (pss_one (ps_ret pe_bl)) pss_nil)
      (pss_one (ps_ret (pe_f D_refused (hr.mono (by decide)) (pa_cons (pv 1) (pa_cons (pe_ix (ixL K) (pv 5) pe_int (fun _ _ => rfl)) pa_nil)))))))))))), ?_⟩
  walk_at "go"
  refine ⟨a, ns, rfl, hS, hl, fun p fs H1 hp s1 h1 hf => ?_⟩
  walk_at "go"
  refine ⟨p, fs, rfl, h1, by omega, fun r xs ns2 H2 rp hr2 hxl hxs hn2 hp2 => ?_⟩
  walk_at "go"
  have inP : p ∈ [p, r] := List.mem_cons_self ..
  refine r_lstK (SqL.of hr2) ?_
  refine r_forL (xs := xs) (fun i σ H' => ∃ (u3 u4 : Option V) (ns' : List Int), σ = [some (V.ref a), some (V.ref p), some (V.ref r), u3, u4, none, none] ∧ H' r = some (.lst xs) ∧ (∀ x ∈ xs, RX H' [p, r] x) ∧ ns'.length ≤ 100000 ∧ H' p = some (.lst (ns'.map V.int)))
    ⟨none, none, ns2, rfl, hr2, hxs, by omega, hp2⟩ (fun i σ H' _ ⟨u3, u4, ns', _, h, _⟩ => SqL.of h) ?_ ?_
  · rintro i x σ H3 hx ⟨u3, u4, ns3, rfl, hr3, hxs3, hn3, hp3⟩
    have mx := List.mem_of_getElem? hx
    walk_at "go"
    refine r_lstK (SqL.of hr3) ?_
    refine r_forL (xs := xs) (fun j σ H' => ∃ (u4 : Option V) (ns' : List Int), σ = [some (V.ref a), some (V.ref p), some (V.ref r), some x, u4, none, none] ∧ H' r = some (.lst xs) ∧ (∀ x ∈ xs, RX H' [p, r] x) ∧ ns'.length ≤ 100000 ∧ H' p = some (.lst (ns'.map V.int)))
      ⟨u4, ns3, rfl, hr3, hxs3, hn3, hp3⟩ (fun i σ H' _ ⟨u4, ns', _, h, _⟩ => SqL.of h) ?_ ?_
    · rintro j y σ H4 hy ⟨u4', ns4, rfl, hr4, hxs4, hn4, hp4⟩
      have my := List.mem_of_getElem? hy
      walk_at "go"
      refine ⟨p, ns4, x, y, [p, r], rfl, hp4, hn4, inP, hxs4 x mx, hxs4 y my, fun ns5 H5 hn5 hp5 sb => ?_⟩
      walk_at "go"
      refine ite_no rfl ?_
      walk_at "go"
      exact ⟨_, ns5, rfl, sb _ _ rp hr4, fun z hz => (hxs4 z hz).keep (.of inP sb), by omega, hp5⟩
    · rintro σ H4 ⟨u4', ns4, rfl, hr4, hxs4, hn4, hp4⟩
      obtain ⟨A, B, k, s, ⟨p1, r1, t1, v1, v2, rfl, hp1, _, _, _, ht1, _⟩, ⟨rfl, hs, bA, bB⟩⟩ := hxs4 x mx
      walk_at "go"
      refine r_ixL (SqL.of hp1) (v := .ref t1) rfl ?_
      walk_at "go"
      have lA := worth_lt (bA.up (by decide : 9 ≤ 12))
      have lB := worth_lt bB
      refine ⟨t1, _, s, rfl, SqT.of ht1, by omega, by omega, by omega, fun H5 s5 => ?_⟩
      walk_at "go"
      refine ite_no rfl ?_
      walk_at "go"
      exact ⟨_, _, ns4, rfl, s5 _ _ hr4, fun z hz => (hxs4 z hz).keep (.ofS s5), hn4, s5 _ _ hp4⟩
  rintro σ H3 ⟨u3, u4, ns3, rfl, hr3, hxs3, hn3, hp3⟩
  obtain ⟨x0, x1, x2, rfl⟩ : ∃ x0 x1 x2, xs = [x0, x1, x2] := by
    match xs, hxl with
    | [x0, x1, x2], _ => exact ⟨x0, x1, x2, rfl⟩
  obtain ⟨A0, B0, k0, s0', ⟨p0, r0, t0, v01, v02, rfl, hp0, _, _, _, ht0, _⟩, ⟨rfl, hs0, bA0, bB0⟩⟩ := hxs3 x0 (by simp)
  obtain ⟨A1, B1, k1, s1', ⟨p1, r1, t1, v11, v12, rfl, hp1, _, _, _, ht1, _⟩, ⟨rfl, hs1, bA1, bB1⟩⟩ := hxs3 x1 (by simp)
  obtain ⟨A2, B2, k2, s2', ⟨p2, r2, t2, v21, v22, rfl, hp2', _, _, _, ht2, _⟩, ⟨rfl, hs2, bA2, bB2⟩⟩ := hxs3 x2 (by simp)
  have lA0 := worth_lt (bA0.up (by decide : 9 ≤ 12))
  have lA1 := worth_lt (bA1.up (by decide : 9 ≤ 12))
  have lA2 := worth_lt (bA2.up (by decide : 9 ≤ 12))
  have lB0 := worth_lt bB0
  have lB1 := worth_lt bB1
  have lB2 := worth_lt bB2
  walk_at "go"
  refine r_lstK (SqL.of hr3) ?_
  refine r_lcL (xs := [V.ref p0, .ref p1, .ref p2]) (fun _ => true) (fun i => match i with | 0 => V.ref t0 | 1 => V.ref t1 | _ => V.ref t2) (by simp) (SqL.of hr3) (fun _ => rfl) (fun i x H' _ s' QT z => z H' (Same.refl _)) (fun i x H' hx _ s' Q' z => ?_) fun l H4 hl4 s4 h4 => ?_
  · rcases i with _ | _ | _ | i
    · cases hx
      walk_at "go"
      exact r_ixL (SqL.of (s' _ _ hp0)) rfl (z H' (Same.refl _))
    · cases hx
      walk_at "go"
      exact r_ixL (SqL.of (s' _ _ hp1)) rfl (z H' (Same.refl _))
    · cases hx
      walk_at "go"
      exact r_ixL (SqL.of (s' _ _ hp2')) rfl (z H' (Same.refl _))
    · simp at hx
  have h4 : H4 l = some (.lst [V.ref t0, V.ref t1, V.ref t2]) := h4
  have hp4 := s4 _ _ hp3
  have ht0 := s4 _ _ ht0
  have ht1 := s4 _ _ ht1
  have ht2 := s4 _ _ ht2
  have KA : ∀ {t : Addr} {o : Pw} {s : Int} {H' : Hp}, H4 t = some (.tup [V.int ((worth o : Nat) : Int), V.int s]) → Same H4 H' → KindAt K H' (.ref t) (some (((worth o : Nat) : Int), s)) := fun {t o s H'} ht z => kind_at (SqX.T (z _ _ ht)) (by omega)
  have ask : ∀ {t t' : Addr} {o o' b b' : Pw} {s s' : Int} {H' : Hp} (Q2 : VK), H4 t = some (.tup [V.int ((worth o : Nat) : Int), V.int s]) → H4 t' = some (.tup [V.int ((worth o' : Nat) : Int), V.int s']) → Same H4 H' → worth o < 2 ^ 60 → s.natAbs = worth b → worth b < 2 ^ 60 → worth o' < 2 ^ 60 → s'.natAbs = worth b' →
      (∀ H5, Same H' H5 → Q2 (.bl (gives (worth o) (worth b) (worth o') (worth b'))) H5) → spGives K CR [V.ref t, V.ref t'] H' Q2 E0 := fun {t t' o o' b b' s s' H'} Q2 e1 e2 z l1 es l2 l3 es' k => by
    refine ⟨.ref t, .ref t', _, _, rfl, KA e1 z, KA e2 z, fun z => (by cases z), fun _ z => (by cases z), fun k' s'' l' t'' f1 f2 => ?_⟩
    cases f1
    cases f2
    refine ⟨by omega, by omega, by omega, fun H5 z5 => ?_⟩
    rw [Int.natAbs_natCast, Int.natAbs_natCast, es, es']
    exact k H5 z5
  have g01 := gives_GO (K := A0) (S := B0) (L := A1) (T := B1) bB0 (bA1.up (by decide)) bB1
  have g12 := gives_GO (K := A1) (S := B1) (L := A2) (T := B2) bB1 (bA2.up (by decide)) bB2
  have g02 := gives_GO (K := A0) (S := B0) (L := A2) (T := B2) bB0 (bA2.up (by decide)) bB2
  walk_at "go"
  refine r_cut (Mid := fun σ H' => σ = [some (V.ref a), some (V.ref p), some (V.ref r), u3, u4, some (V.ref l), none] ∧ Same H4 H') ?_ ?_
  · walk_at "go"
    refine r_ixL (SqL.of h4) (v := .ref t0) rfl ?_
    walk_at "go"
    refine r_ixL (SqL.of h4) (v := .ref t1) rfl ?_
    walk_at "go"
    refine ask _ ht0 ht1 (Same.refl _) lA0 hs0 lB0 lA1 hs1 fun H5 z5 => ?_
    walk_at "go"
    refine iteB (fun e1 => ?_) fun e1 => ?_
    · walk_at "go"
      refine r_ixL (SqL.of (z5 _ _ h4)) (v := .ref t1) rfl ?_
      walk_at "go"
      refine r_ixL (SqL.of (z5 _ _ h4)) (v := .ref t2) rfl ?_
      walk_at "go"
      refine ask _ ht1 ht2 z5 lA1 hs1 lB1 lA2 hs2 fun H6 z6 => ?_
      have z56 := z5.trans z6
      walk_at "go"
      refine iteB (fun e2 => ?_) fun e2 => ?_
      · walk_at "go"
        refine r_ixL (SqL.of (z56 _ _ h4)) (v := .ref t0) rfl ?_
        walk_at "go"
        refine r_ixL (SqL.of (z56 _ _ h4)) (v := .ref t2) rfl ?_
        walk_at "go"
        refine ask _ ht0 ht2 z56 lA0 hs0 lB0 lA2 hs2 fun H7 z7 => ?_
        rw [g02.mpr (go_trans bB0 bB1 bB2 (bA2.up (by decide)) (g01.mp e1) (g12.mp e2))]
        walk_at "go"
        refine ite_no rfl ?_
        walk_at "go"
        exact ⟨rfl, z56.trans z7⟩
      · walk_at "go"
        exact ⟨rfl, z56⟩
    · walk_at "go"
      exact ⟨rfl, z5⟩
  rintro σ H5 ⟨rfl, z5⟩
  walk_at "go"
  refine r_cut (Mid := fun σ H' => σ = [some (V.ref a), some (V.ref p), some (V.ref r), u3, u4, some (V.ref l), none] ∧ Same H4 H') ?_ ?_
  · walk_at "go"
    refine r_ixL (SqL.of (z5 _ _ h4)) (v := .ref t2) rfl ?_
    walk_at "go"
    refine ⟨.ref t2, _, rfl, KA ht2 z5, fun z => (by cases z), fun k' s'' f1 H6 z6 => ?_⟩
    cases f1
    have z56 := z5.trans z6
    rw [Int.natAbs_natCast, hs2]
    walk_at "go"
    refine iteB (fun e1 => ?_) fun e1 => ?_
    · have e1 := of_decide_eq_true e1
      walk_at "go"
      refine r_ixL (SqL.of (z56 _ _ h4)) (v := .ref t0) rfl ?_
      walk_at "go"
      refine r_ixL (SqL.of (z56 _ _ h4)) (v := .ref t2) rfl ?_
      walk_at "go"
      refine ask _ ht0 ht2 z56 lA0 hs0 lB0 lA2 hs2 fun H7 z7 => ?_
      have z57 := z56.trans z7
      rw [of_alone e1]
      walk_at "go"
      refine r_ixL (SqL.of (z57 _ _ h4)) (v := .ref t1) rfl ?_
      walk_at "go"
      refine r_ixL (SqL.of (z57 _ _ h4)) (v := .ref t2) rfl ?_
      walk_at "go"
      refine ask _ ht1 ht2 z57 lA1 hs1 lB1 lA2 hs2 fun H8 z8 => ?_
      rw [of_alone e1]
      walk_at "go"
      refine ite_no rfl ?_
      walk_at "go"
      exact ⟨rfl, z57.trans z8⟩
    · walk_at "go"
      exact ⟨rfl, z56⟩
  rintro σ H6 ⟨rfl, z6⟩
  walk_at "go"
  -- two written kinds
  have wr : ∀ (k s l t : Int) (Hx : Hp) (b1 b2 : Addr) (Q2 : VK), 0 ≤ k → 0 ≤ l → k < 2 ^ 60 → s.natAbs < 2 ^ 60 → l < 2 ^ 60 → Hx b1 = none → (upd Hx b1 (.tup [V.int k, V.int s])) b2 = none → (∀ H7, Same Hx H7 → Q2 (.bl (gives k.natAbs s.natAbs l.natAbs t.natAbs)) H7) → spGives K CR [V.ref b1, V.ref b2] (upd (upd Hx b1 (.tup [V.int k, V.int s])) b2 (.tup [V.int l, V.int t])) Q2 E0 := fun k s l t Hx b1 b2 Q2 k0 l0 lk ls ll e1 e2 z => by
    have y1 := same_new (o := .tup [V.int k, V.int s]) e1
    have y2 := same_new (o := .tup [V.int l, V.int t]) e2
    refine ⟨.ref b1, .ref b2, some (k, s), some (l, t), rfl, kind_at (SqX.T (y2 _ _ upd_same)) k0, kind_at (SqX.T upd_same) l0, fun z => (by cases z), fun _ z => (by cases z), fun k' s'' l' t'' f1 f2 => ?_⟩
    cases f1
    cases f2
    exact ⟨lk, ls, ll, fun H7 z7 => z H7 ((y1.trans y2).trans z7)⟩
  refine ⟨by show 2 ≤ sizeLine; decide, fun b1 hb1 => ?_⟩
  walk_at "go"
  refine ⟨by show 2 ≤ sizeLine; decide, fun b2 hb2 => ?_⟩
  walk_at "go"
  refine wr 2 1 4 1 H6 b1 b2 _ (by decide) (by decide) (by decide) (by decide) (by decide) hb1 hb2 fun H7 z7 => ?_
  have e : gives (Int.natAbs 2) (Int.natAbs 1) (Int.natAbs 4) (Int.natAbs 1) = false := by decide +kernel
  rw [e]
  walk_at "go"
  refine ⟨by show 2 ≤ sizeLine; decide, fun b3 hb3 => ?_⟩
  walk_at "go"
  refine ⟨by show 2 ≤ sizeLine; decide, fun b4 hb4 => ?_⟩
  walk_at "go"
  refine wr 4 1 2 1 H7 b3 b4 _ (by decide) (by decide) (by decide) (by decide) (by decide) hb3 hb4 fun H8 z8 => ?_
  have e : gives (Int.natAbs 4) (Int.natAbs 1) (Int.natAbs 2) (Int.natAbs 1) = true := by decide +kernel
  rw [e]
  walk_at "go"
  refine ite_no rfl ?_
  walk_at "go"
  have z48 := (z6.trans z7).trans z8
  refine r_ixL (SqL.of (z48 _ _ h4)) (v := .ref t0) rfl ?_
  walk_at "go"
  exact ⟨p, t0, ns3, _, s0', rfl, z48 _ _ hp4, hn3, z48 _ _ ht0, by omega, fun H' => q H'⟩
end
end K63
namespace K63
open PySem PySem.Spec PyProof.Rows L2 Er
abbrev mInitB : Stmt := inClass (top 3) 0
abbrev mInitR : Stmt := inClass (top 4) 0
section
variable {prog : Program} {w : World} {A : Around} {E : Value → Shared → Prop} {env : Env} {m : Str → Option Value}
theorem txt_const {x : Str} {pos : Pos} {j} : TxtArg prog w A E env m (.Constant (.str x) j pos) := fun s Q _ h => Calls.Constant_str (h _ _ _)
theorem txt_word {a x y : Str} {t : Tok} {j} {p1 p2 p3 p4 : Pos} (hm : m x = some (.str y t)) (ha : a.length ≤ 1000) (hy : y.length ≤ 1000) (kk : env.scope.kind = .function) (kx : env.scope.names.lookup x = some .local) (hxd : (x == ("__debug__" : Str)) = false) :
    TxtArg prog w A E env m (.JoinedStr [.Constant (.str a) j p1, .FormattedValue (.Name x p2) (-1) none p3] p4) := fun s Q hns hq => by
  have h1000 : (2000 : Nat) ≤ sizeLine := by decide
  have l0 : (Str.empty ++ a).length ≤ 1000 := by rw [strLen_append]; show 0 + a.length ≤ 1000; omega
  have l1 : ((Str.empty ++ a) ++ y).length ≤ 2000 := by rw [strLen_append]; omega
  refine wpAny_JoinedStr ?_
  refine Calls.Constant_str ⟨a, _, rfl, by omega, ?_⟩
  refine wpAny_FormattedValue_plain (PySem.ESX.ldL (v := .str y t) hns hm ?_ kk kx hxd)
  exact wpAny_formatField_str ⟨y, _, rfl, by omega, by omega, hq _ _ _⟩ ⟨y, _, rfl, by omega, by omega, hq _ _ _⟩ (by omega)
end
theorem initRun_B {prog : Program} {w : World} {K : PySem.W.Frag} {mg : Str → Option Value} {C fI cc cda : Addr} {kV doc pm ct oc ccl cl : Value} {an od cdd cld : Option Addr} {osl ccs csl : Array (Option Value)} {vs : Array Value} {file : Str} {tf : Tok}
    (T : XC K C fI "word") (hms : mg "super" = none) (lf : K.lookup fI = some ⟨oc, od, .func (PySem.W.fnX "__init__" "BadNumber.__init__" (defArgs mInitB) (defBody mInitB) (defScope mInitB) [("__class__", cc)] .none kV doc pm an (.ref cda) ct), osl⟩)
    (hcd : PySem.W.codeIn K (.ref cda) "BadNumber.__init__" = true) (lcode : K.lookup cda = some ⟨ccl, cdd, .fields vs, ccs⟩) (hvs : vs[2]? = some (.str file tf)) (hfile : ((prog.main.file : Str) == file) = true) (lcell : K.lookup cc = some ⟨cl, cld, .cell (some (.ref C)), csl⟩)
    (htop : (prog.main.scope.names.lookup ("super" : Str)).isSome = false) : InitRun prog w K mg C fI "word" (fun u => ∃ x t, u = .str x t ∧ x.length ≤ 1000) := fun A R h g d t os a t1 u hu X hlim hG hB hroom he hKa hq => by
  obtain ⟨y, ty, rfl, hy⟩ := hu
  refine run_init (f := "word") (x := "word") T X hlim hG hms hB hroom lf rfl hcd lcode hvs hfile lcell htop rfl rfl (fun s => .of_eq rfl) rfl rfl rfl rfl rfl rfl rfl (by decide +kernel) (by decide) (by decide) (fun L E => txt_word rfl (by decide) hy rfl rfl (by decide)) (fun L => rfl) (fun L => rfl) (fun L => ⟨_, rfl⟩) (fun L => rfl) he hKa hq
theorem initRun_R {prog : Program} {w : World} {K : PySem.W.Frag} {mg : Str → Option Value} {C fI cc cda : Addr} {kV doc pm ct oc ccl cl : Value} {an od cdd cld : Option Addr} {osl ccs csl : Array (Option Value)} {vs : Array Value} {file : Str} {tf : Tok}
    (T : XC K C fI "place") (hms : mg "super" = none) (lf : K.lookup fI = some ⟨oc, od, .func (PySem.W.fnX "__init__" "BadRow.__init__" (defArgs mInitR) (defBody mInitR) (defScope mInitR) [("__class__", cc)] .none kV doc pm an (.ref cda) ct), osl⟩)
    (hcd : PySem.W.codeIn K (.ref cda) "BadRow.__init__" = true) (lcode : K.lookup cda = some ⟨ccl, cdd, .fields vs, ccs⟩) (hvs : vs[2]? = some (.str file tf)) (hfile : ((prog.main.file : Str) == file) = true) (lcell : K.lookup cc = some ⟨cl, cld, .cell (some (.ref C)), csl⟩)
    (htop : (prog.main.scope.names.lookup ("super" : Str)).isSome = false) : InitRun prog w K mg C fI "place" (fun _ => True) := fun A R h g d t os a t1 u hu X hlim hG hB hroom he hKa hq => by
  refine run_init (f := "place") (x := "place") T X hlim hG hms hB hroom lf rfl hcd lcode hvs hfile lcell htop rfl rfl (fun s => .of_eq rfl) rfl rfl rfl rfl rfl rfl rfl (by decide +kernel) (by decide) (by decide) (fun L E => txt_const) (fun L => rfl) (fun L => rfl) (fun L => ⟨_, rfl⟩) (fun L => rfl) he hKa hq
end K63
namespace K63
open PySem PySem.Spec PyProof.Rows L2 Er
theorem all_mk {P : Program} {w : World} {K : PySem.W.Frag} {h : Heap} {mg : Str → Option Value} {fa : Addr} (X : K.In h) (G : h.Ns mainGlobals mg) (hfa : mg "law" = some (.ref fa))
    {f_isint : Addr} {od_isint an_isint : Option Addr} {sl_isint : Array (Option Value)} {oc_isint kV_isint dc_isint pm_isint cd_isint ct_isint : Value}
    {f_isnat : Addr} {od_isnat an_isnat : Option Addr} {sl_isnat : Array (Option Value)} {oc_isnat kV_isnat dc_isnat pm_isnat cd_isnat ct_isnat : Value}
    {f_isrow : Addr} {od_isrow an_isrow : Option Addr} {sl_isrow : Array (Option Value)} {oc_isrow kV_isrow dc_isrow pm_isrow cd_isrow ct_isrow : Value}
    {f_ispair : Addr} {od_ispair an_ispair : Option Addr} {sl_ispair : Array (Option Value)} {oc_ispair kV_ispair dc_ispair pm_ispair cd_ispair ct_ispair : Value}
    {f_inh : Addr} {od_inh an_inh : Option Addr} {sl_inh : Array (Option Value)} {oc_inh kV_inh dc_inh pm_inh cd_inh ct_inh : Value}
    {f_gin : Addr} {od_gin an_gin : Option Addr} {sl_gin : Array (Option Value)} {oc_gin kV_gin dc_gin pm_gin cd_gin ct_gin : Value}
    {f_ck : Addr} {od_ck an_ck : Option Addr} {sl_ck : Array (Option Value)} {oc_ck kV_ck dc_ck pm_ck cd_ck ct_ck : Value}
    {f_div : Addr} {od_div an_div : Option Addr} {sl_div : Array (Option Value)} {oc_div kV_div dc_div pm_div cd_div ct_div : Value}
    {f_gives : Addr} {od_gives an_gives : Option Addr} {sl_gives : Array (Option Value)} {oc_gives kV_gives dc_gives pm_gives cd_gives ct_gives : Value}
    {f_sums : Addr} {od_sums an_sums : Option Addr} {sl_sums : Array (Option Value)} {oc_sums kV_sums dc_sums pm_sums cd_sums ct_sums : Value}
    {f_alone : Addr} {od_alone an_alone : Option Addr} {sl_alone : Array (Option Value)} {oc_alone kV_alone dc_alone pm_alone cd_alone ct_alone : Value}
    {f_drawn : Addr} {od_drawn an_drawn : Option Addr} {sl_drawn : Array (Option Value)} {oc_drawn kV_drawn dc_drawn pm_drawn cd_drawn ct_drawn : Value}
    {f_take : Addr} {od_take an_take : Option Addr} {sl_take : Array (Option Value)} {oc_take kV_take dc_take pm_take cd_take ct_take : Value}
    {f_powers : Addr} {od_powers an_powers : Option Addr} {sl_powers : Array (Option Value)} {oc_powers kV_powers dc_powers pm_powers cd_powers ct_powers : Value}
    {f_worth : Addr} {od_worth an_worth : Option Addr} {sl_worth : Array (Option Value)} {oc_worth kV_worth dc_worth pm_worth cd_worth ct_worth : Value}
    {f_power : Addr} {od_power an_power : Option Addr} {sl_power : Array (Option Value)} {oc_power kV_power dc_power pm_power cd_power ct_power : Value}
    {f_goes : Addr} {od_goes an_goes : Option Addr} {sl_goes : Array (Option Value)} {oc_goes kV_goes dc_goes pm_goes cd_goes ct_goes : Value}
    {f_gmod : Addr} {od_gmod an_gmod : Option Addr} {sl_gmod : Array (Option Value)} {oc_gmod kV_gmod dc_gmod pm_gmod cd_gmod ct_gmod : Value}
    {f_good : Addr} {od_good an_good : Option Addr} {sl_good : Array (Option Value)} {oc_good kV_good dc_good pm_good cd_good ct_good : Value}
    {f_hgo : Addr} {od_hgo an_hgo : Option Addr} {sl_hgo : Array (Option Value)} {oc_hgo kV_hgo dc_hgo pm_hgo cd_hgo ct_hgo : Value}
    {f_kinds : Addr} {od_kinds an_kinds : Option Addr} {sl_kinds : Array (Option Value)} {oc_kinds kV_kinds dc_kinds pm_kinds cd_kinds ct_kinds : Value}
    {f_pair : Addr} {od_pair an_pair : Option Addr} {sl_pair : Array (Option Value)} {oc_pair kV_pair dc_pair pm_pair cd_pair ct_pair : Value}
    {f_ends : Addr} {od_ends an_ends : Option Addr} {sl_ends : Array (Option Value)} {oc_ends kV_ends dc_ends pm_ends cd_ends ct_ends : Value}
    {f_trow : Addr} {od_trow an_trow : Option Addr} {sl_trow : Array (Option Value)} {oc_trow kV_trow dc_trow pm_trow cd_trow ct_trow : Value}
    {f_thours : Addr} {od_thours an_thours : Option Addr} {sl_thours : Array (Option Value)} {oc_thours kV_thours dc_thours pm_thours cd_thours ct_thours : Value}
    {f_ref : Addr} {od_ref an_ref : Option Addr} {sl_ref : Array (Option Value)} {oc_ref kV_ref dc_ref pm_ref cd_ref ct_ref : Value}
    {f_law : Addr} {od_law an_law : Option Addr} {sl_law : Array (Option Value)} {oc_law kV_law dc_law pm_law cd_law ct_law : Value}
    {f_cn : Addr} {od_cn an_cn : Option Addr} {sl_cn : Array (Option Value)} {oc_cn kV_cn dc_cn pm_cn cd_cn ct_cn : Value}
    {tleast tzero : Tok} {CN CR dT : Addr} {dTc : Value} {dTd : Option Addr} {dTn : Nat} {dTs : Array (Option Value)}
    {fIB ccB cdaB : Addr} {kVB dcB pmB ctB ocB cclB clB : Value} {anB odB cddB cldB : Option Addr} {oslB ccsB cslB : Array (Option Value)} {vsB : Array Value} {fileB : Str} {tfB : Tok}
    {fIR ccR cdaR : Addr} {kVR dcR pmR ctR ocR cclR clR : Value} {anR odR cddR cldR : Option Addr} {oslR ccsR cslR : Array (Option Value)} {vsR : Array Value} {fileR : Str} {tfR : Tok}
    (z_len : PySem.W.nsIn K mainGlobals "len" = some none)
    (z_int : PySem.W.nsIn K mainGlobals "int" = some none)
    (z_list : PySem.W.nsIn K mainGlobals "list" = some none)
    (z_tuple : PySem.W.nsIn K mainGlobals "tuple" = some none)
    (z_min : PySem.W.nsIn K mainGlobals "min" = some none)
    (z_max : PySem.W.nsIn K mainGlobals "max" = some none)
    (z_range : PySem.W.nsIn K mainGlobals "range" = some none)
    (z_all : PySem.W.nsIn K mainGlobals "all" = some none)
    (z_isinstance : PySem.W.nsIn K mainGlobals "isinstance" = some none)
    (z_bool : PySem.W.nsIn K mainGlobals "bool" = some none)
    (z_super : PySem.W.nsIn K mainGlobals "super" = some none)
    (z_enumerate : PySem.W.nsIn K mainGlobals "enumerate" = some none)
    (z_gcd : PySem.W.nsIn K mainGlobals "gcd" = some (some (.builtin "math.gcd")))
    (z_LEAST : PySem.W.nsIn K mainGlobals "LEAST_HOURS" = some (some (.int 2 tleast)))
    (gN : PySem.W.nsIn K mainGlobals "BadNumber" = some (some (.ref CN)))
    (gR : PySem.W.nsIn K mainGlobals "BadRow" = some (some (.ref CR)))
    (a_isint : PySem.W.nsIn K mainGlobals "is_integer" = some (some (.ref f_isint)))
    (l_isint : K.lookup f_isint = some ⟨oc_isint, od_isint, .func (PySem.W.fnOf "is_integer" "is_integer" (defArgs sIsInteger) (defBody sIsInteger) (defScope sIsInteger) .none kV_isint dc_isint pm_isint an_isint cd_isint ct_isint), sl_isint⟩)
    (c_isint : PySem.W.codeIn K cd_isint "is_integer" = true)
    (k_isint : PySem.W.keepIn K (.ref f_isint) = true)
    (a_isnat : PySem.W.nsIn K mainGlobals "is_natural" = some (some (.ref f_isnat)))
    (l_isnat : K.lookup f_isnat = some ⟨oc_isnat, od_isnat, .func (PySem.W.fnOf "is_natural" "is_natural" (defArgs sIsNatural) (defBody sIsNatural) (defScope sIsNatural) .none kV_isnat dc_isnat pm_isnat an_isnat cd_isnat ct_isnat), sl_isnat⟩)
    (c_isnat : PySem.W.codeIn K cd_isnat "is_natural" = true)
    (k_isnat : PySem.W.keepIn K (.ref f_isnat) = true)
    (a_isrow : PySem.W.nsIn K mainGlobals "is_row" = some (some (.ref f_isrow)))
    (l_isrow : K.lookup f_isrow = some ⟨oc_isrow, od_isrow, .func (PySem.W.fnOf "is_row" "is_row" (defArgs sIsRow) (defBody sIsRow) (defScope sIsRow) .none kV_isrow dc_isrow pm_isrow an_isrow cd_isrow ct_isrow), sl_isrow⟩)
    (c_isrow : PySem.W.codeIn K cd_isrow "is_row" = true)
    (k_isrow : PySem.W.keepIn K (.ref f_isrow) = true)
    (a_ispair : PySem.W.nsIn K mainGlobals "is_pair" = some (some (.ref f_ispair)))
    (l_ispair : K.lookup f_ispair = some ⟨oc_ispair, od_ispair, .func (PySem.W.fnOf "is_pair" "is_pair" (defArgs sIsPair) (defBody sIsPair) (defScope sIsPair) .none kV_ispair dc_ispair pm_ispair an_ispair cd_ispair ct_ispair), sl_ispair⟩)
    (c_ispair : PySem.W.codeIn K cd_ispair "is_pair" = true)
    (k_ispair : PySem.W.keepIn K (.ref f_ispair) = true)
    (a_inh : PySem.W.nsIn K mainGlobals "in_hours" = some (some (.ref f_inh)))
    (l_inh : K.lookup f_inh = some ⟨oc_inh, od_inh, .func (PySem.W.fnOf "in_hours" "in_hours" (defArgs sInHours) (defBody sInHours) (defScope sInHours) .none kV_inh dc_inh pm_inh an_inh cd_inh ct_inh), sl_inh⟩)
    (c_inh : PySem.W.codeIn K cd_inh "in_hours" = true)
    (k_inh : PySem.W.keepIn K (.ref f_inh) = true)
    (a_gin : PySem.W.nsIn K mainGlobals "goes_into" = some (some (.ref f_gin)))
    (l_gin : K.lookup f_gin = some ⟨oc_gin, od_gin, .func (PySem.W.fnOf "goes_into" "goes_into" (defArgs sGoesInto) (defBody sGoesInto) (defScope sGoesInto) .none kV_gin dc_gin pm_gin an_gin cd_gin ct_gin), sl_gin⟩)
    (c_gin : PySem.W.codeIn K cd_gin "goes_into" = true)
    (k_gin : PySem.W.keepIn K (.ref f_gin) = true)
    (a_ck : PySem.W.nsIn K mainGlobals "check_kinds" = some (some (.ref f_ck)))
    (l_ck : K.lookup f_ck = some ⟨oc_ck, od_ck, .func (PySem.W.fnOf "check_kinds" "check_kinds" (defArgs sCheckKinds) (defBody sCheckKinds) (defScope sCheckKinds) .none kV_ck dc_ck pm_ck an_ck cd_ck ct_ck), sl_ck⟩)
    (c_ck : PySem.W.codeIn K cd_ck "check_kinds" = true)
    (k_ck : PySem.W.keepIn K (.ref f_ck) = true)
    (a_div : PySem.W.nsIn K mainGlobals "divided" = some (some (.ref f_div)))
    (l_div : K.lookup f_div = some ⟨oc_div, od_div, .func (PySem.W.fnOf "divided" "divided" (defArgs sDivided) (defBody sDivided) (defScope sDivided) .none kV_div dc_div pm_div an_div cd_div ct_div), sl_div⟩)
    (c_div : PySem.W.codeIn K cd_div "divided" = true)
    (k_div : PySem.W.keepIn K (.ref f_div) = true)
    (a_gives : PySem.W.nsIn K mainGlobals "loop_gives" = some (some (.ref f_gives)))
    (l_gives : K.lookup f_gives = some ⟨oc_gives, od_gives, .func (PySem.W.fnOf "loop_gives" "loop_gives" (defArgs sGives) (defBody sGives) (defScope sGives) .none kV_gives dc_gives pm_gives an_gives cd_gives ct_gives), sl_gives⟩)
    (c_gives : PySem.W.codeIn K cd_gives "loop_gives" = true)
    (k_gives : PySem.W.keepIn K (.ref f_gives) = true)
    (a_sums : PySem.W.nsIn K mainGlobals "loop_sums" = some (some (.ref f_sums)))
    (l_sums : K.lookup f_sums = some ⟨oc_sums, od_sums, .func (PySem.W.fnOf "loop_sums" "loop_sums" (defArgs sSums) (defBody sSums) (defScope sSums) .none kV_sums dc_sums pm_sums an_sums cd_sums ct_sums), sl_sums⟩)
    (c_sums : PySem.W.codeIn K cd_sums "loop_sums" = true)
    (k_sums : PySem.W.keepIn K (.ref f_sums) = true)
    (a_alone : PySem.W.nsIn K mainGlobals "alone" = some (some (.ref f_alone)))
    (l_alone : K.lookup f_alone = some ⟨oc_alone, od_alone, .func (PySem.W.fnOf "alone" "alone" (defArgs sAlone) (defBody sAlone) (defScope sAlone) .none kV_alone dc_alone pm_alone an_alone cd_alone ct_alone), sl_alone⟩)
    (c_alone : PySem.W.codeIn K cd_alone "alone" = true)
    (k_alone : PySem.W.keepIn K (.ref f_alone) = true)
    (a_drawn : PySem.W.nsIn K mainGlobals "_law_drawn" = some (some (.ref f_drawn)))
    (l_drawn : K.lookup f_drawn = some ⟨oc_drawn, od_drawn, .func (PySem.W.fnOf "_law_drawn" "_law_drawn" (defArgs sDrawn) (defBody sDrawn) (defScope sDrawn) .none kV_drawn dc_drawn pm_drawn an_drawn cd_drawn ct_drawn), sl_drawn⟩)
    (c_drawn : PySem.W.codeIn K cd_drawn "_law_drawn" = true)
    (k_drawn : PySem.W.keepIn K (.ref f_drawn) = true)
    (a_take : PySem.W.nsIn K mainGlobals "_law_take" = some (some (.ref f_take)))
    (l_take : K.lookup f_take = some ⟨oc_take, od_take, .func (PySem.W.fnOf "_law_take" "_law_take" (defArgs sTake) (defBody sTake) (defScope sTake) .none kV_take dc_take pm_take an_take cd_take ct_take), sl_take⟩)
    (c_take : PySem.W.codeIn K cd_take "_law_take" = true)
    (k_take : PySem.W.keepIn K (.ref f_take) = true)
    (a_powers : PySem.W.nsIn K mainGlobals "_law_powers" = some (some (.ref f_powers)))
    (l_powers : K.lookup f_powers = some ⟨oc_powers, od_powers, .func (PySem.W.fnOf "_law_powers" "_law_powers" (defArgs sPowers) (defBody sPowers) (defScope sPowers) .none kV_powers dc_powers pm_powers an_powers cd_powers ct_powers), sl_powers⟩)
    (c_powers : PySem.W.codeIn K cd_powers "_law_powers" = true)
    (k_powers : PySem.W.keepIn K (.ref f_powers) = true)
    (a_worth : PySem.W.nsIn K mainGlobals "_law_worth" = some (some (.ref f_worth)))
    (l_worth : K.lookup f_worth = some ⟨oc_worth, od_worth, .func (PySem.W.fnOf "_law_worth" "_law_worth" (defArgs sWorth) (defBody sWorth) (defScope sWorth) .none kV_worth dc_worth pm_worth an_worth cd_worth ct_worth), sl_worth⟩)
    (c_worth : PySem.W.codeIn K cd_worth "_law_worth" = true)
    (k_worth : PySem.W.keepIn K (.ref f_worth) = true)
    (a_power : PySem.W.nsIn K mainGlobals "_law_power" = some (some (.ref f_power)))
    (l_power : K.lookup f_power = some ⟨oc_power, od_power, .func (PySem.W.fnOf "_law_power" "_law_power" (defArgs sPower) (defBody sPower) (defScope sPower) .none kV_power dc_power pm_power an_power cd_power ct_power), sl_power⟩)
    (c_power : PySem.W.codeIn K cd_power "_law_power" = true)
    (k_power : PySem.W.keepIn K (.ref f_power) = true)
    (a_goes : PySem.W.nsIn K mainGlobals "_law_goes" = some (some (.ref f_goes)))
    (l_goes : K.lookup f_goes = some ⟨oc_goes, od_goes, .func (PySem.W.fnOf "_law_goes" "_law_goes" (defArgs sGoes) (defBody sGoes) (defScope sGoes) .none kV_goes dc_goes pm_goes an_goes cd_goes ct_goes), sl_goes⟩)
    (c_goes : PySem.W.codeIn K cd_goes "_law_goes" = true)
    (k_goes : PySem.W.keepIn K (.ref f_goes) = true)
    (a_gmod : PySem.W.nsIn K mainGlobals "_law_goes_mod" = some (some (.ref f_gmod)))
    (l_gmod : K.lookup f_gmod = some ⟨oc_gmod, od_gmod, .func (PySem.W.fnOf "_law_goes_mod" "_law_goes_mod" (defArgs sGoesMod) (defBody sGoesMod) (defScope sGoesMod) .none kV_gmod dc_gmod pm_gmod an_gmod cd_gmod ct_gmod), sl_gmod⟩)
    (c_gmod : PySem.W.codeIn K cd_gmod "_law_goes_mod" = true)
    (k_gmod : PySem.W.keepIn K (.ref f_gmod) = true)
    (a_good : PySem.W.nsIn K mainGlobals "_law_good" = some (some (.ref f_good)))
    (l_good : K.lookup f_good = some ⟨oc_good, od_good, .func (PySem.W.fnOf "_law_good" "_law_good" (defArgs sGood) (defBody sGood) (defScope sGood) .none kV_good dc_good pm_good an_good cd_good ct_good), sl_good⟩)
    (c_good : PySem.W.codeIn K cd_good "_law_good" = true)
    (k_good : PySem.W.keepIn K (.ref f_good) = true)
    (a_hgo : PySem.W.nsIn K mainGlobals "_law_hours_go_on" = some (some (.ref f_hgo)))
    (l_hgo : K.lookup f_hgo = some ⟨oc_hgo, od_hgo, .func (PySem.W.fnOf "_law_hours_go_on" "_law_hours_go_on" (defArgs sHoursGo) (defBody sHoursGo) (defScope sHoursGo) .none kV_hgo dc_hgo pm_hgo an_hgo cd_hgo ct_hgo), sl_hgo⟩)
    (c_hgo : PySem.W.codeIn K cd_hgo "_law_hours_go_on" = true)
    (k_hgo : PySem.W.keepIn K (.ref f_hgo) = true)
    (a_kinds : PySem.W.nsIn K mainGlobals "_law_kinds" = some (some (.ref f_kinds)))
    (l_kinds : K.lookup f_kinds = some ⟨oc_kinds, od_kinds, .func (PySem.W.fnOf "_law_kinds" "_law_kinds" (defArgs sKinds) (defBody sKinds) (defScope sKinds) .none kV_kinds dc_kinds pm_kinds an_kinds cd_kinds ct_kinds), sl_kinds⟩)
    (c_kinds : PySem.W.codeIn K cd_kinds "_law_kinds" = true)
    (k_kinds : PySem.W.keepIn K (.ref f_kinds) = true)
    (a_pair : PySem.W.nsIn K mainGlobals "_law_pair" = some (some (.ref f_pair)))
    (l_pair : K.lookup f_pair = some ⟨oc_pair, od_pair, .func (PySem.W.fnOf "_law_pair" "_law_pair" (defArgs sPair) (defBody sPair) (defScope sPair) .none kV_pair dc_pair pm_pair an_pair cd_pair ct_pair), sl_pair⟩)
    (c_pair : PySem.W.codeIn K cd_pair "_law_pair" = true)
    (k_pair : PySem.W.keepIn K (.ref f_pair) = true)
    (a_ends : PySem.W.nsIn K mainGlobals "_law_ends" = some (some (.ref f_ends)))
    (l_ends : K.lookup f_ends = some ⟨oc_ends, od_ends, .func (PySem.W.fnOf "_law_ends" "_law_ends" (defArgs sEnds) (defBody sEnds) (defScope sEnds) .none kV_ends dc_ends pm_ends an_ends cd_ends ct_ends), sl_ends⟩)
    (c_ends : PySem.W.codeIn K cd_ends "_law_ends" = true)
    (k_ends : PySem.W.keepIn K (.ref f_ends) = true)
    (a_trow : PySem.W.nsIn K mainGlobals "_law_told_row" = some (some (.ref f_trow)))
    (l_trow : K.lookup f_trow = some ⟨oc_trow, od_trow, .func (PySem.W.fnOf "_law_told_row" "_law_told_row" (defArgs sToldRow) (defBody sToldRow) (defScope sToldRow) .none kV_trow dc_trow pm_trow an_trow cd_trow ct_trow), sl_trow⟩)
    (c_trow : PySem.W.codeIn K cd_trow "_law_told_row" = true)
    (k_trow : PySem.W.keepIn K (.ref f_trow) = true)
    (a_thours : PySem.W.nsIn K mainGlobals "_law_told_hours" = some (some (.ref f_thours)))
    (l_thours : K.lookup f_thours = some ⟨oc_thours, od_thours, .func (PySem.W.fnOf "_law_told_hours" "_law_told_hours" (defArgs sToldHours) (defBody sToldHours) (defScope sToldHours) .none kV_thours dc_thours pm_thours an_thours cd_thours ct_thours), sl_thours⟩)
    (c_thours : PySem.W.codeIn K cd_thours "_law_told_hours" = true)
    (k_thours : PySem.W.keepIn K (.ref f_thours) = true)
    (a_ref : PySem.W.nsIn K mainGlobals "_law_refused" = some (some (.ref f_ref)))
    (l_ref : K.lookup f_ref = some ⟨oc_ref, od_ref, .func (PySem.W.fnOf "_law_refused" "_law_refused" (defArgs sRefused) (defBody sRefused) (defScope sRefused) .none kV_ref dc_ref pm_ref an_ref cd_ref ct_ref), sl_ref⟩)
    (c_ref : PySem.W.codeIn K cd_ref "_law_refused" = true)
    (k_ref : PySem.W.keepIn K (.ref f_ref) = true)
    (a_law : PySem.W.nsIn K mainGlobals "law" = some (some (.ref f_law)))
    (l_law : K.lookup f_law = some ⟨oc_law, od_law, .func (PySem.W.fnOf "law" "law" (defArgs sLaw) (defBody sLaw) (defScope sLaw) .none kV_law dc_law pm_law an_law cd_law ct_law), sl_law⟩)
    (c_law : PySem.W.codeIn K cd_law "law" = true)
    (k_law : PySem.W.keepIn K (.ref f_law) = true)
    (a_cn : PySem.W.nsIn K mainGlobals "check_number" = some (some (.ref f_cn)))
    (l_cn : K.lookup f_cn = some ⟨oc_cn, od_cn, .func (PySem.W.fnOf "check_number" "check_number" (defArgs sCheckNum) (defBody sCheckNum) (defScope sCheckNum) (.ref dT) kV_cn dc_cn pm_cn an_cn cd_cn ct_cn), sl_cn⟩)
    (c_cn : PySem.W.codeIn K cd_cn "check_number" = true)
    (k_cn : PySem.W.keepIn K (.ref f_cn) = true)
    (l_dT : K.lookup dT = some ⟨dTc, dTd, .seq #[.int 0 tzero] dTn, dTs⟩)
    (opq : PySem.W.nsIn K cStatics "thirdparty.any" = some none)
    (iniB : PySem.W.excInitIn K CN exBm "Exception.__new__" = true)
    (ovB : PySem.W.excOver K CN exBm = true)
    (hdB : PySem.W.hasDictIn K CN = true)
    (tkB : PySem.W.takerIn K CN "word" = some none)
    (saB : PySem.W.findIn K (.ref CN) "__setattr__" = some (some (.builtin "object.__setattr__")))
    (exCB : PySem.W.subIn K (.ref CN) (.type "BaseException") = some true)
    (exEB : PySem.W.subIn K (.ref CN) (.type "Exception") = some true)
    (tyCB : PySem.W.typeIn K (.ref CN) = some (.type "type"))
    (kCB : PySem.W.keepIn K (.ref CN) = true)
    (slfB : PySem.W.mroIn K CN (.ref CN) = some true)
    (iCB : PySem.W.findIn K (.ref CN) "__init__" = some (some (.ref fIB)))
    (tIB : PySem.W.typeIn K (.ref fIB) = some (.type "function"))
    (supB : PySem.W.ks_superIn K CN CN "__init__" = some (some (.builtin "Exception.__init__")))
    (lfB : K.lookup fIB = some ⟨ocB, odB, .func (PySem.W.fnX "__init__" "BadNumber.__init__" (defArgs mInitB) (defBody mInitB) (defScope mInitB) [("__class__", ccB)] .none kVB dcB pmB anB (.ref cdaB) ctB), oslB⟩)
    (hcdB : PySem.W.codeIn K (.ref cdaB) "BadNumber.__init__" = true)
    (lcoB : K.lookup cdaB = some ⟨cclB, cddB, .fields vsB, ccsB⟩)
    (hvsB : vsB[2]? = some (.str fileB tfB))
    (hfiB : ((P.main.file : Str) == fileB) = true)
    (lceB : K.lookup ccB = some ⟨clB, cldB, .cell (some (.ref CN)), cslB⟩)
    (gaB : PySem.W.findIn K (.ref CN) "__getattribute__" = some (some (.builtin "BaseException.__getattribute__")))
    (ggB : PySem.W.findIn K (.ref CN) "__getattr__" = some none)
    (nfB : PySem.W.findIn K (.ref CN) "word" = some none)
    (iniR : PySem.W.excInitIn K CR exBm "Exception.__new__" = true)
    (ovR : PySem.W.excOver K CR exBm = true)
    (hdR : PySem.W.hasDictIn K CR = true)
    (tkR : PySem.W.takerIn K CR "place" = some none)
    (saR : PySem.W.findIn K (.ref CR) "__setattr__" = some (some (.builtin "object.__setattr__")))
    (exCR : PySem.W.subIn K (.ref CR) (.type "BaseException") = some true)
    (exER : PySem.W.subIn K (.ref CR) (.type "Exception") = some true)
    (tyCR : PySem.W.typeIn K (.ref CR) = some (.type "type"))
    (kCR : PySem.W.keepIn K (.ref CR) = true)
    (slfR : PySem.W.mroIn K CR (.ref CR) = some true)
    (iCR : PySem.W.findIn K (.ref CR) "__init__" = some (some (.ref fIR)))
    (tIR : PySem.W.typeIn K (.ref fIR) = some (.type "function"))
    (supR : PySem.W.ks_superIn K CR CR "__init__" = some (some (.builtin "Exception.__init__")))
    (lfR : K.lookup fIR = some ⟨ocR, odR, .func (PySem.W.fnX "__init__" "BadRow.__init__" (defArgs mInitR) (defBody mInitR) (defScope mInitR) [("__class__", ccR)] .none kVR dcR pmR anR (.ref cdaR) ctR), oslR⟩)
    (hcdR : PySem.W.codeIn K (.ref cdaR) "BadRow.__init__" = true)
    (lcoR : K.lookup cdaR = some ⟨cclR, cddR, .fields vsR, ccsR⟩)
    (hvsR : vsR[2]? = some (.str fileR tfR))
    (hfiR : ((P.main.file : Str) == fileR) = true)
    (lceR : K.lookup ccR = some ⟨clR, cldR, .cell (some (.ref CR)), cslR⟩)
    (gaR : PySem.W.findIn K (.ref CR) "__getattribute__" = some (some (.builtin "BaseException.__getattribute__")))
    (ggR : PySem.W.findIn K (.ref CR) "__getattr__" = some none)
    (nfR : PySem.W.findIn K (.ref CR) "place" = some none)
    (htop : (P.main.scope.names.lookup ("super" : Str)).isSome = false)
    (nn : PySem.W.exmOne K (.ref CN) (.ref CN) = some true)
    (rr : PySem.W.exmOne K (.ref CR) (.ref CR) = some true) :
    ∃ fd : FuncData, (∀ (s : Shared) (v : Value), BindsTo s fd ⟨[v], []⟩ [("_law_script", v)]) ∧ ∀ base : Heap, K.In base → base.Ns mainGlobals mg → FnOk P w K mg base (L2.CX P w) 7 fa fd ["_law_script"] (spLaw K) := by
  have e := hfa.symm.trans (PySem.W.mg_of X G a_law)
  cases e
  have m_len := PySem.W.mg_none_of X G z_len
  have m_int := PySem.W.mg_none_of X G z_int
  have m_list := PySem.W.mg_none_of X G z_list
  have m_tuple := PySem.W.mg_none_of X G z_tuple
  have m_min := PySem.W.mg_none_of X G z_min
  have m_max := PySem.W.mg_none_of X G z_max
  have m_range := PySem.W.mg_none_of X G z_range
  have m_all := PySem.W.mg_none_of X G z_all
  have m_isinstance := PySem.W.mg_none_of X G z_isinstance
  have m_bool := PySem.W.mg_none_of X G z_bool
  have m_super := PySem.W.mg_none_of X G z_super
  have m_enumerate := PySem.W.mg_none_of X G z_enumerate
  have m_gcd := PySem.W.mg_of X G z_gcd
  have m_LEAST := PySem.W.mg_of X G z_LEAST
  have F_isint := fun_mk (st := sIsInteger) l_isint c_isint k_isint
  have b_isint := F_isint.binds (ps := ["thing"]) fun _ _ _ _ _ _ us hl => match us, hl with | [_], _ => rfl
  have F_isnat := fun_mk (st := sIsNatural) l_isnat c_isnat k_isnat
  have b_isnat := F_isnat.binds (ps := ["thing"]) fun _ _ _ _ _ _ us hl => match us, hl with | [_], _ => rfl
  have F_isrow := fun_mk (st := sIsRow) l_isrow c_isrow k_isrow
  have b_isrow := F_isrow.binds (ps := ["thing"]) fun _ _ _ _ _ _ us hl => match us, hl with | [_], _ => rfl
  have F_ispair := fun_mk (st := sIsPair) l_ispair c_ispair k_ispair
  have b_ispair := F_ispair.binds (ps := ["thing"]) fun _ _ _ _ _ _ us hl => match us, hl with | [_], _ => rfl
  have F_inh := fun_mk (st := sInHours) l_inh c_inh k_inh
  have b_inh := F_inh.binds (ps := ["number", "hours"]) fun _ _ _ _ _ _ us hl => match us, hl with | [_, _], _ => rfl
  have F_gin := fun_mk (st := sGoesInto) l_gin c_gin k_gin
  have b_gin := F_gin.binds (ps := ["number", "other"]) fun _ _ _ _ _ _ us hl => match us, hl with | [_, _], _ => rfl
  have F_ck := fun_mk (st := sCheckKinds) l_ck c_ck k_ck
  have b_ck := F_ck.binds (ps := ["kinds"]) fun _ _ _ _ _ _ us hl => match us, hl with | [_], _ => rfl
  have F_div := fun_mk (st := sDivided) l_div c_div k_div
  have b_div := F_div.binds (ps := ["number", "other"]) fun _ _ _ _ _ _ us hl => match us, hl with | [_, _], _ => rfl
  have F_gives := fun_mk (st := sGives) l_gives c_gives k_gives
  have b_gives := F_gives.binds (ps := ["one", "other"]) fun _ _ _ _ _ _ us hl => match us, hl with | [_, _], _ => rfl
  have F_sums := fun_mk (st := sSums) l_sums c_sums k_sums
  have b_sums := F_sums.binds (ps := ["one", "other", "hours"]) fun _ _ _ _ _ _ us hl => match us, hl with | [_, _, _], _ => rfl
  have F_alone := fun_mk (st := sAlone) l_alone c_alone k_alone
  have b_alone := F_alone.binds (ps := ["kind"]) fun _ _ _ _ _ _ us hl => match us, hl with | [_], _ => rfl
  have F_drawn := fun_mk (st := sDrawn) l_drawn c_drawn k_drawn
  have b_drawn := F_drawn.binds (ps := ["_law_script"]) fun _ _ _ _ _ _ us hl => match us, hl with | [_], _ => rfl
  have F_take := fun_mk (st := sTake) l_take c_take k_take
  have b_take := F_take.binds (ps := ["_law_found", "_law_many"]) fun _ _ _ _ _ _ us hl => match us, hl with | [_, _], _ => rfl
  have F_powers := fun_mk (st := sPowers) l_powers c_powers k_powers
  have b_powers := F_powers.binds (ps := ["_law_found", "_law_least"]) fun _ _ _ _ _ _ us hl => match us, hl with | [_, _], _ => rfl
  have F_worth := fun_mk (st := sWorth) l_worth c_worth k_worth
  have b_worth := F_worth.binds (ps := ["_law_powers_here"]) fun _ _ _ _ _ _ us hl => match us, hl with | [_], _ => rfl
  have F_power := fun_mk (st := sPower) l_power c_power k_power
  have b_power := F_power.binds (ps := ["_law_powers_here", "_law_k"]) fun _ _ _ _ _ _ us hl => match us, hl with | [_, _], _ => rfl
  have F_goes := fun_mk (st := sGoes) l_goes c_goes k_goes
  have b_goes := F_goes.binds (ps := ["_law_one", "_law_other"]) fun _ _ _ _ _ _ us hl => match us, hl with | [_, _], _ => rfl
  have F_gmod := fun_mk (st := sGoesMod) l_gmod c_gmod k_gmod
  have b_gmod := F_gmod.binds (ps := ["_law_one", "_law_other", "_law_hours"]) fun _ _ _ _ _ _ us hl => match us, hl with | [_, _, _], _ => rfl
  have F_good := fun_mk (st := sGood) l_good c_good k_good
  have b_good := F_good.binds (ps := ["_law_kind", "_law_k", "_law_power_here"]) fun _ _ _ _ _ _ us hl => match us, hl with | [_, _, _], _ => rfl
  have F_hgo := fun_mk (st := sHoursGo) l_hgo c_hgo k_hgo
  have b_hgo := F_hgo.binds (ps := ["_law_one", "_law_other"]) fun _ _ _ _ _ _ us hl => match us, hl with | [_, _], _ => rfl
  have F_kinds := fun_mk (st := sKinds) l_kinds c_kinds k_kinds
  have b_kinds := F_kinds.binds (ps := ["_law_found"]) fun _ _ _ _ _ _ us hl => match us, hl with | [_], _ => rfl
  have F_pair := fun_mk (st := sPair) l_pair c_pair k_pair
  have b_pair := F_pair.binds (ps := ["_law_found", "_law_one", "_law_other"]) fun _ _ _ _ _ _ us hl => match us, hl with | [_, _, _], _ => rfl
  have F_ends := fun_mk (st := sEnds) l_ends c_ends k_ends
  have b_ends := F_ends.binds (ps := ["_law_kind"]) fun _ _ _ _ _ _ us hl => match us, hl with | [_], _ => rfl
  have F_trow := fun_mk (st := sToldRow) l_trow c_trow k_trow
  have b_trow := F_trow.binds (ps := ["_law_function", "_law_one", "_law_other"]) fun _ _ _ _ _ _ us hl => match us, hl with | [_, _, _], _ => rfl
  have F_thours := fun_mk (st := sToldHours) l_thours c_thours k_thours
  have b_thours := F_thours.binds (ps := ["_law_one", "_law_other", "_law_hours"]) fun _ _ _ _ _ _ us hl => match us, hl with | [_, _, _], _ => rfl
  have F_ref := fun_mk (st := sRefused) l_ref c_ref k_ref
  have b_ref := F_ref.binds (ps := ["_law_found", "_law_kind"]) fun _ _ _ _ _ _ us hl => match us, hl with | [_, _], _ => rfl
  have F_law := fun_mk (st := sLaw) l_law c_law k_law
  have b_law := F_law.binds (ps := ["_law_script"]) fun _ _ _ _ _ _ us hl => match us, hl with | [_], _ => rfl
  have F_cn : FunD K "check_number" "check_number" (defArgs sCheckNum) (defBody sCheckNum) (defScope sCheckNum) [.int 0] [] f_cn (PySem.W.fnOf "check_number" "check_number" (defArgs sCheckNum) (defBody sCheckNum) (defScope sCheckNum) (.ref dT) kV_cn dc_cn pm_cn an_cn cd_cn ct_cn) := ⟨⟨oc_cn, od_cn, .ref dT, kV_cn, dc_cn, pm_cn, an_cn, cd_cn, ct_cn, sl_cn, rfl, l_cn, c_cn, .inr ⟨by simp, dT, _, [.int 0 tzero], dTn, rfl, l_dT, rfl, .cons ⟨tzero, rfl⟩ .nil⟩, .inl rfl⟩, k_cn⟩
  have b_cn : Binds K (PySem.W.fnOf "check_number" "check_number" (defArgs sCheckNum) (defBody sCheckNum) (defScope sCheckNum) (.ref dT) kV_cn dc_cn pm_cn an_cn cd_cn ct_cn) ["number", "word", "least"] [] := by
    obtain ⟨ds, hv, hb⟩ := F_cn.binds1 (ps := ["number", "word", "least"]) 3 1 (by simp) rfl fun T kV doc pm an cdv ct us its h1 h2 => match us, its, h1, h2 with | [_, _, _], [_], _, _ => ⟨_, rfl, rfl⟩
    cases hv
    exact hb
  refine ⟨PySem.W.fnOf "law" "law" (defArgs sLaw) (defBody sLaw) (defScope sLaw) .none kV_law dc_law pm_law an_law cd_law ct_law, fun s v => .of_eq rfl, fun base _ _ => ?_⟩
  have xB : XC K CN fIB "word" := ⟨iniB, ovB, hdB, tkB, saB, exCB, exEB, tyCB, kCB, slfB, iCB, tIB, supB, opq⟩
  have xR : XC K CR fIR "place" := ⟨iniR, ovR, hdR, tkR, saR, exCR, exER, tyCR, kCR, slfR, iCR, tIR, supR, opq⟩
  have T : Errs P w K mg CN CR := ⟨⟨fIB, xB, initRun_B xB m_super lfB hcdB lcoB hvsB hfiB lceB htop⟩, ⟨fIR, xR, initRun_R xR m_super lfR hcdR lcoR hvsR hfiR lceR htop⟩, PySem.W.mg_of X G gN, PySem.W.mg_of X G gR⟩
  have TX : ErrsX K CN CR := ⟨nn, rr, ⟨gaB, ggB, exCB, hdB⟩, ⟨gaR, ggR, exCR, hdR⟩, nfB, nfR⟩
  have D_isint := fok (base := base) (w := w) (P := P) F_isint (PySem.W.mg_of X G a_isint) b_isint (ok_is_integer F_isint m_isinstance m_int m_bool)
  have D_isnat := fok (base := base) (w := w) (P := P) F_isnat (PySem.W.mg_of X G a_isnat) b_isnat (ok_is_natural F_isnat D_isint)
  have D_isrow := fok (base := base) (w := w) (P := P) F_isrow (PySem.W.mg_of X G a_isrow) b_isrow (ok_is_row F_isrow m_isinstance m_list m_tuple)
  have D_ispair := fok (base := base) (w := w) (P := P) F_ispair (PySem.W.mg_of X G a_ispair) b_ispair (ok_is_pair F_ispair m_len D_isrow)
  have D_cn : Fok P w K mg base 3 "check_number" ["number", "word", "least"] (spCheckN K CN) := ⟨f_cn, _, PySem.W.mg_of X G a_cn, F_cn.kp, b_cn, ok_check_number F_cn T D_isint⟩
  have D_inh := fok (base := base) (w := w) (P := P) F_inh (PySem.W.mg_of X G a_inh) b_inh (ok_in_hours F_inh)
  have D_gin := fok (base := base) (w := w) (P := P) F_gin (PySem.W.mg_of X G a_gin) b_gin (ok_goes_into F_gin D_inh)
  have D_ck := fok (base := base) (w := w) (P := P) F_ck (PySem.W.mg_of X G a_ck) b_ck (ok_check_kinds F_ck T m_enumerate D_ispair D_isnat D_isint)
  have D_div := fok (base := base) (w := w) (P := P) F_div (PySem.W.mg_of X G a_div) b_div (ok_divided F_div m_gcd)
  have D_gives := fok (base := base) (w := w) (P := P) F_gives (PySem.W.mg_of X G a_gives) b_gives (ok_gives F_gives m_gcd D_ck D_gin D_div)
  have D_sums := fok (base := base) (w := w) (P := P) F_sums (PySem.W.mg_of X G a_sums) b_sums (ok_sums F_sums m_gcd m_LEAST D_ck D_cn D_gin D_div)
  have D_alone := fok (base := base) (w := w) (P := P) F_alone (PySem.W.mg_of X G a_alone) b_alone (ok_alone F_alone D_ck D_gin)
  have D_drawn := fok (base := base) (w := w) (P := P) F_drawn (PySem.W.mg_of X G a_drawn) b_drawn (ok_drawn F_drawn m_len m_int m_min m_range)
  have D_take := fok (base := base) (w := w) (P := P) F_take (PySem.W.mg_of X G a_take) b_take (ok_take F_take m_len m_int)
  have D_powers := fok (base := base) (w := w) (P := P) F_powers (PySem.W.mg_of X G a_powers) b_powers (ok_powers F_powers D_take)
  have D_worth := fok (base := base) (w := w) (P := P) F_worth (PySem.W.mg_of X G a_worth) b_worth (ok_worth F_worth m_range)
  have D_power := fok (base := base) (w := w) (P := P) F_power (PySem.W.mg_of X G a_power) b_power (ok_power F_power)
  have D_goes := fok (base := base) (w := w) (P := P) F_goes (PySem.W.mg_of X G a_goes) b_goes (ok_goes F_goes m_range m_all m_min m_max D_power)
  have D_gmod := fok (base := base) (w := w) (P := P) F_gmod (PySem.W.mg_of X G a_gmod) b_gmod (ok_goes_mod F_gmod m_range m_min D_power D_goes)
  have D_good := fok (base := base) (w := w) (P := P) F_good (PySem.W.mg_of X G a_good) b_good (ok_good F_good m_min D_power)
  have D_hgo := fok (base := base) (w := w) (P := P) F_hgo (PySem.W.mg_of X G a_hgo) b_hgo (ok_hours F_hgo m_range D_good)
  have D_kinds := fok (base := base) (w := w) (P := P) F_kinds (PySem.W.mg_of X G a_kinds) b_kinds (ok_kinds F_kinds m_range m_min D_take D_powers D_worth)
  have D_pair := fok (base := base) (w := w) (P := P) F_pair (PySem.W.mg_of X G a_pair) b_pair (ok_pair F_pair m_list m_isinstance m_bool m_min m_int D_gives D_sums D_powers D_worth D_goes D_gmod D_hgo)
  have D_ends := fok (base := base) (w := w) (P := P) F_ends (PySem.W.mg_of X G a_ends) b_ends (ok_ends F_ends m_list D_gives D_alone)
  have D_trow := fok (base := base) (w := w) (P := P) F_trow (PySem.W.mg_of X G a_trow) b_trow (ok_told_row F_trow T TX D_gives D_sums D_alone)
  have D_thours := fok (base := base) (w := w) (P := P) F_thours (PySem.W.mg_of X G a_thours) b_thours (ok_told_hours F_thours T TX D_sums)
  have D_ref := fok (base := base) (w := w) (P := P) F_ref (PySem.W.mg_of X G a_ref) b_ref (ok_refused F_ref m_range m_list D_take D_trow D_thours)
  exact ok_law F_law D_drawn D_kinds D_pair D_ends D_gives D_alone D_ref
theorem walk {l : PySem.W.OpenLaw} {q : Program} {loose : List Str} {XP : (Str → Option Value) → Heap → Prop} {YP : World → Heap → Prop} {d : DefRec} {K : Params → PySem.W.Frag} (hn : l.most = some 63) (hdf : d.params.defaults = [])
    (hY : ∀ (w : World) (h : Heap), YP w h → (K w.params).In h)
    (F : ∀ (w : World) (mg : Str → Option Value) (fa : Addr) (h : Heap), (K w.params).In h → h.Ns mainGlobals mg → mg d.name = some (.ref fa) →
      ∃ fd : FuncData, (∀ (s : Shared) (u : Value), BindsTo s fd ⟨[u], []⟩ [("_law_script", u)]) ∧ ∀ base : Heap, (K w.params).In base → base.Ns mainGlobals mg → FnOk l.prog w (K w.params) mg base (L2.CX l.prog w) 7 fa fd ["_law_script"] (spLaw (K w.params))) :
    PySem.W.WalkO q loose XP YP l.row.toRowW d [] (fun f vs => PySem.call f vs) :=
  L2.walk_of (n := 63) (k := 7) (x := "_law_script") (CX := fun w => L2.CX l.prog w) (sp := fun w => spLaw (K w.params)) hn (by decide) hdf ⟨rfl, by decide, by decide⟩ hY F (fun _ _ a ns hl _ hS => ⟨a, ns, rfl, hS, hl, fun _ => rfl⟩) fun w H s e s' z => by
    obtain ⟨_, _, _, _, _, _, _, _, _, _, _, _, z⟩ := z
    exact z
end K63
open PySem PySem.W PyProof.Rows
set_option maxRecDepth 100000 in
set_option maxHeartbeats 0 in
theorem PySem.Challenge.cw_nowaittasks_k63_order_of_giving_holds : PySem.Challenge.rw_nowaittasks_k63_order_of_giving.Holds := by
  w_on; o_law; k_head; (case hw => w_witness2)
  k_fill
  refine K63.walk (l := PySem.Challenge.rw_nowaittasks_k63_order_of_giving) rfl rfl (fun w h Y => PySem.W.kIn_of Y) ?F
  case F =>
    intro w mg fa h KX G hmg
    refine' K63.all_mk KX G hmg ?z_len ?z_int ?z_list ?z_tuple ?z_min ?z_max ?z_range ?z_all ?z_isinstance ?z_bool ?z_super ?z_enumerate ?z_gcd ?z_LEAST ?gN ?gR ?a_isint ?l_isint ?c_isint ?k_isint ?a_isnat ?l_isnat ?c_isnat ?k_isnat ?a_isrow ?l_isrow ?c_isrow ?k_isrow ?a_ispair ?l_ispair ?c_ispair ?k_ispair ?a_inh ?l_inh ?c_inh ?k_inh ?a_gin ?l_gin ?c_gin ?k_gin ?a_ck ?l_ck ?c_ck ?k_ck ?a_div ?l_div ?c_div ?k_div ?a_gives ?l_gives ?c_gives ?k_gives ?a_sums ?l_sums ?c_sums ?k_sums ?a_alone ?l_alone ?c_alone ?k_alone ?a_drawn ?l_drawn ?c_drawn ?k_drawn ?a_take ?l_take ?c_take ?k_take ?a_powers ?l_powers ?c_powers ?k_powers ?a_worth ?l_worth ?c_worth ?k_worth ?a_power ?l_power ?c_power ?k_power ?a_goes ?l_goes ?c_goes ?k_goes ?a_gmod ?l_gmod ?c_gmod ?k_gmod ?a_good ?l_good ?c_good ?k_good ?a_hgo ?l_hgo ?c_hgo ?k_hgo ?a_kinds ?l_kinds ?c_kinds ?k_kinds ?a_pair ?l_pair ?c_pair ?k_pair ?a_ends ?l_ends ?c_ends ?k_ends ?a_trow ?l_trow ?c_trow ?k_trow ?a_thours ?l_thours ?c_thours ?k_thours ?a_ref ?l_ref ?c_ref ?k_ref ?a_law ?l_law ?c_law ?k_law ?a_cn ?l_cn ?c_cn ?k_cn ?l_dT ?opq ?iniB ?ovB ?hdB ?tkB ?saB ?exCB ?exEB ?tyCB ?kCB ?slfB ?iCB ?tIB ?supB ?lfB ?hcdB ?lcoB ?hvsB ?hfiB ?lceB ?gaB ?ggB ?nfB ?iniR ?ovR ?hdR ?tkR ?saR ?exCR ?exER ?tyCR ?kCR ?slfR ?iCR ?tIR ?supR ?lfR ?hcdR ?lcoR ?hvsR ?hfiR ?lceR ?gaR ?ggR ?nfR ?htop ?nn ?rr
    (case z_len => k_is)
    (case z_int => k_is)
    (case z_list => k_is)
    (case z_tuple => k_is)
    (case z_min => k_is)
    (case z_max => k_is)
    (case z_range => k_is)
    (case z_all => k_is)
    (case z_isinstance => k_is)
    (case z_bool => k_is)
    (case z_super => k_is)
    (case z_enumerate => k_is)
    (case z_gcd => k_is)
    (case z_LEAST => k_is)
    (case gN => k_is)
    (case gR => k_is)
    (case a_isint => k_is)
    (case l_isint => k_is)
    (case c_isint => k_is)
    (case k_isint => k_is)
    (case a_isnat => k_is)
    (case l_isnat => k_is)
    (case c_isnat => k_is)
    (case k_isnat => k_is)
    (case a_isrow => k_is)
    (case l_isrow => k_is)
    (case c_isrow => k_is)
    (case k_isrow => k_is)
    (case a_ispair => k_is)
    (case l_ispair => k_is)
    (case c_ispair => k_is)
    (case k_ispair => k_is)
    (case a_inh => k_is)
    (case l_inh => k_is)
    (case c_inh => k_is)
    (case k_inh => k_is)
    (case a_gin => k_is)
    (case l_gin => k_is)
    (case c_gin => k_is)
    (case k_gin => k_is)
    (case a_ck => k_is)
    (case l_ck => k_is)
    (case c_ck => k_is)
    (case k_ck => k_is)
    (case a_div => k_is)
    (case l_div => k_is)
    (case c_div => k_is)
    (case k_div => k_is)
    (case a_gives => k_is)
    (case l_gives => k_is)
    (case c_gives => k_is)
    (case k_gives => k_is)
    (case a_sums => k_is)
    (case l_sums => k_is)
    (case c_sums => k_is)
    (case k_sums => k_is)
    (case a_alone => k_is)
    (case l_alone => k_is)
    (case c_alone => k_is)
    (case k_alone => k_is)
    (case a_drawn => k_is)
    (case l_drawn => k_is)
    (case c_drawn => k_is)
    (case k_drawn => k_is)
    (case a_take => k_is)
    (case l_take => k_is)
    (case c_take => k_is)
    (case k_take => k_is)
    (case a_powers => k_is)
    (case l_powers => k_is)
    (case c_powers => k_is)
    (case k_powers => k_is)
    (case a_worth => k_is)
    (case l_worth => k_is)
    (case c_worth => k_is)
    (case k_worth => k_is)
    (case a_power => k_is)
    (case l_power => k_is)
    (case c_power => k_is)
    (case k_power => k_is)
    (case a_goes => k_is)
    (case l_goes => k_is)
    (case c_goes => k_is)
    (case k_goes => k_is)
    (case a_gmod => k_is)
    (case l_gmod => k_is)
    (case c_gmod => k_is)
    (case k_gmod => k_is)
    (case a_good => k_is)
    (case l_good => k_is)
    (case c_good => k_is)
    (case k_good => k_is)
    (case a_hgo => k_is)
    (case l_hgo => k_is)
    (case c_hgo => k_is)
    (case k_hgo => k_is)
    (case a_kinds => k_is)
    (case l_kinds => k_is)
    (case c_kinds => k_is)
    (case k_kinds => k_is)
    (case a_pair => k_is)
    (case l_pair => k_is)
    (case c_pair => k_is)
    (case k_pair => k_is)
    (case a_ends => k_is)
    (case l_ends => k_is)
    (case c_ends => k_is)
    (case k_ends => k_is)
    (case a_trow => k_is)
    (case l_trow => k_is)
    (case c_trow => k_is)
    (case k_trow => k_is)
    (case a_thours => k_is)
    (case l_thours => k_is)
    (case c_thours => k_is)
    (case k_thours => k_is)
    (case a_ref => k_is)
    (case l_ref => k_is)
    (case c_ref => k_is)
    (case k_ref => k_is)
    (case a_law => k_is)
    (case l_law => k_is)
    (case c_law => k_is)
    (case k_law => k_is)
    (case a_cn => k_is)
    (case l_cn => k_is)
    (case c_cn => k_is)
    (case k_cn => k_is)
    (case l_dT => k_is)
    (case opq => k_is)
    (case iniB => kx_is)
    (case ovB => kx_is)
    (case hdB => k_is)
    (case tkB => k_is)
    (case saB => k_is)
    (case exCB => k_is)
    (case exEB => k_is)
    (case tyCB => k_is)
    (case kCB => k_is)
    (case slfB => k_is)
    (case iCB => k_is)
    (case tIB => k_is)
    (case supB => ks_is)
    (case lfB => k_is)
    (case hcdB => k_is)
    (case lcoB => k_is)
    (case hvsB => exact rfl)
    (case hfiB => first | exact rfl | decide +kernel)
    (case lceB => k_is)
    (case gaB => k_is)
    (case ggB => k_is)
    (case nfB => k_is)
    (case iniR => kx_is)
    (case ovR => kx_is)
    (case hdR => k_is)
    (case tkR => k_is)
    (case saR => k_is)
    (case exCR => k_is)
    (case exER => k_is)
    (case tyCR => k_is)
    (case kCR => k_is)
    (case slfR => k_is)
    (case iCR => k_is)
    (case tIR => k_is)
    (case supR => ks_is)
    (case lfR => k_is)
    (case hcdR => k_is)
    (case lcoR => k_is)
    (case hvsR => exact rfl)
    (case hfiR => first | exact rfl | decide +kernel)
    (case lceR => k_is)
    (case gaR => k_is)
    (case ggR => k_is)
    (case nfR => k_is)
    (case htop => first | exact rfl | decide +kernel)
    (case nn => kts_exm)
    (case rr => kts_exm)
#print axioms PySem.Challenge.cw_nowaittasks_k63_order_of_giving_holds
