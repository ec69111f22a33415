import PyProof.Rows.All
import Wide.All
import OpenK.AllK
import Wide.FinOn
import HandS.ForMost
import HandS.ForExc
import HandS.ExcInit
import HandS.ExcSuper
import KE.KExcLine
import PyProof.FString
import PyProof.FString4
import HandS.TryMany
import HandS.ExcField
import HandS.IsInst
import HandS.Property
import HandS.TupAny
import HandS.SortKw
import HandS.Evl
import HandS.Conv
import HandS.More
import HandS.Walk
import KE.SortKeyHeap
import KE.SortData
import HandS.GenBody
import HandS.GenYield
import HandS.GenList
import PyProof.ForAny
import HandS.TryOnly
import HandS.Deep
import PySem.Challenge.RW_nowaittasks_k09_whole_looks_and_waiting
import HandS.GenCall
import KE.RegKSuper
import KE.RegKTryMore
set_option Elab.async false
set_option linter.all false
set_option maxRecDepth 100000
set_option maxHeartbeats 8000000
/-! Er: errors of the program: a class over a class over Exception, whose own __init__ says super().__init__(text) and then stores one attribute. -/
namespace Er
open PySem PySem.Spec PyProof.Rows L2 Builtin Builtin.ObjectAttr
abbrev exBm : List Value := [.type "Exception", .type "BaseException", .type "object"]
/-- the text handed to super().__init__ : a str, nothing else changes -/
def TxtArg (prog : Program) (w : World) (A : Around) (E : Value → Shared → Prop) (env : Env) (m : Str → Option Value) (eT : Expr) : Prop :=
  ∀ (s : Shared) (Q : Value → Shared → Prop), s.heap.Ns env.locals m → (∀ x tk t', Q (.str x tk) { s with toks := t' }) → wpAny (model prog w) A (eval eT env) Q E s

section
variable {prog : Program} {w : World} {A : Around} {E : Value → Shared → Prop} {R : Result → Shared → Prop} {h : Heap} {g : Array GenState} {d : Drawn} {t : Nat} {os : OsState}
/-- self.f = v, the first attribute of an exception that stands at x -/
theorem store1 {K : W.Frag} {f : Str} {v : Value} {x C t1 : Addr} {Q : Unit → Shared → Prop} (X : K.In h) (hx : h.get? x = some (HandSPX.excO C t1)) (hov : W.excOver K C exBm = true) (hhd : W.hasDictIn K C = true) (htk : W.takerIn K C f = some none)
    (hsa : W.findIn K (.ref C) "__setattr__" = some (some (.builtin "object.__setattr__")))
    (hq : ∀ h' tk' dx, (∀ b o, b ≠ x → h.get? b = some o → h'.get? b = some o) → h.objs.size ≤ dx → dx ≠ x → h'.get? x = some { cls := .ref C, dict := some dx, data := .fields #[.ref t1, .none, .none, .none, .bool false, .none] } →
      h'.Ns1 dx (fun y => if y = f then some v else none) → Q () ⟨h', g, d, tk', os⟩) :
    wpAny (model prog w) A (setAttr (.ref x) f v) Q E ⟨h, g, d, t, os⟩ := by
  have I : W.InstAt h x (HandSPX.excO C t1) C none := ⟨hx, rfl, rfl, trivial⟩
  have hxs : x ≠ h.objs.size := Nat.ne_of_lt (Heap.lt_size hx)
  refine W.set_plain X I hsa (W.osa_openX F.store_Exception X I hov htk fun b => ?_)
  obtain ⟨cd, hc, hd'⟩ := W.any_some hhd
  have hcls : W.Looks (model prog w) h (classData C) cd := W.looks_clsIn X hc
  obtain ⟨nm, bs, mro, ns, qn, hd, sn, sb, ab, col, del⟩ := cd
  dsimp only at hd'
  subst hd'
  show wpAny _ _ (storeInOwnDict (.ref x) (.ref C) _ f v b) _ _ _
  unfold storeInOwnDict ownDictForStores
  repeat (first | with_reducible refine HandSPX.store_in_new ?_ ?_ | with_reducible refine wpAny_loadPart_at hx ?_ | with_reducible refine hcls.at ?_ | wp_step)
  · exact ⟨_, #[], _, (Heap.get?_update_ne _ _ _ _ hxs.symm).trans (Heap.get?_push_at rfl rfl), rfl, fun e he => absurd he (by simp), fun _ => rfl⟩
  · intro h' tk' hn hs
    have hx1 : (h.push { cls := .type "dict", data := .dict #[] }).get? x = some (HandSPX.excO C t1) := Heap.get?_push_of_some _ hx
    refine hq h' tk' h.objs.size (fun b o hb ho => ?_) (Nat.le_refl _) hxs.symm ((hs.2 x hxs).trans (Heap.get?_update_self _ hx1 rfl)) hn
    have e1 := hs.2 b (Nat.ne_of_lt (Heap.lt_size ho))
    exact e1.trans ((Heap.get?_update_ne _ _ _ _ hb).trans (Heap.get?_push_of_some _ ho))
end
end Er
namespace Er
open PySem PySem.Spec PyProof.Rows L2 Builtin Builtin.ObjectAttr

/-- what the written part says of the class at C with its __init__ at fI -/
structure XC (K : PySem.W.Frag) (C fI : Addr) (f : Str) : Prop where
  ini : PySem.W.excInitIn K C exBm "Exception.__new__" = true
  ov : PySem.W.excOver K C exBm = true
  hd : PySem.W.hasDictIn K C = true
  tk : PySem.W.takerIn K C f = some none
  sa : PySem.W.findIn K (.ref C) "__setattr__" = some (some (.builtin "object.__setattr__"))
  exC : PySem.W.subIn K (.ref C) (.type "BaseException") = some true
  exE : PySem.W.subIn K (.ref C) (.type "Exception") = some true
  tyC : PySem.W.typeIn K (.ref C) = some (.type "type")
  kC : PySem.W.keepIn K (.ref C) = true
  slf : PySem.W.mroIn K C (.ref C) = some true
  iC : PySem.W.findIn K (.ref C) "__init__" = some (some (.ref fI))
  tI : PySem.W.typeIn K (.ref fI) = some (.type "function")
  sup : PySem.W.ks_superIn K C C "__init__" = some (some (.builtin "Exception.__init__"))
  opq : PySem.W.nsIn K cStatics "thirdparty.any" = some none

abbrev initBody (f x : Str) (eT : Expr) (p0 p1 p2 p3 p4 p5 p6 p7 p8 : Pos) : List Stmt :=
  [.Expr (.Call (.Attribute (.Call (.Name "super" p0) [] [] p1) "__init__" p2) [eT] [] p3) p4, .Assign [.Attribute (.Name "self" p5) f p6] (.Name x p7) p8]
abbrev args2 (a : Addr) (x : Str) (u : Value) : List (Str × Value) := [("self", .ref a), (x, u)]

section
variable {prog : Program} {w : World} {A : Around} {R : Result → Shared → Prop} {h : Heap} {g : Array GenState} {d : Drawn} {t : Nat} {os : OsState}
theorem run_init {K : W.Frag} {mg : Str → Option Value} {f x nm qual : Str} {params : Arguments} {scope : Scope} {eT : Expr} {p0 p1 p2 p3 p4 p5 p6 p7 p8 : Pos} {fI cc cda C a t1 : Addr} {u : Value}
    {dV kV doc pm ct oc ccl cl : Value} {an od cdd cld : Option Addr} {osl ccs csl : Array (Option Value)} {vs : Array Value} {file : Str} {tf : Tok} {ar : Arg} {body : List Stmt}
    (T : XC K C fI f) (X : K.In h) (hlim : h.NoLimit) (hG : h.Ns mainGlobals mg) (hms : mg "super" = none) (hB : ∃ mb, h.Ns builtinsNs mb ∧ ∀ y : Str, y ≠ "__name__" → mb y = bootBuiltins y) (hroom : A.depth < recursionLimit)
    (lf : K.lookup fI = some ⟨oc, od, .func (W.fnX nm qual params body scope [("__class__", cc)] dV kV doc pm an (.ref cda) ct), osl⟩)
    (hbody : body = initBody f x eT p0 p1 p2 p3 p4 p5 p6 p7 p8)
    (hcd : W.codeIn K (.ref cda) qual = true) (lcode : K.lookup cda = some ⟨ccl, cdd, .fields vs, ccs⟩) (hvs : vs[2]? = some (.str file tf)) (hfile : ((prog.main.file : Str) == file) = true)
    (lcell : K.lookup cc = some ⟨cl, cld, .cell (some (.ref C)), csl⟩) (htop : (prog.main.scope.names.lookup ("super" : Str)).isSome = false)
    (hpar : (params.posonlyargs ++ params.args).head? = some ar) (har : ar.arg = "self")
    (hbind : ∀ s : Shared, BindsTo s (W.fnX nm qual params body scope [("__class__", cc)] dV kV doc pm an (.ref cda) ct) ⟨[.ref a, u], []⟩ (args2 a x u))
    (ksup : scope.names.lookup ("super" : Str) = some .globalImplicit) (kcls : scope.names.lookup ("__class__" : Str) = some .free) (kslf : scope.names.lookup ("self" : Str) = some .local) (kx : scope.names.lookup x = some .local)
    (kk : scope.kind = .function) (kco : scope.isCoroutine = false) (kgen : scope.isGenerator = false) (kcell : ∀ y ∈ scope.names, y.2 ≠ .cell) (hxs : ¬ x = "self") (hxd : (x == ("__debug__" : Str)) = false)
    (hT : ∀ L E, TxtArg prog w (A.deeper (W.envX qual scope L fI (.ref cda) [("__class__", cc)])) E (W.envX qual scope L fI (.ref cda) [("__class__", cc)]) (fun y => (args2 a x u).reverse.lookup y) eT)
    (hsw1 : ∀ L, swapsWith (.Name x p7) (some (.Attribute (.Name "self" p5) f p6)) p8.line (W.envX qual scope L fI (.ref cda) [("__class__", cc)]) = pure false)
    (hst : ∀ L, starEach [eT] (W.envX qual scope L fI (.ref cda) [("__class__", cc)]) = [(false, eval eT (W.envX qual scope L fI (.ref cda) [("__class__", cc)]))])
    (hev : ∀ L, ∃ pl : Sem Bool, eval (.Call (.Attribute (.Call (.Name "super" p0) [] [] p1) "__init__" p2) [eT] [] p3) (W.envX qual scope L fI (.ref cda) [("__class__", cc)]) = (do
      let ov ← attributeBase (.Call (.Name "super" p0) [] [] p1) "__init__" (W.envX qual scope L fI (.ref cda) [("__class__", cc)]) (eval (.Call (.Name "super" p0) [] [] p1) (W.envX qual scope L fI (.ref cda) [("__class__", cc)]))
      standAt p2.atName
      let (f, first) ← holding [ov] (getMethod ov "__init__" pl)
      callWith p3 f first (backTo p3 (starEach [eT] (W.envX qual scope L fI (.ref cda) [("__class__", cc)]))) []))
    (hsw0 : ∀ L, swapsWith (.Call (.Attribute (.Call (.Name "super" p0) [] [] p1) "__init__" p2) [eT] [] p3) none p4.line (W.envX qual scope L fI (.ref cda) [("__class__", cc)]) = pure false)
    (he : h.get? a = some (HandSPX.excO C t1)) (hKa : K.lookup a = none)
    (hq : ∀ h' t' dx t2, (∀ b o, b ≠ a → h.get? b = some o → h'.get? b = some o) → h.objs.size ≤ dx → dx ≠ a → h'.get? a = some { cls := .ref C, dict := some dx, data := .fields #[.ref t2, .none, .none, .none, .bool false, .none] } →
      h'.Ns1 dx (fun y => if y = f then some u else none) → R (.ok (.ret .none)) ⟨h', g, d, t', os⟩) :
    codeAny (model prog w) A (.call (.ref fI) ⟨[.ref a, u], []⟩) R ⟨h, g, d, t, os⟩ := by
  subst hbody
  obtain ⟨nmC, N', qn, bs, bm, hdct, sn, sub, ab, col, dd, k0, k1, k2, k3, k5, hC, hTT⟩ := W.excInit_of X T.ini
  refine ks_codeAny_call_defAt hroom (X _ _ lf) rfl hlim (W.codeRec_of X hcd) rfl (hbind _) kcell (fun y hy => ?_) (fun h0 hns hk => ?_) kco kgen kk
  · rcases List.mem_cons.mp hy with rfl | hy
    · exact kslf
    rcases List.mem_cons.mp hy with rfl | hy
    · exact kx
    cases hy
  have X0 : K.In h0 := X.keeps hk
  have hns' : h0.Ns h.objs.size (fun y => (args2 a x u).reverse.lookup y) := hns
  have ha0 : h0.get? a = some (HandSPX.excO C t1) := hk _ _ he
  have I0 : W.InstAt h0 a (HandSPX.excO C t1) C none := ⟨ha0, rfl, rfl, trivial⟩
  obtain ⟨cdD, hcl⟩ : ∃ cd, W.clsIn K C = some cd := by
    obtain ⟨cd, q, _⟩ := W.any_some T.hd
    exact ⟨cd, q⟩
  obtain ⟨oD, hD1, hD2⟩ : ∃ oD, h0.get? C = some oD ∧ oD.data = .cls cdD := by
    unfold W.clsIn at hcl
    split at hcl
    · rename_i c d' cd' sl ho
      cases hcl
      exact ⟨_, X0 _ _ ho, rfl⟩
    · cases hcl
  have aC : a ≠ C := W.ks_ne X0 I0 hcl
  obtain ⟨mb, hb1, hb2⟩ := hB
  obtain ⟨pl, hev⟩ := hev h.objs.size
  have look1 : (args2 a x u).reverse.lookup ("self" : Str) = some (Value.ref a) := by
    show ([(x, u), ("self", Value.ref a)] : List (Str × Value)).lookup ("self" : Str) = some (Value.ref a)
    have e1 : (("self" : Str) == x) = false := by simpa using fun z => hxs z.symm
    simp [List.lookup, e1]
  have look2 : (args2 a x u).reverse.lookup x = some u := by
    show ([(x, u), ("self", Value.ref a)] : List (Str × Value)).lookup x = some u
    simp [List.lookup]
  refine ks_wpAt_execs_cons (ks_wpAt_Expr_any (ks_wpAt_MethodCall (pl := pl) ?_ hev) (by show interactive (W.envX qual scope h.objs.size fI (.ref cda) [("__class__", cc)]) = false; unfold interactive; simp [W.envX, newEnv, kk]) (hsw0 _))
  refine ks_wpAt_super_base (ar := ar) ksup kcls (by decide) rfl (X0 _ _ lf) rfl hpar rfl (X0 _ _ lcode) rfl hvs hfile htop ?_
  refine W.ks_loadName_global kk ksup (Calls.loadGlobal_builtin (hG.keeps hk) hms (hb1.keeps hk) ((hb2 _ (by decide)).trans (by decide +kernel)) ⟨rfl, ?_⟩)
  refine wpAny_loadName_free kk kcls rfl ⟨_, X0 _ _ lcell, rfl⟩ ?_
  rw [har]
  refine wpAny_loadName_local (v := .ref a) kk kslf hns' look1 ?_
  refine ks_wpAny_isType_cls hD1 hD2 ⟨rfl, ?_⟩
  refine ks_wpAny_call_super hD1 hD2 ha0 rfl (fun c e => by cases e) (W.looks_mroIn X0 T.slf) (fun h1 e1 k1' => ?_)
  have X1 : K.In h1 := X0.keeps k1'
  have I1 : W.InstAt h1 a (HandSPX.excO C t1) C none := ⟨k1' _ _ ha0, rfl, rfl, trivial⟩
  have hsi := T.sup
  unfold W.ks_superIn at hsi
  rw [hcl] at hsi
  refine W.kxs_getMethod W.kxs_Exception e1 (W.looks_opaque X1 T.opq) (l₀ := cdD.mro) ?_ rfl X1 hsi (I1.type.andThen (W.looks_subIn X1 T.exE)) aC (by decide) ?_
  · exact fun A Q E s k q => wpAny_bind ((W.looks_clsIn X1 hcl) A _ E s k (wpAny_pure q))
  have k2' : ∀ b o, h0.get? b = some o → (h1.push (W.kxs_mw "Exception.__init__" a)).get? b = some o := fun b o z => Heap.get?_push_of_some _ (k1' _ _ z)
  have hu : (h1.push (W.kxs_mw "Exception.__init__" a)).get? h1.objs.size = some (W.kxs_mw "Exception.__init__" a) := Heap.get?_push_at rfl rfl
  show wpAny _ _ (callWith p3 (.ref h1.objs.size) [] (backTo p3 (starEach [eT] (W.envX qual scope h.objs.size fI (.ref cda) [("__class__", cc)]))) []) _ _ _
  rw [hst]
  refine W.kxs_callWith (i := "Exception.__init__") (x := a) rfl (Calls.evalArgs_plain (Calls.spliced_cons ?_))
  have hns2 : (h1.push (W.kxs_mw "Exception.__init__" a)).Ns h.objs.size (fun y => (args2 a x u).reverse.lookup y) := hns'.keeps k2'
  rw [if_neg Bool.false_ne_true]
  refine hT h.objs.size _ _ _ hns2 fun tx tk t' => ?_
  refine Calls.spliced_nil ⟨hu, ?_⟩
  refine PySem.ESX.call_bw (C := C) (k2' _ _ (hk _ _ hC)) (k2' _ _ ha0) hu (by show 1 ≤ sizeLine; decide) fun h3 t2 k3 e3 => ?_
  refine wpAt_of_wpAny (wpAny_execs_cons ?_)
  have kk3 : ∀ b o, b ≠ a → h0.get? b = some o → h3.get? b = some o := fun b o n z => k3 b o n (k2' _ _ z)
  have aL : h.objs.size ≠ a := Ne.symm (Nat.ne_of_lt (Heap.lt_size he))
  have X3 : K.In h3 := fun b o z => by
    have q := X0 b o z
    by_cases hb : b = a
    · subst hb
      rw [hKa] at z
      cases z
    · exact kk3 b o hb q
  have hns3 : h3.Ns h.objs.size (fun y => (args2 a x u).reverse.lookup y) := by
    obtain ⟨oL, es, ep, hL, r⟩ := hns'
    exact ⟨oL, es, ep, kk3 _ _ aL hL, r⟩
  refine plainObj_wpAny_Assign_Attribute ?_ (hsw1 _)
  refine PySem.ESX.ldL (v := u) hns3 look2 ?_ kk kx hxd
  refine PySem.ESX.ldL (v := .ref a) hns3 look1 ?_ kk kslf (by decide)
  refine store1 X3 e3 T.ov T.hd T.tk T.sa fun h4 t4 dx k4 n4 ne4 e4 s4 => ?_
  refine wpAny_execs_nil ?_
  refine hq h4 t4 dx t2 (fun b o n z => k4 b o n (kk3 b o n (hk b o z))) ?_ ne4 e4 s4
  obtain ⟨oL, es, ep, hL, r⟩ := hns3
  exact Nat.le_trans (Nat.le_of_lt (Heap.lt_size hL)) n4
end
end Er
namespace Er
open PySem PySem.Spec PyProof.Rows L2 Builtin Builtin.ObjectAttr

/-- called on a new exception at a, the __init__ at fI stores one attribute and returns -/
def InitRun (prog : Program) (w : World) (K : PySem.W.Frag) (mg : Str → Option Value) (C fI : Addr) (f : Str) (okU : Value → Prop) : Prop :=
  ∀ (A : Around) (R : Result → Shared → Prop) (h : Heap) (g : Array GenState) (d : Drawn) (t : Nat) (os : OsState) (a t1 : Addr) (u : Value), okU u → K.In h → h.NoLimit → h.Ns mainGlobals mg →
    (∃ mb, h.Ns builtinsNs mb ∧ ∀ y : Str, y ≠ "__name__" → mb y = bootBuiltins y) → A.depth < recursionLimit → h.get? a = some (HandSPX.excO C t1) → K.lookup a = none →
    (∀ h' t' dx t2, (∀ b o, b ≠ a → h.get? b = some o → h'.get? b = some o) → h.objs.size ≤ dx → dx ≠ a → h'.get? a = some { cls := .ref C, dict := some dx, data := .fields #[.ref t2, .none, .none, .none, .bool false, .none] } →
      h'.Ns1 dx (fun y => if y = f then some u else none) → R (.ok (.ret .none)) ⟨h', g, d, t', os⟩) →
    codeAny (model prog w) A (.call (.ref fI) ⟨[.ref a, u], []⟩) R ⟨h, g, d, t, os⟩

/-- C(e) made to be raised: the error's own dict is new and holds f = e -/
def tMkE (C : Addr) (f : Str) (okV : V → Prop) (ta : TA) : L2.St → Hp → XK → Prop := fun σ H Q => ta σ H fun vs H1 => ∃ v, vs = [v] ∧ okV v ∧ ∀ dx, H1 dx = none → Q (.ref C) (some dx) (upd H1 dx (.xd [(f, v)]))

section
variable {X : Cx} {e : Expr} {ta : TA} {f x : Str} {p pos : Pos} {C fI : Addr} {k : Nat} {okV : V → Prop} {okU : Value → Prop}
theorem pmk_er (T : XC X.K C fI f) (RI : InitRun X.prog X.w X.K X.mg C fI f okU) (hok : ∀ v u, RelV v u → okV v → okU u) (hr : Room (k + 1) X.A) (hg : Gl X x) (hm : X.mg x = some (.ref C)) (ha : PA X [e] ta)
    (hdb : (x == ("__debug__" : Str)) = false := by decide) (he : starEach [e] X.env = (false, eval e X.env) :: starEach [] X.env := by rfl) (hpl : (backTo pos (starEach [] X.env)).any (·.1) = false := by rfl) :
    PMk X (.Call (.Name x p) [e] [] pos) (tMkE C f okV ta) := by
  intro pins s σ H Q I h
  refine wpAny_Call_Name_kw (ld_glob I hg hm ?_ hdb)
  refine PySem.W.callWith_K (h₀ := X.base) I.ok.mod.kin T.kC (thn (ha.run pos pins s σ H _ I h) fun us s1 ⟨vs, H1, I1, r1, v, ev, hv, q1⟩ => ⟨I1.kIn, ?_⟩) he hpl
  subst ev
  show wpAny _ _ (call (.ref C) us) _ _ _
  obtain ⟨hp, g, dr, tk, os⟩ := s1
  cases r1 with
  | @cons _ u _ ur ra rr =>
  cases rr
  obtain ⟨nm, N', qn, bs, bm, hdct, sn, sub, ab, col, dd, k0, k1, k2, k3, k5, hC, hTT⟩ := PySem.W.excInit_of I1.kIn T.ini
  refine wpAny_call (HandSPX.call_own F.excBase_Exception hTT hC (PySem.W.looks_findIn I1.kIn T.iC) (fun self => PySem.W.bind_fn I1.kIn self T.tI) (by show 1 ≤ sizeLine; decide) ?_)
  have kk : ∀ b o, hp.get? b = some o → ((hp.push (PySem.W.kdv_tup [u])).push (HandSPX.excO C hp.objs.size)).get? b = some o := fun b o z => Heap.get?_push_of_some _ (Heap.get?_push_of_some _ z)
  have hget : ((hp.push (PySem.W.kdv_tup [u])).push (HandSPX.excO C hp.objs.size)).get? (hp.objs.size + 1) = some (HandSPX.excO C hp.objs.size) := by heap_get
  have nK : X.K.lookup (hp.objs.size + 1) = none := by
    cases z : X.K.lookup (hp.objs.size + 1) with
    | none => rfl
    | some o =>
      have y := Heap.lt_size (I1.kIn _ _ z)
      have y' : hp.objs.size + 1 < hp.objs.size := y
      omega
  have mb := I1.mod.blt
  obtain ⟨mb1, mb2, mb3⟩ := mb
  refine RI _ _ _ _ _ _ _ _ _ _ (hok _ _ ra hv) (I1.kIn.keeps kk) (I1.nolimit.keeps kk) ((I1.mod.glob.keeps I1.bk).keeps kk) ⟨mb1, (mb2.keeps I1.bk).keeps kk, mb3⟩ (hr.make C [u] []).depth hget nK fun h2 t2 dx ty k2 n2 ne2 e2 s2 => ?_
  have hsz : ((hp.push (PySem.W.kdv_tup [u])).push (HandSPX.excO C hp.objs.size)).objs.size = hp.objs.size + 2 := by simp [Heap.push]
  rw [hsz] at n2
  have na : ∀ {b : Addr} {o : Obj}, hp.get? b = some o → b ≠ hp.objs.size + 1 := fun {b o} z y => by
    have q := Heap.lt_size z
    rw [y] at q
    exact absurd q (Nat.not_lt.mpr (Nat.le_succ _))
  obtain ⟨G, g1, g2⟩ := restrict h2 fun b => decide (b ≠ hp.objs.size + 1)
  have gk : ∀ b, b ≠ hp.objs.size + 1 → G.get? b = h2.get? b := fun b hb => g1 b (decide_eq_true hb)
  have ge : G.get? (hp.objs.size + 1) = none := g2 _ (by simp)
  have nd : H1 dx = none := I1.hok.fresh (show hp.objs.size ≤ dx by have : hp.objs.size + 2 ≤ dx := n2; omega)
  have nHa : H1 (hp.objs.size + 1) = none := I1.hok.fresh (Nat.le_succ _)
  have J : Inv X pins σ (upd H1 dx (.xd [(f, v)])) ⟨G, g, dr, ty, os⟩ := by
    refine I1.laid (t' := ty) (a := dx) (o := .xd [(f, v)]) (h' := G) (fun b o z => ?_) (by have : hp.objs.size + 2 ≤ dx := n2; show hp.objs.size ≤ dx; omega) ?_
    · rw [gk b (na z)]
      exact k2 b o (na z) (kk b o z)
    · obtain ⟨oD, es, ep, hD, r⟩ := s2
      refine ⟨fun y => if y = f then some u else none, ⟨oD, es, ep, (gk dx ne2).trans hD, r⟩, fun y => ?_⟩
      show RelO (([(f, v)] : List (Str × V)).lookup y) (if y = f then some u else none)
      by_cases hy : y = f
      · subst hy
        rw [if_pos rfl]
        simp [List.lookup]
        exact ra
      · rw [if_neg hy]
        have z : (y == f) = false := by simpa using hy
        simp [List.lookup, z]
        trivial
  refine ⟨rfl, hp.objs.size + 1, _, _, ⟨G, g, dr, ty, os⟩, _, .ref C, some dx, rfl, J, fun b o z => ?_, ge, e2, ⟨rfl, rfl⟩, rfl, rfl, ?_, rfl, I1.bare, raises_own T.exC T.tyC, q1 dx nd⟩
  · by_cases hb : b = hp.objs.size + 1
    · rw [hb, ge] at z
      cases z
    · exact (gk b hb).symm.trans z
  · rw [upd_ne (Ne.symm ne2)]
    exact nHa
end
end Er
/-! try with several clauses, each with or without a name behind it -/
namespace Er
open PySem PySem.Spec PyProof.Rows L2

abbrev Suite := Addr → Value → Option Addr → TS
/-- behind a named clause the name is gone -/
def unName (i : Nat) (D : Ends) : Ends := { nx := fun σ H => D.nx (σ.set i none) H, rt := D.rt, bk := fun σ H => D.bk (σ.set i none) H, ct := fun σ H => D.ct (σ.set i none) H }
/-- what a chain of clauses wishes of an error of the body: (class, the name's slot if there is one, its suite's reading) -/
def wCh (K : PySem.W.Frag) (Wout : WX) (D : Ends) : List (Value × Option Nat × Suite) → WX
  | [] => Wout
  | (c, none, ts) :: r => fun cls d σ H => ∃ b, PySem.W.exmOne K cls c = some b ∧ (b = true → ∀ a, H a = none → ts a cls d D σ H) ∧ (b = false → wCh K Wout D r cls d σ H)
  | (c, some i, ts) :: r => fun cls d σ H => ∃ b, PySem.W.exmOne K cls c = some b ∧ (b = true → ∀ a, H a = none → ts a cls d (unName i D) (σ.set i (some (.ref a))) H) ∧ (b = false → wCh K Wout D r cls d σ H)
/-- the clauses' texts and their readings -/
inductive Clauses (X : Cx) : List ExceptHandler → List (Value × Option Nat × Suite) → Prop
  | nil : Clauses X [] []
  | plain {x : Str} {c : Value} {ts : Suite} {b0 : Stmt} {suite : List Stmt} {np p : Pos} {hds : List ExceptHandler} {l : List (Value × Option Nat × Suite)} (hc : Names X x c)
      (hs : ∀ (a : Addr) (oe : Obj) (cls : Value) (d : Option Addr) (pn : List (Addr × Obj)), Zc cls d oe → (∃ vs, oe.data = .fields vs) → PSs (X.suite a ((a, oe) :: pn)) (b0 :: suite) (ts a cls d)) (r : Clauses X hds l) :
      Clauses X (.ExceptHandler (some (.Name x np)) none (b0 :: suite) p :: hds) ((c, none, ts) :: l)
  | named {x n : Str} {i : Nat} {c : Value} {ts : Suite} {b0 : Stmt} {suite : List Stmt} {np p : Pos} {hds : List ExceptHandler} {l : List (Value × Option Nat × Suite)} (hc : Names X x c) (hi : X.N[i]? = some n) (hl : X.env.kindOf n = some .local)
      (hs : ∀ (a : Addr) (oe : Obj) (cls : Value) (d : Option Addr) (pn : List (Addr × Obj)), Zc cls d oe → (∃ vs, oe.data = .fields vs) → PSs (X.suite a ((a, oe) :: pn)) (b0 :: suite) (ts a cls d)) (r : Clauses X hds l) :
      Clauses X (.ExceptHandler (some (.Name x np)) (some n) (b0 :: suite) p :: hds) ((c, some i, ts) :: l)

/-- an error that came to a try of this frame -/
structure Came (X : Cx) (pins : List (Addr × Obj)) (σ : L2.St) (H : Hp) (a : Addr) (cls : Value) (d : Option Addr) (B : Heap) (sI s : Shared) : Prop where
  J : Inv X pins σ H sI
  nb : ∀ b o, sI.heap.get? b = some o → b ∉ frs X.stack → B.get? b = some o
  up : sI.heap.UpToSlots s.heap
  fl : HandSPX.FlyingZ B (X.env :: X.outer) a (Zc cls d) s.heap
  na : H a = none
  os : s.os = sI.os
  ag : AllBare s.gens
  nL : a ≠ X.env.locals
  nF : a ∉ X.fs

section
variable {X : Cx} {pins : List (Addr × Obj)} {σ : L2.St} {H : Hp} {a : Addr} {cls : Value} {d : Option Addr} {B : Heap} {sI s : Shared} {D : Ends} {Wout : WX}
theorem Came.inv (c : Came X pins σ H a cls d B sI s) : Inv X pins σ H s := c.J.landed c.nb c.fl.1 c.up c.os c.ag
theorem Came.on (c : Came X pins σ H a cls d B sI s) {h : Heap} (fl : HandSPX.FlyingZ B (X.env :: X.outer) a (Zc cls d) h) (u : s.heap.UpToSlots h) : Came X pins σ H a cls d B sI { s with heap := h } :=
  ⟨c.J, c.nb, c.up.trans u, fl, c.na, c.os, c.ag, c.nL, c.nF⟩
theorem Came.held (c : Came X pins σ H a cls d B sI s) : ∃ oe vs, s.heap.get? a = some oe ∧ Zc cls d oe ∧ oe.data = .fields vs ∧ Inv (X.suite a ((a, oe) :: (X.pn ++ pins))) [] σ H s := by
  obtain ⟨oe, vs, h1, h2, h3⟩ := c.fl.there
  exact ⟨oe, vs, h1, h2, h3, c.inv.suite h1 h3 c.na c.nL c.nF⟩
/-- one clause's test -/
theorem Came.test (c : Came X pins σ H a cls d B sI s) {x : Str} {cv : Value} {np : Pos} {b : Bool} (hc : Names X x cv) (hb : PySem.W.exmOne X.K cls cv = some b) {Q : Bool → Shared → Prop} {E : Value → Shared → Prop} (q : Q b s) :
    wpAny (model X.prog X.w) (X.A.mark (some (.ref a))) (eval (.Name x np) X.env) (fun v s1 => wpAny (model X.prog X.w) (X.A.mark (some (.ref a))) (excMatches (.ref a) v) Q E s1) E s := by
  obtain ⟨oe, vs, h1, h2, h3, S⟩ := c.held
  have LT : PySem.W.Looks (model X.prog X.w) s.heap (typeOf (.ref a)) cls := fun A Q E s k q => wpAny_typeOf_ref (k _ _ h1) (by rw [h2.1]; exact q)
  have LM := PySem.W.exm_one (M := model X.prog X.w) c.inv.kIn LT hb
  obtain ⟨hg, hd, hm | ⟨hm, hv, hn⟩⟩ := hc
  · exact ld_glob (X := X.suite a ((a, oe) :: (X.pn ++ pins))) S hg hm (LM.here q) hd
  · exact ld_blt (X := X.suite a ((a, oe) :: (X.pn ++ pins))) S hg hm hv (LM.here q) hn hd
/-- no clause is left: on it flies -/
theorem Came.out (c : Came X pins σ H a cls d B sI s) (hs : X.stack = X.env :: X.outer) (hf : X.env.frame = some X.env.locals) (tk : Takes X Wout) (w : Wout cls d σ H) :
    wpAny (model X.prog X.w) X.A (handleBy (.ref a) X.env []) (SP X pins D) X.xe s := by
  refine wpAny_handleBy_nil ?_
  have fl := c.fl
  obtain ⟨_, _, _, oe, vs, T, oT, ts, he, hz, hd, h1, hr⟩ := id fl
  have away : wpAny (model X.prog X.w) X.A (setFlight (.ref a) X.env.frame) (fun _ s4 => wpAny (model X.prog X.w) X.A (throw (.ref a) : Sem Flow) (SP X pins D) X.xe s4) X.xe s := by
    rw [hf]
    exact HandSPX.setFlight_upZ fl fun h4 held up4 => wpAny_throw (tk _ _ ⟨a, B, sI, pins, σ, H, cls, d, rfl, c.J, c.nb, c.up.trans up4, .inr (.inr (by rw [hs]; exact held)), c.na, c.os, c.ag, w⟩)
  unfold PySem.passOn
  refine wpAny_bind (wpAny_field he hd h1 ?_)
  rw [if_neg (by simp)]
  first
    | exact wpAny_bind (wpAny_pure (wpAny_bind away))
    | exact wpAny_bind away
theorem chain_ok (hs : X.stack = X.env :: X.outer) (hf : X.env.frame = some X.env.locals) (hN : X.N.Nodup) (tk : Takes X Wout) {hds : List ExceptHandler} {l : List (Value × Option Nat × Suite)} (hk : Clauses X hds l) :
    ∀ {s : Shared}, Came X pins σ H a cls d B sI s → wCh X.K Wout D l cls d σ H → wpAny (model X.prog X.w) X.A (handleBy (.ref a) X.env hds) (SP X pins D) X.xe s := by
  induction hk with
  | nil => exact fun c w => c.out hs hf tk w
  | @plain x cv ts b0 suite np p hds l hc hsu r ih =>
    intro s c w
    obtain ⟨b, hb, hy, hn⟩ := w
    refine wpAny_handleBy_cons (codeAny_handlers_test (c.test hc hb ?_)) (by intro q; cases q)
    cases b with
    | false =>
      show wpAny _ X.A (handleBy (.ref a) X.env hds) _ _ _
      exact ih c (hn rfl)
    | true =>
      refine codeAny_handlers_suite (HandSPX.lands_againZ c.fl fun h4 fl4 up4 => ?_)
      obtain ⟨oe, vs, h1, h2, h3, S⟩ := (c.on fl4 up4).held
      have ok := c.J.ok
      refine wpAny_mono ((hsu a oe cls d (X.pn ++ pins) h2 ⟨_, h3⟩).run [] _ _ H _ S (hy rfl a c.na)) (fun f s6 q => ?_) (fun _ _ z => False.elim z)
      cases f with
      | ret u =>
        obtain ⟨v6, σ6, H6, S6, r6, q6⟩ := q
        exact ⟨_, _, _, S6.unsuite ok, r6, q6⟩
      | next | brk | cont =>
        obtain ⟨σ6, H6, S6, q6⟩ := q
        exact ⟨_, _, S6.unsuite ok, q6⟩
  | @named x n i cv ts b0 suite np p hds l hc hi hl hsu r ih =>
    intro s c w
    obtain ⟨b, hb, hy, hn⟩ := w
    refine wpAny_handleBy_cons (codeAny_handlers_test (c.test hc hb ?_)) (by intro q; cases q)
    cases b with
    | false =>
      show wpAny _ X.A (handleBy (.ref a) X.env hds) _ _ _
      exact ih c (hn rfl)
    | true =>
      refine codeAny_handlers_suite_as (HandSPX.lands_againZ c.fl fun h4 fl4 up4 => ?_)
      obtain ⟨oe, vs, h1, h2, h3, S⟩ := (c.on fl4 up4).held
      have ok := c.J.ok
      refine store_ok (X := X.suite a ((a, oe) :: (X.pn ++ pins))) (v := .ref a) S hN hi (.inl hl) rfl (fun s5 S5 => ?_) (.inr hl)
      refine wpAny_mono ((hsu a oe cls d (X.pn ++ pins) h2 ⟨_, h3⟩).run [] s5 _ H _ S5 (hy rfl a c.na)) (fun f s6 q => ?_) (fun _ _ z => False.elim z)
      have gone : ∀ {σ6 : L2.St} {H6 : Hp} {Q : Shared → Prop}, Inv (X.suite a ((a, oe) :: (X.pn ++ pins))) [] σ6 H6 s6 → (∀ s7, Inv X pins (σ6.set i none) H6 s7 → Q s7) →
        wpAny (model X.prog X.w) X.A (do bindName X.env n .none; unbindBehindTheSuite X.env n p) (fun _ s7 => Q s7) X.xe s6 := fun S6 k => gone_ok (S6.unsuite ok) hN hi hl k
      cases f with
      | ret u =>
        obtain ⟨v6, σ6, H6, S6, r6, q6⟩ := q
        exact gone S6 fun s7 J7 => ⟨_, _, _, J7, r6, q6⟩
      | next | brk | cont =>
        obtain ⟨σ6, H6, S6, q6⟩ := q
        exact gone S6 fun s7 J7 => ⟨_, _, J7, q6⟩
end

section
variable {X : Cx} {body : List Stmt} {h0 : ExceptHandler} {hds : List ExceptHandler} {l : List (Value × Option Nat × Suite)} {pos : Pos} {tb : WX → TS} {Wout : WX}
/-- try: body except A as x: .. except B: .. -/
theorem ps_try_ch (hs : X.stack = X.env :: X.outer) (hf : X.env.frame = some X.env.locals) (hN : X.N.Nodup) (tk : Takes X Wout)
    (hb : ∀ (W : WX) (pn : List (Addr × Obj)) (xe : Value → Shared → Prop), Takes (X.tr pn xe) W → PassesOwn (model X.prog X.w) X.A X.env xe → PSs (X.tr pn xe) body (tb W)) (hh : Clauses X (h0 :: hds) l) :
    PS X (.Try body (h0 :: hds) [] [] pos) (fun D σ H => tb (wCh X.K Wout D l) D σ H) := by
  refine ⟨fun pins s σ H D I h => wpAny_Try_except ?_⟩
  have ok := I.ok
  have hfr : X.A.frames = some (X.env :: X.outer) := ok.frames.trans (congrArg some hs)
  refine wpAny_mono ((hb (wCh X.K Wout D l) (X.pn ++ pins) (fun e s1 => wpAny (model X.prog X.w) X.A (noteFrame e X.env) (fun _ s2 => wpAny (model X.prog X.w) X.A (setFlight e none) (fun _ s3 =>
    wpAny (model X.prog X.w) X.A (handleBy e X.env (h0 :: hds)) (SP X pins D) X.xe s3) X.xe s2) X.xe s1) (fun u s' xx => ?_) PassesOwn.looking).run [] s σ H D (I.toTry _) h) (fun f s1 q => ?_) (fun e s1 he => he)
  · obtain ⟨a, B, sI, pins', σ', H', cls, d, eu, J', nb, up, sky, na, os, ag, w⟩ := xx
    subst eu
    have sky' : Sky B (X.env :: X.outer) a (Zc cls d) X.env.locals s'.heap := by rw [← hs]; exact sky
    show wpAny (model X.prog X.w) X.A (noteFrame (.ref a) X.env) _ _ _
    refine Sky.land Zc.steady hfr hf sky' fun h3 fl3 up3 => ?_
    obtain ⟨oe, vs, he, hz, hd⟩ := fl3.there
    have far : a ∉ frs (X.env :: X.outer) := fun hm => by
      obtain ⟨_, o', e', nf⟩ := fl3.2.2.1.mem hm
      rw [he] at e'
      cases e'
      exact nf _ hd
    refine chain_ok hs hf hN tk hh ⟨J'.ofTry ok, nb, up.trans up3, fl3, na, os, ag, fun z => far (List.mem_filterMap.mpr ⟨X.env, List.mem_cons_self, by rw [hf, z]⟩), fun hm => ?_⟩ w
    obtain ⟨e, he', q'⟩ := List.mem_filterMap.mp hm
    exact far (List.mem_filterMap.mpr ⟨e, List.mem_cons_of_mem _ he', q'⟩)
  · cases f with
    | next =>
      obtain ⟨σ', H', J', q⟩ := q
      exact wpAny_execs_nil ⟨σ', H', J'.ofTry ok, q⟩
    | ret u =>
      obtain ⟨v, σ', H', J', r, q⟩ := q
      exact ⟨v, σ', H', J'.ofTry ok, r, q⟩
    | brk | cont =>
      obtain ⟨σ', H', J', q⟩ := q
      exact ⟨σ', H', J'.ofTry ok, q⟩
end
end Er
/-! a def, a method, a class of the program, each with its promise, in one word -/
namespace Er
open PySem PySem.Spec PyProof.Rows L2

/-- the def x keeps the promise sp -/
def Fok (P : Program) (w : World) (K : PySem.W.Frag) (mg : Str → Option Value) (base : Heap) (k : Nat) (x : Str) (ps : List Str) (sp : Sp) : Prop :=
  ∃ (f : Addr) (fd : FuncData), mg x = some (.ref f) ∧ PySem.W.keepIn K (.ref f) = true ∧ Binds K fd ps [] ∧ FnOk P w K mg base (L2.CX P w) k f fd ps sp
/-- the method m of the class at C keeps the promise sp -/
def Mok (P : Program) (w : World) (K : PySem.W.Frag) (mg : Str → Option Value) (base : Heap) (C : Addr) (k : Nat) (m : Str) (ps : List Str) (sp : Sp) : Prop :=
  ∃ (f : Addr) (fd : FuncData), Meth K C m f ∧ Binds K fd ps [] ∧ FnOk P w K mg base (L2.CX P w) k f fd ps sp
/-- the class x at C, its __init__ keeps the promise sp -/
def Cok (P : Program) (w : World) (K : PySem.W.Frag) (mg : Str → Option Value) (base : Heap) (C : Addr) (k : Nat) (x : Str) (ps : List Str) (sp : Sp) : Prop :=
  ∃ (f : Addr) (fd : FuncData), Mk K C f ∧ mg x = some (.ref C) ∧ Binds K fd ps [] ∧ FnOk P w K mg base (L2.CX P w) k f fd ps sp
/-- the property of the class at C -/
def Pok (P : Program) (w : World) (K : PySem.W.Frag) (mg : Str → Option Value) (base : Heap) (C : Addr) (k : Nat) (m : Str) (ps : List Str) (sp : Sp) : Prop :=
  ∃ (p g : Addr) (fd : FuncData), PropOf K C m p g ∧ Binds K fd ps [] ∧ FnOk P w K mg base (L2.CX P w) k g fd ps sp

/-- what is raised is wished for at any slots of the frame's length -/
def allW (n : Nat) (W : WX) : XK := fun cls d H => ∀ σ : L2.St, σ.length = n → W cls d σ H
theorem passAll {X : Cx} {W : WX} (tk : Takes X W) : Passes (L2.CX X.prog X.w) X (allW X.N.length W) := fun _ σ _ _ e s' I c => tk e s' (XE.of_call I (fun _ _ _ h => h σ I.len) c)
theorem passOut {X : Cx} {E : XK} (tk : Takes X (fun c d _ H => E c d H)) : Passes (L2.CX X.prog X.w) X E := passes_call tk fun _ _ _ _ h => h

section
variable {X : Cx} {k : Nat} {C : Addr} {x m : Str} {ps : List Str} {sp : Sp} {E : XK} {p pos apos : Pos} {e o : Expr} {es : List Expr} {ta : TE} {t : TA} {W : WX}
/-- f(e, ..), nothing is raised -/
theorem pe_f (D : Fok X.prog X.w X.K X.mg X.base k x ps sp) (hr : Room k X.A) (ha : PA X (e :: es) t) (hg : Gl X x := by rfl) (hdb : (x == ("__debug__" : Str)) = false := by decide) (he : starEach (e :: es) X.env = (false, eval e X.env) :: starEach es X.env := by rfl)
    (hpl : (backTo pos (starEach es X.env)).any (·.1) = false := by rfl) : PE X (.Call (.Name x p) (e :: es) [] pos) (tCall sp [] E0 t) := by
  obtain ⟨f, fd, hm, kp, b, F⟩ := D
  exact pe_call F hr hg hm kp b .nil passL ha hdb he hpl
/-- f(e, ..), what is raised leaves this def too -/
theorem pe_fX (D : Fok X.prog X.w X.K X.mg X.base k x ps sp) (hr : Room k X.A) (tk : Takes X (fun c d _ H => E c d H)) (ha : PA X (e :: es) t) (hg : Gl X x := by rfl) (hdb : (x == ("__debug__" : Str)) = false := by decide)
    (he : starEach (e :: es) X.env = (false, eval e X.env) :: starEach es X.env := by rfl) (hpl : (backTo pos (starEach es X.env)).any (·.1) = false := by rfl) : PE X (.Call (.Name x p) (e :: es) [] pos) (tCall sp [] E t) := by
  obtain ⟨f, fd, hm, kp, b, F⟩ := D
  exact pe_call F hr hg hm kp b .nil (passOut tk) ha hdb he hpl
/-- f(e, ..) within a try -/
theorem pe_fT (D : Fok X.prog X.w X.K X.mg X.base k x ps sp) (hr : Room k X.A) (n : Nat) (tk : Takes X W) (ha : PA X (e :: es) t) (hg : Gl X x := by rfl) (hdb : (x == ("__debug__" : Str)) = false := by decide)
    (he : starEach (e :: es) X.env = (false, eval e X.env) :: starEach es X.env := by rfl) (hpl : (backTo pos (starEach es X.env)).any (·.1) = false := by rfl) (hn : X.N.length = n := by rfl) : PE X (.Call (.Name x p) (e :: es) [] pos) (tCall sp [] (allW n W) t) := by
  subst hn
  obtain ⟨f, fd, hm, kp, b, F⟩ := D
  exact pe_call F hr hg hm kp b .nil (passAll tk) ha hdb he hpl
theorem pe_m {pl : Sem Bool} (he : PE X o ta) (c : Cls X.K C) (D : Mok X.prog X.w X.K X.mg X.base C k m ps sp) (hr : Room k X.A) (ha : PA X (e :: es) t) (hst : starEach (e :: es) X.env = (false, eval e X.env) :: starEach es X.env := by rfl)
    (hpl : (backTo pos (starEach es X.env)).any (·.1) = false := by rfl)
    (ht : eval (.Call (.Attribute o m apos) (e :: es) [] pos) X.env = (do
      let ov ← eval o X.env
      standAt apos.atName
      let (f, first) ← holding [ov] (getMethod ov m pl)
      callWith pos f first (backTo pos (starEach (e :: es) X.env)) (backToKw pos (keywordEach [] X.env))) := by rfl) : PE X (.Call (.Attribute o m apos) (e :: es) [] pos) (tMeth C m sp [] E0 ta t) := by
  obtain ⟨f, fd, hm, b, F⟩ := D
  exact pe_meth he c hm F hr b .nil passL ha hst hpl ht
theorem pe_mX {pl : Sem Bool} (he : PE X o ta) (c : Cls X.K C) (D : Mok X.prog X.w X.K X.mg X.base C k m ps sp) (hr : Room k X.A) (tk : Takes X (fun c d _ H => E c d H)) (ha : PA X (e :: es) t) (hst : starEach (e :: es) X.env = (false, eval e X.env) :: starEach es X.env := by rfl)
    (hpl : (backTo pos (starEach es X.env)).any (·.1) = false := by rfl)
    (ht : eval (.Call (.Attribute o m apos) (e :: es) [] pos) X.env = (do
      let ov ← eval o X.env
      standAt apos.atName
      let (f, first) ← holding [ov] (getMethod ov m pl)
      callWith pos f first (backTo pos (starEach (e :: es) X.env)) (backToKw pos (keywordEach [] X.env))) := by rfl) : PE X (.Call (.Attribute o m apos) (e :: es) [] pos) (tMeth C m sp [] E ta t) := by
  obtain ⟨f, fd, hm, b, F⟩ := D
  exact pe_meth he c hm F hr b .nil (passOut tk) ha hst hpl ht
theorem pe_mT {pl : Sem Bool} (he : PE X o ta) (c : Cls X.K C) (D : Mok X.prog X.w X.K X.mg X.base C k m ps sp) (hr : Room k X.A) (n : Nat) (tk : Takes X W) (ha : PA X (e :: es) t) (hst : starEach (e :: es) X.env = (false, eval e X.env) :: starEach es X.env := by rfl)
    (hpl : (backTo pos (starEach es X.env)).any (·.1) = false := by rfl)
    (ht : eval (.Call (.Attribute o m apos) (e :: es) [] pos) X.env = (do
      let ov ← eval o X.env
      standAt apos.atName
      let (f, first) ← holding [ov] (getMethod ov m pl)
      callWith pos f first (backTo pos (starEach (e :: es) X.env)) (backToKw pos (keywordEach [] X.env))) := by rfl) (hn : X.N.length = n := by rfl) : PE X (.Call (.Attribute o m apos) (e :: es) [] pos) (tMeth C m sp [] (allW n W) ta t) := by
  subst hn
  obtain ⟨f, fd, hm, b, F⟩ := D
  exact pe_meth he c hm F hr b .nil (passAll tk) ha hst hpl ht
theorem pe_c (D : Cok X.prog X.w X.K X.mg X.base C k x ps sp) (hr : Room (k + 1) X.A) (ha : PA X (e :: es) t) (hg : Gl X x := by rfl) (hdb : (x == ("__debug__" : Str)) = false := by decide) (he : starEach (e :: es) X.env = (false, eval e X.env) :: starEach es X.env := by rfl)
    (hpl : (backTo pos (starEach es X.env)).any (·.1) = false := by rfl) : PE X (.Call (.Name x p) (e :: es) [] pos) (tMake C sp [] E0 t) := by
  obtain ⟨f, fd, M, hm, b, F⟩ := D
  exact pe_make M F hr hg hm b .nil passL ha hdb he hpl
theorem pe_cX (D : Cok X.prog X.w X.K X.mg X.base C k x ps sp) (hr : Room (k + 1) X.A) (tk : Takes X (fun c d _ H => E c d H)) (ha : PA X (e :: es) t) (hg : Gl X x := by rfl) (hdb : (x == ("__debug__" : Str)) = false := by decide)
    (he : starEach (e :: es) X.env = (false, eval e X.env) :: starEach es X.env := by rfl) (hpl : (backTo pos (starEach es X.env)).any (·.1) = false := by rfl) : PE X (.Call (.Name x p) (e :: es) [] pos) (tMake C sp [] E t) := by
  obtain ⟨f, fd, M, hm, b, F⟩ := D
  exact pe_make M F hr hg hm b .nil (passOut tk) ha hdb he hpl
theorem pe_cT (D : Cok X.prog X.w X.K X.mg X.base C k x ps sp) (hr : Room (k + 1) X.A) (n : Nat) (tk : Takes X W) (ha : PA X (e :: es) t) (hg : Gl X x := by rfl) (hdb : (x == ("__debug__" : Str)) = false := by decide)
    (he : starEach (e :: es) X.env = (false, eval e X.env) :: starEach es X.env := by rfl) (hpl : (backTo pos (starEach es X.env)).any (·.1) = false := by rfl) (hn : X.N.length = n := by rfl) : PE X (.Call (.Name x p) (e :: es) [] pos) (tMake C sp [] (allW n W) t) := by
  subst hn
  obtain ⟨f, fd, M, hm, b, F⟩ := D
  exact pe_make M F hr hg hm b .nil (passAll tk) ha hdb he hpl
theorem pe_p (he : PE X e ta) (c : Cls X.K C) (D : Pok X.prog X.w X.K X.mg X.base C k m ps sp) (hr : Room (k + 1) X.A) (hab : attributeBase e m X.env (eval e X.env) = eval e X.env := by rfl) : PE X (.Attribute e m pos) (tProp C sp [] E0 ta) := by
  obtain ⟨q, g, fd, hp, b, F⟩ := D
  exact pe_prop he c hp F hr b .nil (fun pins σ H s e s' I h => by
    obtain ⟨_, _, _, _, _, _, _, _, _, _, _, _, z⟩ := h
    exact z.elim) hab
end

/-! ### things of unknown kind -/
/-- a value with the name of its type -/
inductive Sm (K : PySem.W.Frag) (H : Hp) : V → String → Prop
  | non : Sm K H .non "NoneType"
  | bl (b : Bool) : Sm K H (.bl b) "bool"
  | int (i : Int) : Sm K H (.int i) "int"
  | str (x : Str) : Sm K H (.str x) "str"
  | lst {a : Addr} {xs : List V} (h : SqL K H a xs) : Sm K H (.ref a) "list"
  | tup {a : Addr} {xs : List V} (h : SqT K H a xs) : Sm K H (.ref a) "tuple"
end Er
/-! readings, step by step: one lemma a combinator -/
namespace Er
open PySem PySem.Spec PyProof.Rows L2
section
variable {D : Ends} {σ : L2.St} {H : Hp} {Q : VK} {QT : Bool → Hp → Prop} {t u : TS} {ta tb te : TE} {tt tu : TT} {i : Nat} {v x y : V} {K : PySem.W.Frag}
theorem r_seq (h : t { D with nx := u D } σ H) : tSeq t u D σ H := h
theorem r_nx (h : D.nx σ H) : tNext D σ H := h
theorem r_asgN (h : te σ H fun x H1 => D.nx (σ.set i (some x)) H1) : tAsg te (gName i) D σ H := h
theorem r_asgS {to ti : TE} {r : TSet} (h : te σ H fun x H1 => to σ H1 fun o H2 => ti σ H2 fun k H3 => r o k x H3 fun H4 => D.nx σ H4) : tAsg te (gSub to ti r) D σ H := h
theorem r_asgT {n : Nat} {tg : TGs} (h : te σ H fun x H1 => gTup K n tg x σ H1 D.nx) : tAsg te (gTup K n tg) D σ H := h
theorem r_ifS (h : tt σ H fun b H1 => if b = true then t D σ H1 else u D σ H1) : tIfS tt t u D σ H := h
theorem r_ret (h : te σ H D.rt) : tRet te D σ H := h
theorem r_retN (h : D.rt .non H) : tRetN D σ H := h
theorem r_drop (h : te σ H fun _ H1 => D.nx σ H1) : tDrop te D σ H := h
theorem r_test (h : te σ H fun x H' => ∃ k, x = .bl k ∧ QT k H') : tTest te σ H QT := h
theorem r_B (h : te σ H fun x H' => ∃ k, x = .bl k ∧ QT k H') : tB te σ H QT := h
theorem r_not (h : tt σ H fun c H1 => QT (!c) H1) : tNot tt σ H QT := h
theorem r_and (h : tt σ H fun c H1 => if c = true then tu σ H1 QT else QT false H1) : tAnd tt tu σ H QT := h
theorem r_or (h : tt σ H fun c H1 => if c = true then QT true H1 else tu σ H1 QT) : tOr tt tu σ H QT := h
theorem r_andV (h : ta σ H fun x H1 => ∃ c, x = .bl c ∧ if c = true then tb σ H1 Q else Q (.bl false) H1) : tAndV ta tb σ H Q := h
theorem r_orV (h : ta σ H fun x H1 => ∃ c, x = .bl c ∧ if c = true then Q (.bl true) H1 else tb σ H1 Q) : tOrV ta tb σ H Q := h
theorem r_notV (h : ta σ H fun x H1 => ∃ c, x = .bl c ∧ Q (.bl (!c)) H1) : tNotV ta σ H Q := h
theorem r_var (e : σ[i]? = some (some v)) (q : Q v H) : tVar i σ H Q := ⟨v, e, q⟩
theorem r_c (q : Q v H) : tC v σ H Q := q
theorem r_op {r : R2} (h : ta σ H fun x H1 => tb σ H1 fun y H2 => r x y H2 Q) : tOp r ta tb σ H Q := h
theorem r_un {r : V → Hp → VK → Prop} (h : ta σ H fun x H1 => r x H1 Q) : tUn r ta σ H Q := h
theorem r_I0 {g : Int → Int → V} {a b : Int} (q : Q (g a b) H) : rI0 g (.int a) (.int b) H Q := ⟨a, b, rfl, rfl, q⟩
theorem r_I {C : Int → Int → Prop} {g : Int → Int → V} {a b : Int} (c : C a b) (q : Q (g a b) H) : rI C g (.int a) (.int b) H Q := ⟨a, b, rfl, rfl, c, q⟩
theorem r_eqI {a b : Int} (q : Q (.bl (decide (a = b))) H) : rEq (.int a) (.int b) H Q := ⟨rfl, by
  have e : decide ((V.int a) = V.int b) = decide (a = b) := by
    by_cases h : a = b
    · subst h; simp
    · rw [decide_eq_false h, decide_eq_false]
      exact fun z => h (V.int.inj z)
  rw [e]; exact q⟩
theorem r_neI {a b : Int} (q : Q (.bl (!decide (a = b))) H) : rNe (.int a) (.int b) H Q := ⟨rfl, by
  have e : decide ((V.int a) = V.int b) = decide (a = b) := by
    by_cases h : a = b
    · subst h; simp
    · rw [decide_eq_false h, decide_eq_false]
      exact fun z => h (V.int.inj z)
  rw [e]; exact q⟩
theorem r_bl {k : Bool} {B : Bool → Prop} (q : B k) : ∃ k', V.bl k = .bl k' ∧ B k' := ⟨k, rfl, q⟩
theorem r_nil {QA : List V → Hp → Prop} (q : QA [] H) : tNil σ H QA := q
theorem r_cons {ts : TA} {QA : List V → Hp → Prop} (h : ta σ H fun x H1 => ts σ H1 fun xs H2 => QA (x :: xs) H2) : tCons ta ts σ H QA := h
theorem r_cb {r : List V → Hp → VK → Prop} {ts : TA} (h : ts σ H fun vs H1 => r vs H1 Q) : tCB r ts σ H Q := h
theorem r_call {sp : Sp} {dvs : List V} {E : XK} {ts : TA} (h : ts σ H fun vs H1 => sp (vs ++ dvs) H1 Q E) : tCall sp dvs E ts σ H Q := h
theorem r_tup {ts : TA} (h : ts σ H fun xs H1 => xs.length ≤ sizeLine ∧ ∀ p, H1 p = none → Q (.ref p) (upd H1 p (.tup xs))) : tTup ts σ H Q := h
theorem r_lst {ts : TA} (h : ts σ H fun xs H1 => xs.length ≤ sizeLine ∧ ∀ p, H1 p = none → Q (.ref p) (upd H1 p (.lst xs))) : tLst ts σ H Q := h
def fldR (K : PySem.W.Frag) (f : Str) (x : V) (H1 : Hp) (Q : VK) : Prop := ∃ a C dx fs v, x = .ref a ∧ H1 a = some (.ins C dx fs) ∧ Cls K C ∧ NoAttr K C f ∧ fs.lookup f = some v ∧ Q v H1
theorem r_fld {f : Str} (h : ta σ H fun x H1 => fldR K f x H1 Q) : tFld K ta f σ H Q := h
theorem r_fldR {f : Str} {a C dx : Addr} {fs : List (Str × V)} (ha : H a = some (.ins C dx fs)) (c : Cls K C) (n : NoAttr K C f) (l : fs.lookup f = some v) (q : Q v H) : fldR K f (.ref a) H Q := ⟨a, C, dx, fs, v, rfl, ha, c, n, l, q⟩
theorem r_ixL {p : Addr} {xs : List V} {k : Int} (h : SqL K H p xs) (e : atI xs k = some v) (q : Q v H) : rIxL K (.ref p) (.int k) H Q := ⟨p, xs, k, v, rfl, rfl, h, e, q⟩
theorem r_ixT {p : Addr} {xs : List V} {k : Int} (h : SqT K H p xs) (e : atI xs k = some v) (q : Q v H) : rIxT K (.ref p) (.int k) H Q := ⟨p, xs, k, v, rfl, rfl, h, e, q⟩
theorem r_setL {p : Addr} {xs : List V} {k : Int} {j : Nat} {QH : Hp → Prop} (h : H p = some (.lst xs)) (e : ixN xs.length k = some j) (q : QH (upd H p (.lst (xs.set j v)))) : rSetL (.ref p) (.int k) v H QH := ⟨p, xs, k, j, rfl, rfl, h, e, q⟩
theorem r_bm {T : String} {r : V → List V → Hp → VK → Prop} {ts : TA} (h : ta σ H fun x H1 => tyV K T x H1 ∧ ts σ H1 fun xs H2 => r x xs H2 Q) : tBM K T r ta ts σ H Q := h
theorem r_bm0 {T : String} {r : V → List V → Hp → VK → Prop} (h : ta σ H fun x H1 => tyV K T x H1 ∧ r x [] H1 Q) : tBM0 K T r ta σ H Q := h
theorem r_app {l : Addr} {xs : List V} (h : H l = some (.lst xs)) (hz : xs.length < sizeLine) (q : Q .non (upd H l (.lst (xs ++ [y])))) : rAppend (.ref l) [y] H Q := ⟨l, xs, y, rfl, rfl, h, hz, q⟩
theorem r_tyL {l : Addr} {xs : List V} {B : Prop} (h : SqL K H l xs) (q : B) : tyV K "list" (.ref l) H ∧ B := ⟨.inl ⟨rfl, xs, h⟩, q⟩
/-! relations with a name -/
def rInt1 : List V → Hp → VK → Prop := fun xs H Q => (∃ i, xs = [.int i] ∧ Q (.int i) H) ∨ ∃ k, xs = [.bl k] ∧ Q (.int (if k then 1 else 0)) H
def rLen (K : PySem.W.Frag) : List V → Hp → VK → Prop := fun xs H Q => ∃ p ys, xs = [.ref p] ∧ (SqL K H p ys ∨ SqT K H p ys) ∧ Q (.int ys.length) H
def rListO (K : PySem.W.Frag) : List V → Hp → VK → Prop := fun xs H Q => ∃ p ys, xs = [.ref p] ∧ (SqL K H p ys ∨ SqT K H p ys) ∧ ∀ l, H l = none → Q (.ref l) (upd H l (.lst ys))
def rTupO (K : PySem.W.Frag) : List V → Hp → VK → Prop := fun xs H Q => ∃ p ys, xs = [.ref p] ∧ ((SqL K H p ys ∧ ∀ l, H l = none → Q (.ref l) (upd H l (.tup ys))) ∨ (SqT K H p ys ∧ Q (.ref p) H))
def rMin2 : List V → Hp → VK → Prop := fun xs H Q => ∃ i j, xs = [.int i, .int j] ∧ Q (.int (if j < i then j else i)) H
def rIsN : R2 := fun x y H Q => y = .non ∧ Q (.bl (decide (x = .non))) H
def rNotN : R2 := fun x y H Q => y = .non ∧ Q (.bl (!decide (x = .non))) H
theorem c_int {X : Cx} : CallR X (.type "int") rInt1 := call_int1
theorem c_len {X : Cx} : CallR X (.builtin "len") (rLen X.K) := call_len_seq
theorem c_list {X : Cx} : CallR X (.type "list") (rListO X.K) := call_list_of
theorem c_tuple {X : Cx} : CallR X (.type "tuple") (rTupO X.K) := call_tuple_of
theorem c_min2 {X : Cx} (hc : X.calm = true) : CallR X (.builtin "min") rMin2 := call_min2 hc
theorem o_isN {X : Cx} : OpR X (compareOp .Is) rIsN := op_isN
theorem o_notN {X : Cx} : OpR X (compareOp .IsNot) rNotN := op_notN
theorem r_int {k : Int} (q : Q (.int k) H) : rInt1 [.int k] H Q := .inl ⟨k, rfl, q⟩
theorem r_lenL {p : Addr} {ys : List V} (h : SqL K H p ys) (q : Q (.int ys.length) H) : rLen K [.ref p] H Q := ⟨p, ys, rfl, .inl h, q⟩
theorem r_lenT {p : Addr} {ys : List V} (h : SqT K H p ys) (q : Q (.int ys.length) H) : rLen K [.ref p] H Q := ⟨p, ys, rfl, .inr h, q⟩
theorem r_listO {p : Addr} {ys : List V} (h : SqL K H p ys ∨ SqT K H p ys) (q : ∀ l, H l = none → Q (.ref l) (upd H l (.lst ys))) : rListO K [.ref p] H Q := ⟨p, ys, rfl, h, q⟩
theorem r_tupL {p : Addr} {ys : List V} (h : SqL K H p ys) (q : ∀ l, H l = none → Q (.ref l) (upd H l (.tup ys))) : rTupO K [.ref p] H Q := ⟨p, ys, rfl, .inl ⟨h, q⟩⟩
theorem r_tupT {p : Addr} {ys : List V} (h : SqT K H p ys) (q : Q (.ref p) H) : rTupO K [.ref p] H Q := ⟨p, ys, rfl, .inr ⟨h, q⟩⟩
theorem r_min2 {i j : Int} (q : Q (.int (if j < i then j else i)) H) : rMin2 [.int i, .int j] H Q := ⟨i, j, rfl, q⟩
theorem r_isN (q : Q (.bl (decide (x = .non))) H) : rIsN x .non H Q := ⟨rfl, q⟩
theorem r_notN (q : Q (.bl (!decide (x = .non))) H) : rNotN x .non H Q := ⟨rfl, q⟩
theorem r_all {p : Addr} {bs : List Bool} (h : SqL K H p (bs.map V.bl)) (q : Q (.bl (bs.all id)) H) : rAll K [.ref p] H Q := ⟨p, bs, rfl, h, q⟩
/-! data that is alike -/
def Okd (k : Nat) (d : PyData) : Prop := PyData.canLay0 d = true ∧ PyData.depth d ≤ k
theorem okd_non : Okd 0 .none := ⟨rfl, Nat.le_refl _⟩
theorem okd_bl (b : Bool) : Okd 0 (.bool b) := ⟨rfl, Nat.le_refl _⟩
theorem okd_int (i : Int) : Okd 0 (.int i) := ⟨rfl, Nat.le_refl _⟩
theorem Okd.up {j k : Nat} {d : PyData} (h : Okd j d) (l : j ≤ k) : Okd k d := ⟨h.1, Nat.le_trans h.2 l⟩
theorem okd_all {k : Nat} : ∀ {ds : List PyData}, (∀ d ∈ ds, Okd k d) → PyData.canLayAll0 ds = true ∧ PyData.depthAll ds ≤ k
  | [], _ => ⟨rfl, Nat.zero_le _⟩
  | d :: ds, h => by
    obtain ⟨a, b⟩ := h d (List.mem_cons_self ..)
    obtain ⟨a', b'⟩ := okd_all fun e he => h e (List.mem_cons_of_mem _ he)
    refine ⟨?_, ?_⟩
    · show (PyData.canLay0 d && PyData.canLayAll0 ds) = true
      rw [a, a']; rfl
    · show max (PyData.depth d) (PyData.depthAll ds) ≤ k
      omega
theorem okd_tup {k : Nat} {ds : List PyData} (h : ∀ d ∈ ds, Okd k d) : Okd (k + 1) (.tuple ds) := ⟨(okd_all h).1, Nat.succ_le_succ (okd_all h).2⟩
theorem okd_lst {k : Nat} {ds : List PyData} (h : ∀ d ∈ ds, Okd k d) : Okd (k + 1) (.list ds) := ⟨(okd_all h).1, Nat.succ_le_succ (okd_all h).2⟩
theorem Okd.sh {k : Nat} {d : PyData} (h : Okd k d) (l : k ≤ 64 := by decide) : SeqAt.shaped d = true := Bool.and_eq_true_iff.mpr ⟨h.1, decide_eq_true (Nat.le_trans h.2 l)⟩
theorem r_neSame {k : Nat} {d : PyData} (hx : Dp K H x d) (hy : Dp K H y d) (o : Okd k d) (l : k ≤ 64) (q : Q (.bl false) H) : rNeD K x y H Q := by
  refine ⟨d, d, hx, hy, o.sh l, o.sh l, ?_⟩
  rw [SeqAt.eqv_refl d o.1]
  exact q
theorem r_eqSame {k : Nat} {d : PyData} (hx : Dp K H x d) (hy : Dp K H y d) (o : Okd k d) (l : k ≤ 64) (q : Q (.bl true) H) : rEqD K x y H Q := by
  refine ⟨d, d, hx, hy, o.sh l, o.sh l, ?_⟩
  rw [SeqAt.eqv_refl d o.1]
  exact q
theorem dp_ints {H : Hp} : ∀ (ns : List Int), DpAll K H (ns.map V.int) (ns.map PyData.int)
  | [] => .nil
  | n :: ns => .cons (.int n) (dp_ints ns)
theorem okd_ints (ns : List Int) : ∀ d ∈ ns.map PyData.int, Okd 0 d := fun d hd => by
  obtain ⟨n, _, rfl⟩ := List.mem_map.mp hd
  exact okd_int n
theorem r_cut {Mid : L2.St → Hp → Prop} (h1 : t { D with nx := Mid } σ H) (h2 : ∀ σ' H', Mid σ' H' → u D σ' H') : Evl.tCut t u D σ H := ⟨Mid, h1, h2⟩
/-! loops -/
def forK (g : TG) (tb : TS) (D : Ends) (σ : L2.St) : It → Hp → Prop := fun J H1 => ∃ W : Nat → Nat → L2.St → Hp → Prop, (∃ m, W 0 m σ H1) ∧ ∀ i m σ H, W i m σ H →
  (J.stop i H ∧ D.nx σ H) ∨ (J.go i H ∧ ∃ N : L2.St → Hp → Prop, (∀ σ' H', N σ' H' → ∃ m', m' < m ∧ W (i + 1) m' σ' H') ∧ ∀ x H', J.yld i H x H' → g x σ H' fun σ2 H2 => tb { D with nx := N, ct := N, bk := D.nx } σ2 H2)
theorem r_for {wi : TI} {g : TG} (h : wi σ H (forK g t D σ)) : tFor wi g t D σ H := h
def rngK (vs : List V) (H : Hp) (R : It → Hp → Prop) : Prop := ∃ j : Int, vs = [.int j] ∧ -(2 ^ 62) ≤ j ∧ j < 2 ^ 62 ∧ R (Itr 0 j.toNat) H
theorem r_rng {ts : TA} {R : It → Hp → Prop} (h : ts σ H fun vs H1 => rngK vs H1 R) : iRng1 ts σ H R := h
theorem r_rngK {R : It → Hp → Prop} {j : Int} (n : Nat) (e : j.toNat = n) (l : -(2 ^ 62) ≤ j ∧ j < 2 ^ 62) (q : R (Itr 0 n) H) : rngK [.int j] H R := ⟨j, rfl, l.1, l.2, by rw [e]; exact q⟩
def rngK2 (vs : List V) (H : Hp) (R : It → Hp → Prop) : Prop := ∃ i j : Int, vs = [.int i, .int j] ∧ (-(2 ^ 62) ≤ i ∧ i < 2 ^ 62 ∧ -(2 ^ 62) ≤ j ∧ j < 2 ^ 62) ∧ R (Itr i (j - i).toNat) H
theorem r_rng2 {ts : TA} {R : It → Hp → Prop} (h : ts σ H fun vs H1 => rngK2 vs H1 R) : iRng2 ts σ H R := h
theorem r_rngK2 {R : It → Hp → Prop} {i j : Int} (n : Nat) (e : (j - i).toNat = n) (l : -(2 ^ 62) ≤ i ∧ i < 2 ^ 62 ∧ -(2 ^ 62) ≤ j ∧ j < 2 ^ 62) (q : R (Itr i n) H) : rngK2 [.int i, .int j] H R := ⟨i, j, rfl, l, by rw [e]; exact q⟩
def lstK (K : PySem.W.Frag) (x : V) (H : Hp) (R : It → Hp → Prop) : Prop := ∃ a, x = .ref a ∧ (∃ xs, SqL K H a xs) ∧ R (Itl K a) H
theorem r_lstI {R : It → Hp → Prop} (h : ta σ H fun x H1 => lstK K x H1 R) : iList K ta σ H R := h
theorem r_lstK {R : It → Hp → Prop} {a : Addr} {xs : List V} (h : SqL K H a xs) (q : R (Itl K a) H) : lstK K (.ref a) H R := ⟨a, rfl, ⟨xs, h⟩, q⟩
def tupK (K : PySem.W.Frag) (x : V) (H : Hp) (R : It → Hp → Prop) : Prop := ∃ a, x = .ref a ∧ (∃ xs, SqT K H a xs) ∧ R (Itt K a) H
theorem r_tupI {R : It → Hp → Prop} (h : ta σ H fun x H1 => tupK K x H1 R) : iTup K ta σ H R := h
theorem r_tupK {R : It → Hp → Prop} {a : Addr} {xs : List V} (h : SqT K H a xs) (q : R (Itt K a) H) : tupK K (.ref a) H R := ⟨a, rfl, ⟨xs, h⟩, q⟩
theorem r_forR {n : Nat} {lo : Int} {j : Nat} (Pv : Nat → L2.St → Hp → Prop) (h0 : Pv 0 σ H)
    (hs : ∀ i σ' H', i < n → Pv i σ' H' → t { D with nx := Pv (i + 1), ct := Pv (i + 1), bk := D.nx } (σ'.set j (some (.int (lo + i)))) H') (hd : ∀ σ' H', Pv n σ' H' → D.nx σ' H') : forK (gName j) t D σ (Itr lo n) H :=
  for_range Pv h0 hs hd
theorem r_forR0 {n : Nat} {j : Nat} (Pv : Nat → L2.St → Hp → Prop) (h0 : Pv 0 σ H)
    (hs : ∀ i σ' H', i < n → Pv i σ' H' → t { D with nx := Pv (i + 1), ct := Pv (i + 1), bk := D.nx } (σ'.set j (some (.int (i : Int)))) H') (hd : ∀ σ' H', Pv n σ' H' → D.nx σ' H') : forK (gName j) t D σ (Itr 0 n) H :=
  for_range Pv h0 (fun i σ' H' hi p => by
    have e : (0 : Int) + (i : Int) = i := Int.zero_add _
    rw [e]
    exact hs i σ' H' hi p) hd
theorem r_forL {a : Addr} {xs : List V} {g : TG} (Pv : Nat → L2.St → Hp → Prop) (h0 : Pv 0 σ H) (hl : ∀ i σ H, i ≤ xs.length → Pv i σ H → SqL K H a xs)
    (hs : ∀ i x σ' H', xs[i]? = some x → Pv i σ' H' → g x σ' H' fun σ2 H2 => t { D with nx := Pv (i + 1), ct := Pv (i + 1), bk := D.nx } σ2 H2) (hd : ∀ σ' H', Pv xs.length σ' H' → D.nx σ' H') : forK g t D σ (Itl K a) H := for_list Pv h0 hl hs hd
theorem r_forT {a : Addr} {xs : List V} {g : TG} (Pv : Nat → L2.St → Hp → Prop) (h0 : Pv 0 σ H) (hl : ∀ i σ H, i ≤ xs.length → Pv i σ H → SqT K H a xs)
    (hs : ∀ i x σ' H', xs[i]? = some x → Pv i σ' H' → g x σ' H' fun σ2 H2 => t { D with nx := Pv (i + 1), ct := Pv (i + 1), bk := D.nx } σ2 H2) (hd : ∀ σ' H', Pv xs.length σ' H' → D.nx σ' H') : forK g t D σ (Itt K a) H := for_tup Pv h0 hl hs hd
/-! comprehensions -/
def lcK (g : TG) (tt : TT) (te : TE) (vs : List Nat) (σ : L2.St) (Q : VK) : It → Hp → Prop := fun J H1 => ∀ D, H1 D = none → ∃ W : Nat → Nat → Hp → Prop, (∃ m, W 0 m (upd H1 D (.lst []))) ∧ ∀ i m H, W i m H →
  (J.stop i H ∧ Q (.ref D) H) ∨ (J.go i H ∧ ∃ Nx : Hp → Prop, (∀ H', Nx H' → ∃ m', m' < m ∧ W (i + 1) m' H') ∧ ∀ x H', J.yld i H x H' → g x (wipe σ vs) H' fun σ2 H2 => wipe σ2 vs = wipe σ vs ∧ tt σ2 H2 fun b H3 =>
    if b = true then te σ2 H3 fun y H4 => ∃ acc, H4 D = some (.lst acc) ∧ acc.length < sizeLine ∧ Nx (upd H4 D (.lst (acc ++ [y]))) else Nx H3)
theorem r_lc {wi : TI} {g : TG} {vs : List Nat} (h : wi σ H (lcK g tt te vs σ Q)) : tLc wi g tt te vs σ H Q := h
theorem Same.upd2 {H H' : Hp} {p : Addr} {o : HO} (s : Same H H') (h : H p = none) : Same H (upd H' p o) := fun b u z => by
  rw [upd_ne (ne_of_none z h)]
  exact s b u z
theorem filt_yes {n : Nat} {f : Nat → Bool} {v : Nat → V} (h : f n = true) : ((List.range (n + 1)).filter f).map v = ((List.range n).filter f).map v ++ [v n] := by
  rw [List.range_succ, List.filter_append, List.map_append]
  simp [h]
theorem filt_no {n : Nat} {f : Nat → Bool} {v : Nat → V} (h : f n = false) : ((List.range (n + 1)).filter f).map v = ((List.range n).filter f).map v := by
  rw [List.range_succ, List.filter_append, List.map_append]
  simp [h]
theorem filt_len (n : Nat) (f : Nat → Bool) (v : Nat → V) : (((List.range n).filter f).map v).length ≤ n := by
  rw [List.length_map]
  have h := List.length_filter_le f (List.range n)
  rw [List.length_range] at h
  exact h
/-- one turn, and the next -/
theorem lc_turn {f : Nat → Bool} {v : Nat → V} {i : Nat} {H0 H' : Hp} {Dl : Addr} {σ2 : L2.St} (hD : H0 Dl = none) (s : Same H0 H') (hl : H' Dl = some (.lst (((List.range i).filter f).map v))) (hi : i < 100000)
    (ht : ∀ QT : Bool → Hp → Prop, (∀ H2, Same H' H2 → QT (f i) H2) → tt σ2 H' QT) (he : ∀ H2, f i = true → Same H' H2 → ∀ Q : VK, (∀ H3, Same H2 H3 → Q (v i) H3) → te σ2 H2 Q) :
    tt σ2 H' fun b H3 => if b = true then te σ2 H3 fun y H4 => ∃ acc, H4 Dl = some (.lst acc) ∧ acc.length < sizeLine ∧ (Same H0 (upd H4 Dl (.lst (acc ++ [y]))) ∧ (upd H4 Dl (.lst (acc ++ [y]))) Dl = some (.lst (((List.range (i + 1)).filter f).map v)))
      else (Same H0 H3 ∧ H3 Dl = some (.lst (((List.range (i + 1)).filter f).map v))) := by
  refine ht _ fun H2 s2 => ?_
  cases hf : f i with
  | true =>
    show te σ2 H2 _
    refine he H2 hf s2 _ fun H3 s3 => ⟨_, s3 _ _ (s2 _ _ hl), ?_, Same.upd2 ((s.trans s2).trans s3) hD, ?_⟩
    · have := filt_len i f v
      exact Nat.lt_of_le_of_lt (Nat.le_trans this (Nat.le_of_lt hi)) (by decide)
    · rw [upd_same, filt_yes hf]
  | false =>
    refine ⟨s.trans s2, ?_⟩
    rw [filt_no hf]
    exact s2 _ _ hl
theorem r_lcR {n : Nat} {j : Nat} {vs : List Nat} (f : Nat → Bool) (v : Nat → V) (hn : n ≤ 100000) (hw : ∀ x, wipe ((wipe σ vs).set j (some x)) vs = wipe σ vs)
    (ht : ∀ i H', i < n → Same H H' → ∀ QT : Bool → Hp → Prop, (∀ H2, Same H' H2 → QT (f i) H2) → tt ((wipe σ vs).set j (some (.int (i : Int)))) H' QT)
    (he : ∀ i H', i < n → f i = true → Same H H' → ∀ Q : VK, (∀ H2, Same H' H2 → Q (v i) H2) → te ((wipe σ vs).set j (some (.int (i : Int)))) H' Q)
    (q : ∀ p H', H p = none → Same H H' → H' p = some (.lst (((List.range n).filter f).map v)) → Q (.ref p) H') : lcK (gName j) tt te vs σ Q (Itr 0 n) H := fun Dl hD =>
  lc_range (fun i H' => Same H H' ∧ H' Dl = some (.lst (((List.range i).filter f).map v))) ⟨fun b o z => by rw [upd_ne (ne_of_none z hD)]; exact z, upd_same⟩
    (fun i H' hi p => by
      have e0 : (0 : Int) + (i : Int) = (i : Int) := Int.zero_add _
      rw [e0]
      exact ⟨hw _, lc_turn hD p.1 p.2 (Nat.lt_of_lt_of_le hi hn) (fun QT k => ht i H' hi p.1 QT k) fun H2 hf s2 => he i H2 hi hf (p.1.trans s2)⟩) fun H' p => q Dl H' hD p.1 p.2
theorem r_lcL {a : Addr} {xs : List V} {j : Nat} {vs : List Nat} (f : Nat → Bool) (v : Nat → V) (hn : xs.length ≤ 100000) (hx : SqL K H a xs) (hw : ∀ x, wipe ((wipe σ vs).set j (some x)) vs = wipe σ vs)
    (ht : ∀ i x H', xs[i]? = some x → Same H H' → ∀ QT : Bool → Hp → Prop, (∀ H2, Same H' H2 → QT (f i) H2) → tt ((wipe σ vs).set j (some x)) H' QT)
    (he : ∀ i x H', xs[i]? = some x → f i = true → Same H H' → ∀ Q : VK, (∀ H2, Same H' H2 → Q (v i) H2) → te ((wipe σ vs).set j (some x)) H' Q)
    (q : ∀ p H', H p = none → Same H H' → H' p = some (.lst (((List.range xs.length).filter f).map v)) → Q (.ref p) H') : lcK (gName j) tt te vs σ Q (Itl K a) H := fun Dl hD =>
  lc_list (xs := xs) (fun i H' => Same H H' ∧ H' Dl = some (.lst (((List.range i).filter f).map v))) ⟨fun b o z => by rw [upd_ne (ne_of_none z hD)]; exact z, upd_same⟩ (fun i H' _ p => p.1.seq hx)
    (fun i x H' hi p => ⟨hw _, lc_turn hD p.1 p.2 (Nat.lt_of_lt_of_le (List.getElem?_eq_some_iff.mp hi).1 hn) (fun QT k => ht i x H' hi p.1 QT k) fun H2 hf s2 => he i x H2 hi hf (p.1.trans s2)⟩) fun H' p => q Dl H' hD p.1 p.2
theorem same_tup {H H' : Hp} {a : Addr} {xs : List V} (e : Same H H') (h : SqT K H a xs) : SqT K H' a xs := by
  rcases h with (h | ⟨o, h⟩) | h
  · exact .inl (.inl (e _ _ h))
  · exact .inl (.inr ⟨o, e _ _ h⟩)
  · exact .inr h
theorem r_lcT {a : Addr} {xs : List V} {j : Nat} {vs : List Nat} (f : Nat → Bool) (v : Nat → V) (hn : xs.length ≤ 100000) (hx : SqT K H a xs) (hw : ∀ x, wipe ((wipe σ vs).set j (some x)) vs = wipe σ vs)
    (ht : ∀ i x H', xs[i]? = some x → Same H H' → ∀ QT : Bool → Hp → Prop, (∀ H2, Same H' H2 → QT (f i) H2) → tt ((wipe σ vs).set j (some x)) H' QT)
    (he : ∀ i x H', xs[i]? = some x → f i = true → Same H H' → ∀ Q : VK, (∀ H2, Same H' H2 → Q (v i) H2) → te ((wipe σ vs).set j (some x)) H' Q)
    (q : ∀ p H', H p = none → Same H H' → H' p = some (.lst (((List.range xs.length).filter f).map v)) → Q (.ref p) H') : lcK (gName j) tt te vs σ Q (Itt K a) H := fun Dl hD =>
  lc_tup (xs := xs) (fun i H' => Same H H' ∧ H' Dl = some (.lst (((List.range i).filter f).map v))) ⟨fun b o z => by rw [upd_ne (ne_of_none z hD)]; exact z, upd_same⟩ (fun i H' _ p => same_tup p.1 hx)
    (fun i x H' hi p => ⟨hw _, lc_turn hD p.1 p.2 (Nat.lt_of_lt_of_le (List.getElem?_eq_some_iff.mp hi).1 hn) (fun QT k => ht i x H' hi p.1 QT k) fun H2 hf s2 => he i x H2 hi hf (p.1.trans s2)⟩) fun H' p => q Dl H' hD p.1 p.2
/-! xs[j] op= e -/
def rGetL (K : PySem.W.Frag) : V → V → Hp → VK → Prop := fun x y H Q => ∃ p xs v, ∃ j : Nat, x = .ref p ∧ y = .int j ∧ SqL K H p xs ∧ xs[j]? = some v ∧ Q v H
theorem pget_list {X : Cx} : PGet X (rGetL X.K) := by
  intro pins s σ H o i ov iv Q I r1 r2 h
  obtain ⟨p, xs, v, j, rfl, rfl, hs, hj, q⟩ := h
  cases r1
  obtain ⟨t, rfl⟩ := r2
  obtain ⟨its, r, pl, hz⟩ := I.list hs
  obtain ⟨u, hu, ru⟩ := r.get hj
  have hl : j < xs.length := (List.getElem?_eq_some_iff.mp hj).1
  exact wpAny_getItem_list pl.isList (by omega) (by have := line63; omega) (by simpa using hu) ⟨v, H, I, ru, q⟩
theorem r_augS {o i e : TE} {tg : V → V → Hp → VK → Prop} {ip : TIp} {ts : TSet} (h : o σ H fun x H1 => i σ H1 fun k H2 => tg x k H2 fun v H3 => e σ H3 fun y H4 => ip v y H4 fun z H5 => ts x k z H5 fun H6 => D.nx σ H6) : tAugS o i e tg ip ts D σ H := h
theorem r_getL {p : Addr} {xs : List V} {j : Nat} (h : SqL K H p xs) (e : xs[j]? = some v) (q : Q v H) : rGetL K (.ref p) (.int j) H Q := ⟨p, xs, v, j, rfl, rfl, h, e, q⟩
theorem r_ipI {f : Int → Int → Int} {a b : Int} (q : Q (.int (f a b)) H) : ipI f (.int a) (.int b) H Q := ⟨a, b, rfl, rfl, q⟩
theorem ix_nat {n j : Nat} (h : j < n) : ixN n (j : Int) = some j := by
  unfold ixN
  first
    | (rw [if_pos (by omega)]; simp; omega)
    | simp [h]
/-! raise C(e) -/
def mkK (C : Addr) (f : Str) (okV : V → Prop) (vs : List V) (H1 : Hp) (QX : XK) : Prop := ∃ v, vs = [v] ∧ okV v ∧ ∀ dx, H1 dx = none → QX (.ref C) (some dx) (upd H1 dx (.xd [(f, v)]))
theorem r_mkE {C : Addr} {f : Str} {okV : V → Prop} {ts : TA} {QX : XK} (h : ts σ H fun vs H1 => mkK C f okV vs H1 QX) : tMkE C f okV ts σ H QX := h
theorem r_mkK {C : Addr} {f : Str} {okV : V → Prop} {QX : XK} (ok : okV v) (q : ∀ dx, H dx = none → QX (.ref C) (some dx) (upd H dx (.xd [(f, v)]))) : mkK C f okV [v] H QX := ⟨v, rfl, ok, q⟩
/-! t + u, the right one not empty -/
theorem r_catT {a b : Addr} {xs ys : List V} (ha : SqT K H a xs) (hb : H b = some (.tup ys)) (hz : xs.length + ys.length ≤ 100000) (hy : ys ≠ [])
    (q : ∀ t H', Same H H' → H' t = some (.tup (xs ++ ys)) → Q (.ref t) H') : rCatA K (.ref a) (.ref b) H Q :=
  ⟨a, b, xs, ys, rfl, rfl, ha, SqT.of hb, Nat.le_trans hz (by decide), fun e => q b H (Same.refl H) (by rw [e]; exact hb), fun _ e => absurd e hy,
    fun _ _ p hp => q p _ (fun c o z => by rw [upd_ne (ne_of_none z hp)]; exact z) upd_same⟩
/-! methods, properties, new instances -/
def mthK (C : Addr) (m : Str) (sp : Sp) (dvs : List V) (E : XK) (ts : TA) (σ : L2.St) (x : V) (H1 : Hp) (Q : VK) : Prop := ∃ a dx fs, x = .ref a ∧ H1 a = some (.ins C dx fs) ∧ fs.lookup m = none ∧ ts σ H1 fun vs H2 => sp (x :: (vs ++ dvs)) H2 Q E
theorem r_meth {C : Addr} {m : Str} {sp : Sp} {dvs : List V} {E : XK} {ts : TA} (h : ta σ H fun x H1 => mthK C m sp dvs E ts σ x H1 Q) : tMeth C m sp dvs E ta ts σ H Q := h
theorem r_mthK {C a dx : Addr} {fs : List (Str × V)} {m : Str} {sp : Sp} {dvs : List V} {E : XK} {ts : TA} (ha : H a = some (.ins C dx fs)) (l : fs.lookup m = none) (h : ts σ H fun vs H2 => sp (.ref a :: (vs ++ dvs)) H2 Q E) : mthK C m sp dvs E ts σ (.ref a) H Q := ⟨a, dx, fs, rfl, ha, l, h⟩
def prpK (C : Addr) (sp : Sp) (dvs : List V) (E : XK) (x : V) (H1 : Hp) (Q : VK) : Prop := ∃ a dx fs, x = .ref a ∧ H1 a = some (.ins C dx fs) ∧ sp (.ref a :: dvs) H1 Q E
theorem r_prop {C : Addr} {sp : Sp} {dvs : List V} {E : XK} (h : ta σ H fun x H1 => prpK C sp dvs E x H1 Q) : tProp C sp dvs E ta σ H Q := h
theorem r_prpK {C a dx : Addr} {fs : List (Str × V)} {sp : Sp} {dvs : List V} {E : XK} (ha : H a = some (.ins C dx fs)) (h : sp (.ref a :: dvs) H Q E) : prpK C sp dvs E (.ref a) H Q := ⟨a, dx, fs, rfl, ha, h⟩
theorem r_make {C : Addr} {sp : Sp} {dvs : List V} {E : XK} {ts : TA} (h : ts σ H fun vs H1 => ∀ x dx, H1 x = none → H1 dx = none → dx ≠ x → sp (.ref x :: (vs ++ dvs)) (upd (upd H1 dx (.own x)) x (.ins C dx [])) (fun v H2 => v = .non ∧ Q (.ref x) H2) E) : tMake C sp dvs E ts σ H Q := h
/-! dicts with keys that are ints -/
def dinK (y x : V) (H2 : Hp) (Q : VK) : Prop := ∃ a o, x = .ref a ∧ DGet H2 a y o ∧ Q (.bl o.isSome) H2
theorem r_din {ty td : TE} (h : ty σ H fun y H1 => td σ H1 fun x H2 => dinK y x H2 Q) : tDIn ty td σ H Q := h
theorem r_dinK {a : Addr} {kvs : List (Key × V)} {k : Int} (e : Rd H a (.dK kvs)) (q : Q (.bl (valV kvs (Sum.inl k : Key)).isSome) H) : dinK (.int k) (.ref a) H Q := ⟨a, _, rfl, .inl ⟨kvs, Sum.inl k, e, rfl, rfl⟩, q⟩
def dninK (y x : V) (H2 : Hp) (Q : VK) : Prop := ∃ a o, x = .ref a ∧ DGet H2 a y o ∧ Q (.bl (!o.isSome)) H2
theorem r_dnin {ty td : TE} (h : ty σ H fun y H1 => td σ H1 fun x H2 => dninK y x H2 Q) : tDNotIn ty td σ H Q := h
theorem r_dninK {a : Addr} {kvs : List (Key × V)} {k : Int} (e : Rd H a (.dK kvs)) (q : Q (.bl (!(valV kvs (Sum.inl k : Key)).isSome)) H) : dninK (.int k) (.ref a) H Q := ⟨a, _, rfl, .inl ⟨kvs, Sum.inl k, e, rfl, rfl⟩, q⟩
def dputK (x y v : V) (H3 : Hp) (N : Hp → Prop) : Prop := ∃ a H4, x = .ref a ∧ DPut H3 a y v H4 ∧ N H4
theorem r_dput {td ty tv : TE} (h : tv σ H fun v H1 => td σ H1 fun x H2 => ty σ H2 fun y H3 => dputK x y v H3 (D.nx σ)) : sDPut td ty tv D σ H := h
theorem r_dputK {a : Addr} {kvs : List (Key × V)} {k : Int} {N : Hp → Prop} (e : H a = some (.dK kvs)) (hl : kvs.length < sizeLine) (q : N (upd H a (.dK (putK kvs (Sum.inl k : Key) v)))) : dputK (.ref a) (.int k) v H N := ⟨a, _, rfl, DPut.k (k := Sum.inl k) e hl, q⟩
def dgetK (x y : V) (H2 : Hp) (Q : VK) : Prop := ∃ a v, x = .ref a ∧ DGet H2 a y (some v) ∧ Q v H2
theorem r_dget {td ty : TE} (h : td σ H fun x H1 => ty σ H1 fun y H2 => dgetK x y H2 Q) : tDGet td ty σ H Q := h
theorem r_dgetK {a : Addr} {kvs : List (Key × V)} {k : Int} (e : Rd H a (.dK kvs)) (g : valV kvs (Sum.inl k : Key) = some v) (q : Q v H) : dgetK (.ref a) (.int k) H Q := ⟨a, v, rfl, .inl ⟨kvs, Sum.inl k, e, rfl, g.symm⟩, q⟩
end
/-- one step of a plain reading -/
local macro_rules | `(tactic| walk_at "step") => `(tactic| first
  | with_reducible refine r_seq ?_ | with_reducible refine r_nx ?_ | with_reducible refine r_asgN ?_ | with_reducible refine r_asgS ?_ | with_reducible refine r_asgT ?_ | with_reducible refine r_ifS ?_
  | with_reducible refine r_ret ?_ | with_reducible refine r_retN ?_ | with_reducible refine r_drop ?_ | with_reducible refine r_test ?_ | with_reducible refine r_B ?_ | with_reducible refine r_not ?_
  | with_reducible refine r_and ?_ | with_reducible refine r_or ?_ | with_reducible refine r_andV ?_ | with_reducible refine r_orV ?_ | with_reducible refine r_notV ?_
  | ((with_reducible refine' r_var ?e ?_); (case e => exact rfl)) | with_reducible refine r_c ?_ | with_reducible refine r_op ?_ | with_reducible refine r_un ?_
  | with_reducible refine r_I0 ?_ | with_reducible refine r_eqI ?_ | with_reducible refine r_neI ?_ | with_reducible refine r_bl ?_ | with_reducible refine r_nil ?_ | with_reducible refine r_cons ?_
  | with_reducible refine r_cb ?_ | with_reducible refine r_call ?_ | with_reducible refine r_tup ?_ | with_reducible refine r_lst ?_ | with_reducible refine r_fld ?_ | with_reducible refine r_bm ?_ | with_reducible refine r_bm0 ?_
  | with_reducible refine r_for ?_ | with_reducible refine r_rng ?_ | with_reducible refine r_rng2 ?_ | with_reducible refine r_lstI ?_ | with_reducible refine r_tupI ?_ | with_reducible refine r_lc ?_
  | with_reducible refine r_augS ?_ | with_reducible refine r_ipI ?_
  | with_reducible refine r_meth ?_ | with_reducible refine r_prop ?_ | with_reducible refine r_make ?_ | with_reducible refine r_din ?_ | with_reducible refine r_dnin ?_ | with_reducible refine r_dput ?_ | with_reducible refine r_dget ?_
  | with_reducible refine r_gN ?_ | with_reducible refine r_tsl ?_ | with_reducible refine r_noP ?_ | with_reducible refine r_part ?_ | with_reducible refine r_pI ?_ | with_reducible refine r_tif ?_ | with_reducible refine r_SL ?_ | with_reducible refine r_gC ?_ | with_reducible refine r_U ?_ | with_reducible refine r_sfld ?_ | with_reducible refine r_dnew ?_ | with_reducible refine r_keys ?_
  | with_reducible refine r_mkE ?_ | with_reducible refine iteT ?_ | with_reducible refine iteF ?_
  | with_reducible refine r_int ?_ | with_reducible refine r_min2 ?_ | with_reducible refine r_isN ?_ | with_reducible refine r_notN ?_)
/-- as far as it goes by itself -/
local macro_rules | `(tactic| walk_at "go") => `(tactic| ((repeat walk_at "step"); (try dsimp only)))

example {H : Hp} {Q : VK} (q : Q (.int 5) H) : tOp (rI0 fun i j => V.int (i + j)) (tVar 0) (tC (.int 3)) [some (.int 2)] H Q := by
  repeat walk_at "step"
  exact q
end Er
namespace Er
open PySem PySem.Spec PyProof.Rows L2
section
variable {K : PySem.W.Frag} {σ : L2.St} {H : Hp} {D : Ends} {Q : VK} {QT : Bool → Hp → Prop} {ta tb te : TE} {t u : TS} {tt tu : TT} {i : Nat} {v x y : V}
theorem r_gN {k : L2.St → Hp → Prop} (h : k (σ.set i (some x)) H) : gName i x σ H k := h
theorem r_U {g : Int → V} {a : Int} (q : Q (g a) H) : rU g (.int a) H Q := ⟨a, rfl, q⟩
/-! e.f = v -/
def sfldK (K : PySem.W.Frag) (f : Str) (y x : V) (H2 : Hp) (N : Hp → Prop) : Prop := ∃ a C dx fs, x = .ref a ∧ H2 a = some (.ins C dx fs) ∧ Cls K C ∧ NoAttr K C f ∧ fs.length < 1000 ∧ N (upd H2 a (.ins C dx (putF f y fs)))
theorem r_sfld {to tv : TE} {f : Str} (h : tv σ H fun y H1 => to σ H1 fun x H2 => sfldK K f y x H2 (D.nx σ)) : sFld K to tv f D σ H := h
theorem r_sfldK {f : Str} {a C dx : Addr} {fs : List (Str × V)} {N : Hp → Prop} (ha : H a = some (.ins C dx fs)) (c : Cls K C) (n : NoAttr K C f) (l : fs.length < 1000) (q : N (upd H a (.ins C dx (putF f y fs)))) : sfldK K f y (.ref a) H N := ⟨a, C, dx, fs, rfl, ha, c, n, l, q⟩
theorem r_dnew (h : ∀ p, H p = none → Q (.ref p) (upd H p (.dK []))) : tDNewK σ H Q := h
/-! [v] * n -/
theorem r_rep {l : Addr} {k : Nat} {v : V} (h : H l = some (.lst [v])) (hk : k ≤ 1000) (q : ∀ p, H p = none → Q (.ref p) (upd H p (.lst (List.replicate k v)))) : rRep (.ref l) (.int (k : Int)) H Q := by
  refine ⟨l, k, [v], rfl, rfl, h, by omega, by omega, ?_, fun p hp => ?_⟩
  · show 1 * (k : Int).toNat ≤ sizeLine
    have : (1000 : Nat) ≤ sizeLine := by decide
    omega
  · have e : (List.replicate ((k : Int).toNat) [v]).flatten = List.replicate k v := by
      rw [Int.toNat_natCast]
      clear hk q
      induction k with
      | zero => rfl
      | succ k ih => rw [List.replicate_succ, List.flatten_cons, ih]; rfl
    rw [e]
    exact q p hp
/-! sorted of a dict's ints, list of a dict -/
def rSortDI : List V → Hp → VK → Prop := fun xs H Q => ∃ (a : Addr) (kvs : List (Key × V)) (ks : List Int), xs = [.ref a] ∧ Rd H a (.dK kvs) ∧ kvs.map (·.1) = ks.map Sum.inl ∧ ks.length < 64 ∧
    ∀ (ys : List Int) (p : Addr), ys.Perm ks → ys.Pairwise (· ≤ ·) → H p = none → Q (.ref p) (upd H p (.lst (ys.map V.int)))
theorem c_sortDI {X : Cx} (hc : X.calm = true) : CallR X (.builtin "sorted") rSortDI := call_sortedDI hc
def rListDK : List V → Hp → VK → Prop := fun xs H Q => ∃ (a : Addr) (kvs : List (Key × V)), xs = [.ref a] ∧ Rd H a (.dK kvs) ∧ ∀ p, H p = none → Q (.ref p) (upd H p (.lst (kvs.map fun kv => kV kv.1)))
theorem c_listD {X : Cx} (hc : X.calm = true) : CallR X (.type "list") rListDK := call_listD hc
theorem sort_one_int {xs ys : List Int} (p : xs.Perm ys) (hx : xs.Pairwise (· ≤ ·)) (hy : ys.Pairwise (· ≤ ·)) : xs = ys := List.Perm.eq_of_pairwise (fun _ _ _ _ a b => Int.le_antisymm a b) hx hy p
/-- the ints of zs, in order: ss -/
theorem r_sortDI {a : Addr} {kvs : List (Key × V)} {ks ss : List Int} (h : Rd H a (.dK kvs)) (e : kvs.map (·.1) = ks.map Sum.inl) (l : ks.length < 64) (p : ss.Perm ks) (o : ss.Pairwise (· ≤ ·)) (q : ∀ p, H p = none → Q (.ref p) (upd H p (.lst (ss.map V.int)))) : rSortDI [.ref a] H Q :=
  ⟨a, kvs, ks, rfl, h, e, l, fun ys p' h1 h2 => by
    rw [sort_one_int (h1.trans p.symm) h2 o]
    exact q p'⟩
theorem r_sorted {a : Addr} {ks ss : List Int} (h : SqL K H a (ks.map V.int)) (l : ks.length < 64) (p : ss.Perm ks) (o : ss.Pairwise (· ≤ ·)) (q : ∀ p, H p = none → Q (.ref p) (upd H p (.lst (ss.map V.int)))) : rSorted K [.ref a] H Q :=
  ⟨a, ks, rfl, h, l, fun ys p' h1 h2 => by
    rw [sort_one_int (h1.trans p.symm) h2 o]
    exact q p'⟩
theorem r_listDK {a : Addr} {kvs : List (Key × V)} (h : Rd H a (.dK kvs)) (q : ∀ p, H p = none → Q (.ref p) (upd H p (.lst (kvs.map fun kv => kV kv.1)))) : rListDK [.ref a] H Q := ⟨a, kvs, rfl, h, q⟩
/-! for k in d -/
def keysK (x : V) (H1 : Hp) (R : It → Hp → Prop) : Prop := ∃ d o, x = .ref d ∧ ((∃ kvs, H1 d = some (.frz o (.dK kvs)) ∧ R (Itk d o kvs) H1) ∨ ∃ kvs, H1 d = some (.frz o (.dT kvs)) ∧ R (Itkt d o kvs) H1)
theorem r_keys {R : It → Hp → Prop} (h : ta σ H fun x H1 => keysK x H1 R) : iKeys ta σ H R := h
theorem r_keysK {R : It → Hp → Prop} {d : Addr} {o : Obj} {kvs : List (Key × V)} (h : H d = some (.frz o (.dK kvs))) (q : R (Itk d o kvs) H) : keysK (.ref d) H R := ⟨d, o, rfl, .inl ⟨kvs, h, q⟩⟩
theorem r_forK {d : Addr} {o : Obj} {kvs : List (Key × V)} {g : TG} (Pv : Nat → L2.St → Hp → Prop) (h0 : Pv 0 σ H) (hl : ∀ i σ H, i ≤ kvs.length → Pv i σ H → H d = some (.frz o (.dK kvs)))
    (hs : ∀ i k v σ' H', kvs[i]? = some (k, v) → Pv i σ' H' → g (kV k) σ' H' fun σ2 H2 => t { D with nx := Pv (i + 1), ct := Pv (i + 1), bk := D.nx } σ2 H2) (hd : ∀ σ' H', Pv kvs.length σ' H' → D.nx σ' H') : forK g t D σ (Itk d o kvs) H :=
  for_it walk_keys Pv h0 hl (fun i x σ' H' H2 hi p y => by
    obtain ⟨rfl, k, v, e, rfl⟩ := y
    exact hs i k v _ _ e p) hd
end
/-! within a comprehension: K is told -/
section
variable {X : Cx}
theorem ixL (K : PySem.W.Frag) (e : X.K = K := by rfl) : IxR X (rIxL K) := by subst e; exact ix_list
theorem ixT (K : PySem.W.Frag) (e : X.K = K := by rfl) : IxR X (rIxT K) := by subst e; exact ix_tup
theorem inK (K : PySem.W.Frag) (e : X.K = K := by rfl) : OpR X (compareOp .In) (rIn K false) := by subst e; exact op_in_seq
theorem ninK (K : PySem.W.Frag) (e : X.K = K := by rfl) : OpR X (compareOp .NotIn) (rIn K true) := by subst e; exact op_notIn_seq
theorem lenK (K : PySem.W.Frag) (e : X.K = K := by rfl) : CallR X (.builtin "len") (rLen K) := by subst e; exact c_len
theorem fldE (K : PySem.W.Frag) {e : Expr} {f : Str} {pos : Pos} {ta : TE} (he : PE X e ta) (h : X.K = K := by rfl) (hb : attributeBase e f X.env (eval e X.env) = eval e X.env := by rfl) : PE X (.Attribute e f pos) (tFld K ta f) := by subst h; exact pe_fld he hb
end
end Er
namespace Er
open PySem PySem.Spec PyProof.Rows L2
section
variable {K : PySem.W.Frag} {σ : L2.St} {H : Hp} {D : Ends} {Q : VK} {te : TE} {tt : TT}
/-- [e for x in xs] where e is made anew each time: the item of turn i is told by Rl -/
theorem lcm_core {n : Nat} {Rl : Nat → V → Hp → Prop} (st : ∀ i v H H', Same H H' → Rl i v H → Rl i v H') {i : Nat} {H0 H' : Hp} {Dl : Addr} {σ2 : L2.St} {acc : List V} (hD : H0 Dl = none) (s : Same H0 H') (hl : H' Dl = some (.lst acc)) (la : acc.length = i) (ha : ∀ j y, acc[j]? = some y → Rl j y H') (hi : i < 100000)
    (away : ∀ j y H H', H Dl = some (.lst acc) → Rl j y H → (∀ b u, b ≠ Dl → H b = some u → H' b = some u) → Rl j y H')
    (he : ∀ Q : VK, (∀ y H2, Same H' H2 → Rl i y H2 → Q y H2) → te σ2 H' Q) :
    te σ2 H' fun y H4 => ∃ acc, H4 Dl = some (.lst acc) ∧ acc.length < sizeLine ∧ (Same H0 (upd H4 Dl (.lst (acc ++ [y]))) ∧ ∃ ac, (upd H4 Dl (.lst (acc ++ [y]))) Dl = some (.lst ac) ∧ ac.length = i + 1 ∧ ∀ j y', ac[j]? = some y' → Rl j y' (upd H4 Dl (.lst (acc ++ [y])))) := by
  refine he _ fun y H2 s2 r2 => ⟨acc, s2 _ _ hl, ?_, Same.upd2 (s.trans s2) hD, acc ++ [y], upd_same, by rw [List.length_append, la]; rfl, fun j y' hj => ?_⟩
  · rw [la]
    exact Nat.lt_of_lt_of_le hi (by decide)
  · have keep : ∀ b u, b ≠ Dl → H2 b = some u → upd H2 Dl (.lst (acc ++ [y])) b = some u := fun b u nb z => by rw [upd_ne nb]; exact z
    rcases Nat.lt_or_ge j acc.length with h | h
    · rw [List.getElem?_append_left h] at hj
      exact away j y' H2 _ (s2 _ _ hl) (st _ _ _ _ s2 (ha j y' hj)) keep
    · rw [List.getElem?_append_right h] at hj
      have e : j - acc.length = 0 := by
        rcases Nat.eq_zero_or_pos (j - acc.length) with z | z
        · exact z
        · rw [List.getElem?_eq_none (by show 1 ≤ _; omega)] at hj
          cases hj
      rw [e] at hj
      cases hj
      have ej : j = i := by omega
      subst ej
      exact away _ _ H2 _ (s2 _ _ hl) r2 keep
theorem r_lcLm {a : Addr} {xs : List V} {j : Nat} {vs : List Nat} (Rl : Nat → V → Hp → Prop) (away : ∀ i v Dl zs H H', H Dl = some (.lst zs) → Rl i v H → (∀ b u, b ≠ Dl → H b = some u → H' b = some u) → Rl i v H') (st : ∀ i v H H', Same H H' → Rl i v H → Rl i v H')
    (hn : xs.length ≤ 100000) (hx : SqL K H a xs) (hw : ∀ x, wipe ((wipe σ vs).set j (some x)) vs = wipe σ vs)
    (he : ∀ i x H', xs[i]? = some x → Same H H' → ∀ Q : VK, (∀ y H2, Same H' H2 → Rl i y H2 → Q y H2) → te ((wipe σ vs).set j (some x)) H' Q)
    (q : ∀ p ys H', H p = none → Same H H' → H' p = some (.lst ys) → ys.length = xs.length → (∀ i y, ys[i]? = some y → Rl i y H') → Q (.ref p) H') : lcK (gName j) tYes te vs σ Q (Itl K a) H := fun Dl hD =>
  lc_list (xs := xs) (fun i H' => Same H H' ∧ ∃ acc, H' Dl = some (.lst acc) ∧ acc.length = i ∧ ∀ j y, acc[j]? = some y → Rl j y H') ⟨fun b o z => by rw [upd_ne (ne_of_none z hD)]; exact z, [], upd_same, rfl, fun j y h => by simp at h⟩ (fun i H' _ p => p.1.seq hx)
    (fun i x H' hi p => by
      obtain ⟨s, acc, hl, la, ha⟩ := p
      exact ⟨hw _, lcm_core (n := xs.length) st hD s hl la ha (Nat.lt_of_lt_of_le (List.getElem?_eq_some_iff.mp hi).1 hn) (fun j y H H' h1 h2 h3 => away j y Dl acc H H' h1 h2 h3) (he i x H' hi s)⟩)
    fun H' p => by
      obtain ⟨s, acc, hl, la, ha⟩ := p
      exact q Dl acc H' hD s hl la ha
end
end Er
namespace Er
open PySem PySem.Spec PyProof.Rows L2
/-! sorted(e, key=len), e a list of tuples -/
def lenLe (x y : Addr × List V) : Bool := decide (x.2.length ≤ y.2.length)
def refsOf (ts : List (Addr × List V)) : List V := ts.map fun t => V.ref t.1
def rSortLen (K : PySem.W.Frag) : List V → Hp → VK → Prop := fun xs H Q => ∃ (a : Addr) (ts : List (Addr × List V)), xs = [.ref a] ∧ SqL K H a (refsOf ts) ∧ (∀ t ∈ ts, H t.1 = some (.tup t.2)) ∧ ts.length ≤ 1000 ∧
  ∀ p, H p = none → Q (.ref p) (upd H p (.lst (refsOf (ts.mergeSort lenLe))))
def tSL (K : PySem.W.Frag) (t : TA) : TE := fun σ H Q => t σ H fun vs H1 => rSortLen K vs H1 Q
theorem each_refs : ∀ {ts : List (Addr × List V)} {its : List Value}, Vals (refsOf ts) its → PySem.W.EachIs (fun v (t : Addr × List V) => v = Value.ref t.1) its ts
  | [], _, .nil => .nil
  | t :: ts, _, .cons r rs => by
    cases r
    exact .cons rfl (each_refs rs)
theorem vals_each : ∀ {ts : List (Addr × List V)} {its : List Value}, PySem.W.EachIs (fun v (t : Addr × List V) => v = Value.ref t.1) its ts → Vals (refsOf ts) its
  | _, _, .nil => .nil
  | _, _, .cons r rs => .cons r (vals_each rs)
section
variable {X : Cx}
theorem sortLen_run {pins : List (Addr × Obj)} {s : Shared} {σ : L2.St} {H : Hp} {Q : VK} {vs : List V} {us : List Value} (I : Inv X pins σ H s) (r : Vals vs us) (hu : X.A.units + 64 < cLine) (q : rSortLen X.K vs H Q) :
    wpAny (model X.prog X.w) X.A (call (.builtin "sorted") us [(Str.ofString "key", .builtin "len")]) (EP X pins σ Q) X.xe s := by
  obtain ⟨a, ts, rfl, hl, ht, hz, q⟩ := q
  obtain rfl := Vals.ref1 r
  obtain ⟨its, rv, pl, hz'⟩ := I.list hl
  have e := each_refs rv
  have hline : (1000 : Nat) ≤ sizeLine := by decide
  refine PySem.W.sorted_key_data (b := false) (k := fun t : Addr × List V => PyData.int t.2.length) pl.isList e (PySem.W.AllAlike.of fun _ _ => by simp [PySem.W.alike]) (PySem.W.Sortable.others fun _ => ⟨by simp, by simp⟩) (Nat.le_trans hz hline) (fun x _ => ?_) (PyProof.Rows.ksk_s1 _ _) (fun _ => PyProof.Rows.ksk_l1 _ _) (fun _ => PyProof.Rows.ksk_t4 _ _)
    (fun v t hv hm h tk kp => ?_) fun out c h' tk kp fr hD hlen eo => ?_
  · show X.A.units + 2 + 0 < cLine
    omega
  · subst hv
    obtain ⟨its2, r2, p2, z2⟩ := I.tuple (SqT.of (K := X.K) (ht t hm))
    refine len_tuple (p2.keeps kp) (by have e1 := r2.length; have e2 := line63; simp only [List.size_toArray]; omega) ⟨_, _, rfl, fun b o z => z, ?_⟩
    rw [List.size_toArray, ← r2.length]
    exact .int _ _
  · have hm : ts.mergeSort (PySem.W.dataLe false fun t : Addr × List V => PyData.int t.2.length) = ts.mergeSort lenLe := by
      rw [PySem.W.dataLe_int fun t : Addr × List V => (t.2.length : Int)]
      congr 1
      funext x y
      unfold lenLe
      exact decide_eq_decide.mpr (by omega)
    rw [hm] at eo
    have hv := vals_each eo
    refine ⟨.ref _, upd H (s.heap.objs.size + 1) (.lst (refsOf (ts.mergeSort lenLe))), I.laid (t' := tk) kp (Nat.le_succ _) ⟨?_, _, c, hv, hD⟩, rfl, q _ (I.hok.fresh (Nat.le_succ _))⟩
    unfold refsOf
    rw [List.length_map, List.length_mergeSort]
    exact Nat.le_trans hz hline
theorem pe_sortLen {e : Expr} {t : TA} {p p2 pos kpos : Pos} (hu : X.A.units + 64 < cLine) (ha : PA X [e] t) (hg : Gl X "sorted") (hm : X.mg "sorted" = none) (hg2 : Gl X "len") (hm2 : X.mg "len" = none)
    (he : backTo pos (starEach [e] X.env) = (false, eval e X.env) :: backTo pos (starEach [] X.env) := by rfl) (hpl : (backTo pos (starEach [e] X.env)).any (·.1) = false := by rfl) :
    PE X (.Call (.Name "sorted" p) [e] [⟨some "key", .Name "len" p2, kpos⟩] pos) (tSL X.K t) := by
  refine ⟨fun pins s σ H Q I h => ?_⟩
  refine wpAny_Call_Name_kw (ld_blt I hg hm (u := .builtin "sorted") (by decide +kernel) ?_)
  refine PyProof.Rows.callWith_kw (thn (ha.run pos pins s σ H _ I h) fun us s1 ⟨vs, H1, I1, r1, q1⟩ => ?_) he hpl rfl rfl
  show wpAny _ _ (evalAll ((do let v ← eval (.Name "len" p2) X.env; standAt pos; pure v) :: [])) _ _ s1
  refine wpAny_evalAll_cons (wpAny_bind (ld_blt I1 hg2 hm2 PySem.boot_len (wpAny_bind (wpAny_standAt (wpAny_pure ?_)))))
  refine wpAny_evalAll_nil ?_
  exact sortLen_run I1 r1 hu q1
theorem r_SL {K : PySem.W.Frag} {t : TA} {σ : L2.St} {H : Hp} {Q : VK} (h : t σ H fun vs H1 => rSortLen K vs H1 Q) : tSL K t σ H Q := h
end
end Er
namespace Er
open PySem PySem.Spec PyProof.Rows L2
/-! sorted(xs), xs a list of pairs of a length and a tuple of ints -/
structure LP where
  p : Addr
  l : List Int
def LP.enc (x : LP) : PyData := .tuple [.int (x.l.length : Int), .tuple (x.l.map PyData.int)]
def refsL (ts : List LP) : List V := ts.map fun t => V.ref t.p
def rSortLP (K : PySem.W.Frag) : List V → Hp → VK → Prop := fun xs H Q => ∃ (a : Addr) (ts : List LP), xs = [.ref a] ∧ SqL K H a (refsL ts) ∧ (∀ t ∈ ts, Dp K H (.ref t.p) t.enc) ∧ ts.length ≤ 1000 ∧
  ∀ p ts', ts'.Perm ts → ts'.Pairwise (fun x y => x.l.length ≤ y.l.length) → H p = none → Q (.ref p) (upd H p (.lst (refsL ts')))
theorem each_refsL : ∀ {ts : List LP} {its : List Value}, Vals (refsL ts) its → PySem.W.EachIs (fun v (t : LP) => v = Value.ref t.p) its ts
  | [], _, .nil => .nil
  | t :: ts, _, .cons r rs => by
    cases r
    exact .cons rfl (each_refsL rs)
theorem vals_eachL : ∀ {ts : List LP} {its : List Value}, PySem.W.EachIs (fun v (t : LP) => v = Value.ref t.p) its ts → Vals (refsL ts) its
  | _, _, .nil => .nil
  | _, _, .cons r rs => .cons r (vals_eachL rs)
theorem alike_ints : ∀ xs ys : List Int, PySem.W.alikeAll (xs.map PyData.int) (ys.map PyData.int) = true
  | [], _ => by simp [PySem.W.alikeAll]
  | _ :: _, [] => by simp [PySem.W.alikeAll]
  | x :: xs, y :: ys => by
    have := alike_ints xs ys
    simp [PySem.W.alikeAll, PySem.W.alike, this]
theorem alike_enc (x y : LP) : PySem.W.alike x.enc y.enc = true := by
  simp [LP.enc, PySem.W.alike, PySem.W.alikeAll, alike_ints]
theorem okd_enc (x : LP) : Okd 2 x.enc := okd_tup fun d hd => by
  rcases List.mem_cons.mp hd with rfl | hd
  · exact (okd_int _).up (by decide)
  rcases List.mem_cons.mp hd with rfl | hd
  · exact okd_tup (okd_ints _)
  cases hd
theorem le_len {x y : LP} (h : PySem.W.dataLe false LP.enc x y = true) : x.l.length ≤ y.l.length := by
  have h : (!PySem.W.dataLt y.enc x.enc) = true := h
  rcases Nat.lt_or_ge y.l.length x.l.length with hl | hl
  · exfalso
    unfold LP.enc at h
    rw [PySem.W.dataLt_pair (by simp [PySem.W.alike]) (by simp [PySem.W.alike, alike_ints]), PySem.W.dataLt_int] at h
    have e : PyData.eqv (.int (y.l.length : Int)) (.int (x.l.length : Int)) = false := by
      simp only [PyData.eqv, beq_eq_false_iff_ne, ne_eq]
      omega
    rw [e, if_neg Bool.false_ne_true, decide_eq_true (by omega)] at h
    cases h
  · exact hl
section
variable {X : Cx}
theorem c_sortLP (hu : X.A.units + 64 < cLine) : CallR X (.builtin "sorted") (rSortLP X.K) := by
  intro pins s σ H xs us Q I r q
  obtain ⟨a, ts, rfl, hl, hd, hz, q⟩ := q
  obtain rfl := Vals.ref1 r
  obtain ⟨its, rv, pl, hz'⟩ := I.list hl
  have e := each_refsL rv
  have hline : (1000 : Nat) ≤ sizeLine := by decide
  have er : PySem.W.EachIs (fun v (b : LP) => ∃ as, Reads s.heap v b.enc as) its ts := (PySem.W.each_mem e).mono fun v b ⟨h1, h2⟩ => by
    subst h1
    exact Dp.reads I b.enc (.ref b.p) _ (hd b h2) rfl
  refine PySem.W.sorted_data pl.isList e er (PySem.W.AllAlike.of fun x y => alike_enc x y) (PySem.W.Sortable.tuples fun b => ⟨_, _, rfl⟩) (Nat.le_trans hz hline) (fun b _ => ?_) fun out ho eo => ?_
  · have := (okd_enc b).2
    omega
  · have hv := vals_eachL eo
    obtain ⟨ep, hat⟩ := PyProof.Rows.sortedAll_at s.heap its out.toArray
    refine ⟨.ref _, upd H (s.heap.objs.size + 1) (.lst (refsL (ts.mergeSort (PySem.W.dataLe false LP.enc)))), I.laid (t' := s.toks) (fun _ _ => PyProof.Rows.sortedAll_old) (Nat.le_succ _) ⟨?_, _, ep, hv, hat⟩, rfl, q _ _ (List.mergeSort_perm _ _) ?_ (I.hok.fresh (Nat.le_succ _))⟩
    · unfold refsL
      rw [List.length_map, List.length_mergeSort]
      exact Nat.le_trans hz hline
    · exact (PySem.W.sort_pairwise (PySem.W.sortLe_total _ _ _) ts).imp fun {x y} h => le_len h
end
end Er
namespace Er
open PySem PySem.Spec PyProof.Rows L2
/-! for x in e, e a list or a tuple, told when it is read -/
def seqK (K : PySem.W.Frag) (x : V) (H1 : Hp) (R : It → Hp → Prop) : Prop := ∃ a, x = .ref a ∧ (((∃ xs, SqL K H1 a xs) ∧ R (Itl K a) H1) ∨ ((∃ xs, SqT K H1 a xs) ∧ R (Itt K a) H1))
def iSeq (K : PySem.W.Frag) (te : TE) : TI := fun σ H R => te σ H fun x H1 => seqK K x H1 R
section
variable {X : Cx} {tg : Expr}
theorem pi_seq {l : Expr} {te : TE} (he : PE X l te) : PI X tg l (iSeq X.K te) := by
  constructor
  intro pins s σ H R I h
  refine thn (he.run pins s σ H _ I h) fun u s1 hh => ?_
  obtain ⟨x, H1, I1, rx, a, rfl, hx⟩ := hh
  obtain rfl : u = Value.ref a := rx
  rcases hx with ⟨⟨xs, hq⟩, q⟩ | ⟨⟨xs, hq⟩, q⟩
  · obtain ⟨its, _, pl, _⟩ := I1.list hq
    exact wpAny_pyIter_list pl.isList (pi_one (tk := s1.toks) I1 _ (turn_list a _) ⟨_, Heap.get?_push_size _ rfl, rfl, rfl⟩ q)
  · obtain ⟨its, _, pt, _⟩ := I1.tuple hq
    exact wpAny_pyIter_tuple pt (pi_one (tk := s1.toks) I1 _ (turn_tuple a _) ⟨_, Heap.get?_push_size _ rfl, rfl, rfl⟩ q)
theorem r_seqI {K : PySem.W.Frag} {te : TE} {σ : L2.St} {H : Hp} {R : It → Hp → Prop} (h : te σ H fun x H1 => seqK K x H1 R) : iSeq K te σ H R := h
theorem r_seqL {K : PySem.W.Frag} {H : Hp} {R : It → Hp → Prop} {a : Addr} {xs : List V} (h : SqL K H a xs) (q : R (Itl K a) H) : seqK K (.ref a) H R := ⟨a, rfl, .inl ⟨⟨xs, h⟩, q⟩⟩
theorem r_seqT {K : PySem.W.Frag} {H : Hp} {R : It → Hp → Prop} {a : Addr} {xs : List V} (h : SqT K H a xs) (q : R (Itt K a) H) : seqK K (.ref a) H R := ⟨a, rfl, .inr ⟨⟨xs, h⟩, q⟩⟩
end
end Er
namespace Er
open PySem PySem.Spec PyProof.Rows L2
/-! [x for x in xs for y in range(n)] -/
def lc2K (g : TG) (tt : TT) (wi1 : TI) (g1 : TG) (tt1 : TT) (te : TE) (vs vs1 : List Nat) (σ : L2.St) (Q : VK) : It → Hp → Prop := fun J H1 => ∀ D, H1 D = none → ∃ W : Nat → Nat → Hp → Prop, (∃ m, W 0 m (upd H1 D (.lst []))) ∧ ∀ i m H, W i m H →
  (J.stop i H ∧ Q (.ref D) H) ∨ (J.go i H ∧ ∃ Nx : Hp → Prop, (∀ H', Nx H' → ∃ m', m' < m ∧ W (i + 1) m' H') ∧ ∀ x H', J.yld i H x H' → g x (wipe σ vs) H' fun σ2 H2 => wipe σ2 vs = wipe σ vs ∧ tt σ2 H2 fun b H3 =>
    if b = true then wi1 σ2 H3 fun J1 H4 => ∃ W1 : Nat → Nat → Hp → Prop, (∃ m, W1 0 m H4) ∧ ∀ j k H, W1 j k H →
      (J1.stop j H ∧ Nx H) ∨ (J1.go j H ∧ ∃ Nx1 : Hp → Prop, (∀ H', Nx1 H' → ∃ k', k' < k ∧ W1 (j + 1) k' H') ∧ ∀ x H', J1.yld j H x H' → g1 x (wipe σ2 vs1) H' fun σ3 H5 => wipe σ3 vs1 = wipe σ2 vs1 ∧ tt1 σ3 H5 fun b H6 =>
        if b = true then te σ3 H6 fun y H7 => ∃ acc, H7 D = some (.lst acc) ∧ acc.length < sizeLine ∧ Nx1 (upd H7 D (.lst (acc ++ [y]))) else Nx1 H6)
    else Nx H3)
section
variable {K : PySem.W.Frag} {σ : L2.St} {H : Hp} {Q : VK} {wi wi1 : TI} {g g1 : TG} {tt tt1 : TT} {te : TE} {vs vs1 : List Nat}
theorem r_tYesE {QT : Bool → Hp → Prop} (h : QT true H) : tYes σ H QT := h
theorem r_lc2 (h : wi σ H (lc2K g tt wi1 g1 tt1 te vs vs1 σ Q)) : tLc2 wi g tt wi1 g1 tt1 te vs vs1 σ H Q := h
theorem r_lc2R {J : It} {xs : List V} {G : Hp → Prop} {n j j1 : Nat} (w : Walk J xs.length G (YAt xs)) (hG : ∀ H', Same H H' → G H') (hz : xs.length * n ≤ 100000)
    (hw : ∀ x, wipe ((wipe σ vs).set j (some x)) vs = wipe σ vs) (hw1 : ∀ x y, wipe ((wipe ((wipe σ vs).set j (some x)) vs1).set j1 (some y)) vs1 = wipe ((wipe σ vs).set j (some x)) vs1)
    (hwi : ∀ x H' R, Same H H' → R (Itr 0 n) H' → wi1 ((wipe σ vs).set j (some x)) H' R)
    (hel : ∀ x y H' (Q' : VK), Q' x H' → te ((wipe ((wipe σ vs).set j (some x)) vs1).set j1 (some y)) H' Q')
    (q : ∀ p H', H p = none → Same H H' → H' p = some (.lst (xs.flatMap fun x => List.replicate n x)) → Q (.ref p) H') : lc2K (gName j) tYes wi1 (gName j1) tYes te vs vs1 σ Q J H := fun D hD => by
  have h1000 : (100000 : Nat) < sizeLine := by decide
  refine ⟨fun i m H' => m = xs.length - i ∧ i ≤ xs.length ∧ Same H H' ∧ H' D = some (.lst ((xs.take i).flatMap fun x => List.replicate n x)), ⟨xs.length, by simp, Nat.zero_le _, fun b o z => by rw [upd_ne (ne_of_none z hD)]; exact z, by rw [upd_same]; rfl⟩, ?_⟩
  rintro i m H1 ⟨rfl, hi, s1, hl⟩
  rcases Nat.lt_or_ge i xs.length with hlt | hge
  · refine .inr ⟨w.goes i H1 hlt (hG H1 s1), fun H' => Same H H' ∧ H' D = some (.lst ((xs.take (i + 1)).flatMap fun x => List.replicate n x)), fun H' p => ⟨xs.length - (i + 1), by omega, rfl, hlt, p⟩, fun x H2 y => ?_⟩
    obtain ⟨rfl, hx⟩ := w.yields i H1 x H2 hlt (hG H1 s1) y
    have et : (xs.take (i + 1)).flatMap (fun x => List.replicate n x) = (xs.take i).flatMap (fun x => List.replicate n x) ++ List.replicate n x := by
      rw [List.take_add_one, hx, List.flatMap_append]
      simp
    have hlen : ((xs.take i).flatMap fun x => List.replicate n x).length = i * n := by
      rw [List.length_flatMap]
      simp only [List.length_replicate, List.map_const', List.sum_replicate_nat, List.length_take]
      rw [Nat.min_eq_left (by omega)]
    have hb : i * n + n ≤ xs.length * n := by
      have := Nat.mul_le_mul_right n hlt
      rw [Nat.succ_mul] at this
      exact this
    refine ⟨hw x, ?_⟩
    refine r_tYesE ?_
    refine iteT ?_
    refine hwi x H2 _ s1 ?_
    refine ⟨fun jj k H' => k = n - jj ∧ jj ≤ n ∧ Same H H' ∧ H' D = some (.lst ((xs.take i).flatMap (fun x => List.replicate n x) ++ List.replicate jj x)), ⟨n, by simp, Nat.zero_le _, s1, by simpa using hl⟩, ?_⟩
    rintro jj k H3 ⟨rfl, hj, s3, hl3⟩
    rcases Nat.lt_or_ge jj n with hjn | hjn
    · refine .inr ⟨hjn, fun H' => Same H H' ∧ H' D = some (.lst ((xs.take i).flatMap (fun x => List.replicate n x) ++ List.replicate (jj + 1) x)), fun H' p => ⟨n - (jj + 1), by omega, rfl, hjn, p⟩, fun z H4 y => ?_⟩
      obtain ⟨rfl, rfl⟩ := y
      refine ⟨hw1 x _, ?_⟩
      refine r_tYesE ?_
      refine iteT ?_
      refine hel x _ _ _ ⟨_, hl3, ?_, fun b o z => by rw [upd_ne (ne_of_none z hD)]; exact s3 _ _ z, ?_⟩
      · rw [List.length_append, List.length_replicate, hlen]
        omega
      · rw [upd_same, List.append_assoc, List.replicate_succ']
    · have e : jj = n := by omega
      subst e
      exact .inl ⟨hjn, s3, by rw [et]; exact hl3⟩
  · have e : i = xs.length := by omega
    subst e
    rw [List.take_length] at hl
    exact .inl ⟨w.stops H1 (hG H1 s1), q D H1 hD s1 hl⟩
end
end Er
namespace Er
open PySem PySem.Spec PyProof.Rows L2
/-! sorted(xs), xs a list of pairs of a name and a tuple of names -/
structure NP where
  p : Addr
  c : Nat
  l : List Nat
def NP.enc (x : NP) : PyData := .tuple [.int (x.c : Int), .tuple ((x.l.map fun (c : Nat) => (c : Int)).map PyData.int)]
def refsN (ts : List NP) : List V := ts.map fun t => V.ref t.p
def rSortNP (K : PySem.W.Frag) : List V → Hp → VK → Prop := fun xs H Q => ∃ (a : Addr) (ts : List NP), xs = [.ref a] ∧ SqL K H a (refsN ts) ∧ (∀ t ∈ ts, Dp K H (.ref t.p) t.enc) ∧ ts.length ≤ 1000 ∧
  ∀ p ts', ts'.Perm ts → ts'.Pairwise (fun x y => x.c ≤ y.c) → H p = none → Q (.ref p) (upd H p (.lst (refsN ts')))
theorem each_refsN : ∀ {ts : List NP} {its : List Value}, Vals (refsN ts) its → PySem.W.EachIs (fun v (t : NP) => v = Value.ref t.p) its ts
  | [], _, .nil => .nil
  | t :: ts, _, .cons r rs => by
    cases r
    exact .cons rfl (each_refsN rs)
theorem vals_eachN : ∀ {ts : List NP} {its : List Value}, PySem.W.EachIs (fun v (t : NP) => v = Value.ref t.p) its ts → Vals (refsN ts) its
  | _, _, .nil => .nil
  | _, _, .cons r rs => .cons r (vals_eachN rs)
theorem alike_encN (x y : NP) : PySem.W.alike x.enc y.enc = true := by
  simp [NP.enc, PySem.W.alike, PySem.W.alikeAll, alike_ints, -List.map_map]
theorem okd_encN (x : NP) : Okd 2 x.enc := okd_tup fun d hd => by
  rcases List.mem_cons.mp hd with rfl | hd
  · exact (okd_int _).up (by decide)
  rcases List.mem_cons.mp hd with rfl | hd
  · exact okd_tup (okd_ints _)
  cases hd
theorem le_nam {x y : NP} (h : PySem.W.dataLe false NP.enc x y = true) : x.c ≤ y.c := by
  have h : (!PySem.W.dataLt y.enc x.enc) = true := h
  rcases Nat.lt_or_ge y.c x.c with hl | hl
  · exfalso
    unfold NP.enc at h
    rw [PySem.W.dataLt_pair (by simp [PySem.W.alike]) (by simp [PySem.W.alike, alike_ints, -List.map_map]), PySem.W.dataLt_int] at h
    have e : PyData.eqv (.int (y.c : Int)) (.int (x.c : Int)) = false := by
      simp only [PyData.eqv, beq_eq_false_iff_ne, ne_eq]
      omega
    rw [e, if_neg Bool.false_ne_true, decide_eq_true (by omega)] at h
    cases h
  · exact hl
section
variable {X : Cx}
theorem c_sortNP (hu : X.A.units + 64 < cLine) : CallR X (.builtin "sorted") (rSortNP X.K) := by
  intro pins s σ H xs us Q I r q
  obtain ⟨a, ts, rfl, hl, hd, hz, q⟩ := q
  obtain rfl := Vals.ref1 r
  obtain ⟨its, rv, pl, hz'⟩ := I.list hl
  have e := each_refsN rv
  have hline : (1000 : Nat) ≤ sizeLine := by decide
  have er : PySem.W.EachIs (fun v (b : NP) => ∃ as, Reads s.heap v b.enc as) its ts := (PySem.W.each_mem e).mono fun v b ⟨h1, h2⟩ => by
    subst h1
    exact Dp.reads I b.enc (.ref b.p) _ (hd b h2) rfl
  refine PySem.W.sorted_data pl.isList e er (PySem.W.AllAlike.of fun x y => alike_encN x y) (PySem.W.Sortable.tuples fun b => ⟨_, _, rfl⟩) (Nat.le_trans hz hline) (fun b _ => ?_) fun out ho eo => ?_
  · have := (okd_encN b).2
    omega
  · have hv := vals_eachN eo
    obtain ⟨ep, hat⟩ := PyProof.Rows.sortedAll_at s.heap its out.toArray
    refine ⟨.ref _, upd H (s.heap.objs.size + 1) (.lst (refsN (ts.mergeSort (PySem.W.dataLe false NP.enc)))), I.laid (t' := s.toks) (fun _ _ => PyProof.Rows.sortedAll_old) (Nat.le_succ _) ⟨?_, _, ep, hv, hat⟩, rfl, q _ _ (List.mergeSort_perm _ _) ?_ (I.hok.fresh (Nat.le_succ _))⟩
    · unfold refsN
      rw [List.length_map, List.length_mergeSort]
      exact Nat.le_trans hz hline
    · exact (PySem.W.sort_pairwise (PySem.W.sortLe_total _ _ _) ts).imp fun {x y} h => le_nam h
end
end Er
/-! for .. in a generator def: its body may yield -/
namespace Er
open PySem PySem.Spec PyProof.Rows L2 GenW
section
variable {M : Model} {A : Around} {R : GenEnd} {Y : Protocol} {n : Nat} {s₀ s : Shared} {c : Code} {fs : List Frame} {env : Env}
/-- the head of the loop: what is walked, its iterator -/
theorem segF_head {target iter : Expr} {body : List Stmt} {pos : Pos} {K : Flow → Sem PySem.Fin} {J : Value → Sem PySem.Fin} {gd : Bool → Bool} {lv : List Value → List Value} (hs : ∀ x, foldedSetIterable iter env x = pure x)
    (h : wpAny M (A.over c fs) (eval iter env) (fun v s1 => wpAny M (A.over c fs) (pyIter v) (fun it s2 => ∀ p, Seg M A R Y n s₀ (.forLoop target it body [] env) (M.den (.forLoop target it body [] env))
        (.ret (fun r => ((match r with | .ok f => (.pure f : Sem Flow) | .error e => .raise e).onRaise (cameBack env)).wrap K J gd lv) none (gd false) (lv []) c p [] :: fs) s2)
      (fun x s' => Seg M A R Y n s₀ c (J x) fs s') s1) (fun x s' => Seg M A R Y n s₀ c (J x) fs s') s) :
    Seg M A R Y n s₀ c ((exec (.For target iter body [] pos) env).wrap K J gd lv) fs s := by
  rw [exec_For]
  refine seg_bind_wrap (wpAny_standAt ?_)
  refine seg_bind_wrap (wpAny_mono h (fun v s1 h1 => ?_) fun _ _ z => z)
  refine seg_bind_wrap (wpAny_of_eq (hs v) ?_)
  refine seg_bind_wrap (wpAny_standAt ?_)
  refine seg_bind_wrap (wpAny_holding (wpAny_mono h1 (fun it s2 h2 => ?_) fun _ _ z => z))
  exact seg_call h2
end
section
variable {prog : Program} {w : World} {A : Around} {R : GenEnd} {Y : Protocol} {n : Nat} {s₀ : Shared} {fs : List Frame} {s : Shared} {env : Env}
def passOn (env : Env) (x : Value) : Sem PySem.Fin := (do noteFrame x env; theTreesLotGoes x : Sem Unit).wrap (fun _ => .raise x) .raise id id
/-- one turn -/
theorem segF_turn {target : Expr} {it : Value} {body : List Stmt}
    (h : wpAny (model prog w) (A.over (.forLoop target it body [] env) fs) (pyNext it) (fun r s1 => match r with
        | none => Seg (model prog w) A R Y n s₀ (.block [] env) ((model prog w).den (.block [] env)) fs s1
        | some v => wpAny (model prog w) (A.over (.forLoop target it body [] env) fs) (letOwnedTupleGo target it v) (fun _ s2 => wpAny (model prog w) (A.over (.forLoop target it body [] env) fs) (assign target env v)
            (fun _ s3 => Seg (model prog w) A R Y n s₀ (.forLoop target it body [] env) ((execs body env).wrap (fun f => match f with
              | .next | .cont => .pure (.again (.forLoop target it body [] env))
              | .brk => .pure (.done .next)
              | .ret v => .pure (.done (.ret v))) (passOn env) id id) fs s3)
            (fun x s' => Seg (model prog w) A R Y n s₀ (.forLoop target it body [] env) (passOn env x) fs s') s2) (fun x s' => Seg (model prog w) A R Y n s₀ (.forLoop target it body [] env) (passOn env x) fs s') s1)
      (fun x s' => Seg (model prog w) A R Y n s₀ (.forLoop target it body [] env) (passOn env x) fs s') s) :
    Seg (model prog w) A R Y n s₀ (.forLoop target it body [] env) ((model prog w).den (.forLoop target it body [] env)) fs s := by
  show Seg _ A R Y n s₀ _ ((forTurn target it body [] env).onRaise (fun x => do noteFrame x env; theTreesLotGoes x)) fs s
  have eH : (fun e : Value => ((do noteFrame e env; theTreesLotGoes e : Sem Unit).bind fun _ => (Sem.raise e : Sem PySem.Fin))) = passOn env := by
    funext e
    unfold passOn
    rw [Sem.bind_eq_wrap]
  rw [Sem.onRaise_eq_wrap]
  unfold forTurn
  have go : ∀ {t : Sem PySem.Fin} {s' : Shared}, Seg (model prog w) A R Y n s₀ (.forLoop target it body [] env) (t.wrap .pure (passOn env) id id) fs s' → Seg (model prog w) A R Y n s₀ (.forLoop target it body [] env) (t.wrap .pure (fun e : Value => ((do noteFrame e env; theTreesLotGoes e : Sem Unit).bind fun _ => (Sem.raise e : Sem PySem.Fin))) id id) fs s' := fun {t s'} z => by
    rw [eH]
    exact z
  refine go ?_
  refine seg_bind_wrap (wpAny_standAt ?_)
  refine seg_bind_wrap (wpAny_onRaise (wpAny_mono h (fun r s1 h1 => ?_) fun _ _ z => wpAny_standAt z))
  cases r with
  | none => exact seg_again rfl h1
  | some v =>
    refine seg_bind_wrap (wpAny_mono h1 (fun _ s2 h2 => ?_) fun _ _ z => z)
    refine seg_bind_wrap (wpAny_mono h2 (fun _ s3 h3 => ?_) fun _ _ z => z)
    rw [Sem.bind_eq_wrap', Sem.wrap_wrap]
    have e2 := Sem.wrap_congr (execs body env) (fun g => id (id g)) (fun l => id (id l)) (K := fun a : Flow => Sem.wrap Sem.pure (passOn env) id id (match a with
          | Flow.next => again (Code.forLoop target it body [] env)
          | Flow.cont => again (Code.forLoop target it body [] env)
          | Flow.brk => pure (PySem.Fin.done Flow.next)
          | Flow.ret v => pure (PySem.Fin.done (Flow.ret v)))) (H := fun e : Value => Sem.wrap Sem.pure (passOn env) id id (Sem.raise e)) (K' := fun f => match f with
              | .next | .cont => .pure (.again (.forLoop target it body [] env))
              | .brk => .pure (.done .next)
              | .ret v => .pure (.done (.ret v))) (H' := passOn env) (fun f => by cases f <;> rfl) (fun e => rfl)
    exact (congrArg (fun t => Seg (model prog w) A R Y n s₀ (Code.forLoop target it body [] env) t fs s3) e2).mpr h3
end
end Er
namespace Er
open PySem PySem.Spec PyProof.Rows L2 GenW
/-- for: the body may yield -/
def tGFor (wi : TI) (g : TG) (tb : TGn) : TGn := fun D ys σ H => wi σ H fun J H1 => ∃ W : Nat → Nat → List V → L2.St → Hp → Prop, (∃ m, W 0 m ys σ H1) ∧ ∀ i m ys σ H, W i m ys σ H →
  (J.stop i H ∧ D.nx ys σ H) ∨ (J.go i H ∧ ∃ N : List V → L2.St → Hp → Prop, (∀ ys' σ' H', N ys' σ' H' → ∃ m', m' < m ∧ W (i + 1) m' ys' σ' H') ∧ ∀ x H', J.yld i H x H' → g x σ H' fun σ2 H2 => tb { D with nx := N, ct := N, bk := D.nx } ys σ2 H2)
theorem gs_for {X : Cx} {tg iter : Expr} {body : List Stmt} {pos : Pos} {wi : TI} {g : TG} {tb : TGn} (hp : PassesOwn (model X.prog X.w) X.A X.env X.xe) (hc : X.calm = true) (hi : PI X tg iter wi) (hg : PG X tg g) (hb : GSs X body tb)
    (hs : ∀ x, foldedSetIterable iter X.env x = pure x := by intro _; rfl) : GS X (.For tg iter body [] pos) (tGFor wi g tb) := by
  refine ⟨fun A S ip R n ys s₀ c fs K J gd lv s σ H D gc hn k hI ht => ?_⟩
  obtain ⟨acc, cc, r, I⟩ := hI
  refine segF_head hs ?_
  rw [gc.over]
  refine wpAny_mono (hi.run _ s σ H _ I ht) (fun v s1 h1 => ?_) fun x s' hx => k.exc n s₀ x s' hx
  refine wpAny_mono h1 (fun itv s2 h2 => ?_) fun x s' hx => k.exc n s₀ x s' hx
  intro p
  obtain ⟨it, fp, tn, Jt, H2, e, I2, T, st2, f2, W, ⟨m0, w0⟩, turn⟩ := h2
  subst e
  have gl := fun (kk : Result → Sem PySem.Fin) => gc_loop (k := kk) (c' := .forLoop tg (.ref it) body [] X.env) (l := lv []) (kp := []) (p := p) gc rfl rfl
  have fpS : ∀ b ∈ fp, S ≠ b := fun b hbf => (f2 b hbf).2.2.2.2.2 (S, lstObj acc cc) (List.mem_append_right _ (List.mem_cons_self ..))
  have fpok : ∀ (acc' : Array Value) (c' : Nat) {H' : Hp}, (∀ b ∈ fp, H' b = none) → ∀ b ∈ fp, FpOk X ((S, lstObj acc' c') :: ip) H' b := fun acc' c' H' hn b hbf => by
    obtain ⟨_, a2, a3, a4, a5, a6⟩ := f2 b hbf
    refine ⟨hn b hbf, a2, a3, a4, a5, fun q hq => ?_⟩
    rcases List.mem_append.mp hq with hq | hq
    · exact a6 q (List.mem_append_left _ hq)
    · rcases List.mem_cons.mp hq with hq | hq
      · rw [hq]; exact fpS b hbf
      · exact a6 q (List.mem_append_right _ (List.mem_cons_of_mem _ hq))
  have ee : ∀ (n : Nat) (s₀ : Shared) (x : Value) (s' : Shared), X.xe x s' → Seg (model X.prog X.w) A R (GY X S) n s₀ (.forLoop tg (.ref it) body [] X.env) (passOn X.env x)
      (.ret (fun r => ((match r with | .ok f => (.pure f : Sem Flow) | .error e => .raise e).onRaise (cameBack X.env)).wrap K J gd lv) none (gd false) (lv []) c p [] :: fs) s' := fun n s₀ x s' hx => by
    unfold passOn
    refine seg_wrap ?_
    rw [(gl _).over]
    refine wpAny_bind (wpAny_mono (hp x s' hx) (fun _ s'' hcb => wpAny_theTreesLotGoes ?_) fun y s'' hcb => ?_)
    · exact seg_leaf (.error x) (seg_cameBack gc k hcb)
    · exact seg_leaf (.error y) (seg_cameBack gc k hcb)
  have loop : ∀ (m i n : Nat) (ys : List V) (s₀ s : Shared) (σ : L2.St) (H : Hp), n + ys.length = sizeLine → W i m ys σ H → GI X S ip ys σ H s → tn i s.heap → (∀ b ∈ fp, H b = none) →
      Seg (model X.prog X.w) A R (GY X S) n s₀ (.forLoop tg (.ref it) body [] X.env) ((model X.prog X.w).den (.forLoop tg (.ref it) body [] X.env))
        (.ret (fun r => ((match r with | .ok f => (.pure f : Sem Flow) | .error e => .raise e).onRaise (cameBack X.env)).wrap K J gd lv) none (gd false) (lv []) c p [] :: fs) s := by
    intro m
    induction m using Nat.strongRecOn with
    | ind m ih =>
      intro i n ys s₀ s σ H hn w hI st fr
      obtain ⟨acc3, c3, r3, I3⟩ := hI
      refine segF_turn ?_
      rw [(gl _).over]
      rcases turn i m ys σ H w with ⟨stop, q⟩ | ⟨go, N, hN, step⟩
      · refine wpAny_mono (T.done X rfl rfl rfl hc i _ s σ H X.xe I3 (fpok acc3 c3 fr) st stop) (fun r s4 h4 => ?_) fun x s' hx => ee n s₀ x s' hx
        obtain ⟨hr, I4⟩ := h4
        subst hr
        exact seg_leaf (.ok .next) (k.ok n ys s₀ s4 .next hn ⟨σ, H, ⟨acc3, c3, r3, I4⟩, q⟩)
      · refine wpAny_mono (T.item X rfl rfl rfl hc i _ s σ H X.xe I3 (fpok acc3 c3 fr) st go) (fun r s4 h4 => ?_) fun x s' hx => ee n s₀ x s' hx
        obtain ⟨u, hr, h4⟩ := h4
        subst hr
        refine wpAny_mono h4 (fun _ s5 h5 => ?_) fun x s' hx => ee n s₀ x s' hx
        obtain ⟨x, H5, I5, r5, y5, st5, fr5⟩ := h5
        have I5' := I5.pinned (fpok acc3 c3 fr5) (T.obj _ _ st5)
        refine wpAny_mono (hg.run _ s5 σ H5 x u _ I5' r5 (step x H5 y5)) (fun _ s6 h6 => ?_) fun x s' hx => ee n s₀ x s' hx
        obtain ⟨σ6, H6, I6, q6⟩ := h6
        have hip : ∀ q ∈ ip ++ pinsAt fp s5.heap, q.1 ≠ S := fun q hq => by
          rcases List.mem_append.mp hq with hq | hq
          · exact gc.ip q hq
          · exact Ne.symm (fpS q.1 (of_pinsAt hq).1)
        have back : ∀ {ys' : List V} {σ7 : L2.St} {H7 : Hp} {s7 : Shared}, GI X S (ip ++ pinsAt fp s5.heap) ys' σ7 H7 s7 → GI X S ip ys' σ7 H7 s7 ∧ tn (i + 1) s7.heap ∧ ∀ b ∈ fp, H7 b = none := fun {ys' σ7 H7 s7} h => by
          obtain ⟨acc7, c7, r7, I7⟩ := h
          have pin7 : ∀ b ∈ fp, ∀ o, s5.heap.get? b = some o → s7.heap.get? b = some o ∧ H7 b = none := fun b hbf o eo => by
            obtain ⟨z1, z2, _⟩ := I7.pin (b, o) (List.mem_append_right _ (List.mem_cons_of_mem _ (List.mem_append_right _ (mem_pinsAt hbf eo))))
            exact ⟨z1, z2⟩
          refine ⟨⟨acc7, c7, r7, Inv.unpinned (pl := pinsAt fp s5.heap) I7⟩, T.keep _ _ _ st5 fun b hbf o eo => (pin7 b hbf o eo).1, fun b hbf => ?_⟩
          obtain ⟨o, eo, _⟩ := T.obj _ _ st5 b hbf
          exact (pin7 b hbf o eo).2
        refine hb.run A S (ip ++ pinsAt fp s5.heap) R n ys s₀ _ _ _ _ id id s6 σ6 H6 { D with nx := N, ct := N, bk := D.nx } ⟨gc.pn, hip, gc.apart, (gl _).over, (gl _).split, (gl _).guard, rfl⟩ hn ⟨fun n' ys' s₀' s7 f hn' h7 => ?_, fun n' s₀' x s7 hx => ee n' s₀' x s7 hx⟩ ⟨acc3, c3, r3, I6⟩ q6
        cases f with
        | next =>
          obtain ⟨σ7, H7, I7, n7⟩ := h7
          obtain ⟨m', hm, w7⟩ := hN ys' σ7 H7 n7
          obtain ⟨g7, t7, f7⟩ := back I7
          exact seg_again rfl (ih m' hm (i + 1) n' ys' s₀' s7 σ7 H7 hn' w7 g7 t7 f7)
        | cont =>
          obtain ⟨σ7, H7, I7, n7⟩ := h7
          obtain ⟨m', hm, w7⟩ := hN ys' σ7 H7 n7
          obtain ⟨g7, t7, f7⟩ := back I7
          exact seg_again rfl (ih m' hm (i + 1) n' ys' s₀' s7 σ7 H7 hn' w7 g7 t7 f7)
        | brk =>
          obtain ⟨σ7, H7, I7, q7⟩ := h7
          exact seg_leaf (.ok .next) (k.ok n' ys' s₀' s7 .next hn' ⟨σ7, H7, (back I7).1, q7⟩)
        | ret v =>
          obtain ⟨x7, σ7, H7, I7, r7, q7⟩ := h7
          exact seg_leaf (.ok (.ret v)) (k.ok n' ys' s₀' s7 (.ret v) hn' ⟨x7, σ7, H7, (back I7).1, r7, q7⟩)
  exact loop m0 0 n ys s₀ s2 σ H2 hn w0 ⟨acc, cc, r, I2⟩ st2 fun b hbf => (f2 b hbf).1
end Er
namespace Er
open PySem PySem.Spec PyProof.Rows L2
/-! a list or a tuple: xs[i], the targets x, y, sorted(.., key=len) -/
def SqX (K : PySem.W.Frag) (H : Hp) (a : Addr) (xs : List V) : Prop := SqL K H a xs ∨ SqT K H a xs
def rIxA (K : PySem.W.Frag) : R2 := fun x y H Q => rIxL K x y H Q ∨ rIxT K x y H Q
theorem ix_any {X : Cx} : IxR X (rIxA X.K) := by
  intro value slice pins s σ H x y v u Q I r1 r2 h e
  rcases h with h | h
  · exact ix_list value slice pins s σ H x y v u Q I r1 r2 h e
  · exact ix_tup value slice pins s σ H x y v u Q I r1 r2 h e
theorem ixA (K : PySem.W.Frag) {X : Cx} (e : X.K = K := by rfl) : IxR X (rIxA K) := by subst e; exact ix_any
theorem r_ixA {K : PySem.W.Frag} {H : Hp} {Q : VK} {p : Addr} {xs : List V} {k : Int} {v : V} (h : SqX K H p xs) (e : atI xs k = some v) (q : Q v H) : rIxA K (.ref p) (.int k) H Q := h.elim (fun h => .inl (r_ixL h e q)) fun h => .inr (r_ixT h e q)
def gAny (K : PySem.W.Frag) (n : Nat) (t : TGs) : TG := fun v σ H Q => ∃ a xs, v = .ref a ∧ SqX K H a xs ∧ xs.length = n ∧ t xs σ H Q
theorem pg_any {X : Cx} {es : List Expr} {k : Nat} {t : TGs} {n : Nat} {pos : Pos} (hc : X.calm = true) (h : PGs X es t) (hn : (assignEach es X.env).length = n := by rfl) (hst : (assignEach es X.env).findIdx? (·.1) = none := by rfl) : PG X (.Tuple es k pos) (gAny X.K n t) := by
  refine ⟨fun pins s σ H v u Q I r hw => ?_⟩
  obtain ⟨a, xs, e, hq, hl, hw⟩ := hw
  rcases hq with hq | hq
  · exact (pg_lst (k := k) (pos := pos) hc h hn hst).run pins s σ H v u Q I r ⟨a, xs, e, hq, hl, hw⟩
  · exact (pg_tup (k := k) (pos := pos) hc h hn hst).run pins s σ H v u Q I r ⟨a, xs, e, hq, hl, hw⟩
theorem r_gA {K : PySem.W.Frag} {σ : L2.St} {H : Hp} {n : Nat} {t : TGs} {a : Addr} {xs : List V} {k : L2.St → Hp → Prop} (h : SqX K H a xs) (l : xs.length = n) (q : t xs σ H k) : gAny K n t (.ref a) σ H k := ⟨a, xs, rfl, h, l, q⟩
def rSortLenA (K : PySem.W.Frag) : List V → Hp → VK → Prop := fun xs H Q => ∃ (a : Addr) (ts : List (Addr × List V)), xs = [.ref a] ∧ SqL K H a (refsOf ts) ∧ (∀ t ∈ ts, SqX K H t.1 t.2) ∧ ts.length ≤ 1000 ∧
  ∀ p, H p = none → Q (.ref p) (upd H p (.lst (refsOf (ts.mergeSort lenLe))))
def tSLA (K : PySem.W.Frag) (t : TA) : TE := fun σ H Q => t σ H fun vs H1 => rSortLenA K vs H1 Q
theorem r_SLA {K : PySem.W.Frag} {t : TA} {σ : L2.St} {H : Hp} {Q : VK} (h : t σ H fun vs H1 => rSortLenA K vs H1 Q) : tSLA K t σ H Q := h
section
variable {X : Cx}
theorem sortLenA_run {pins : List (Addr × Obj)} {s : Shared} {σ : L2.St} {H : Hp} {Q : VK} {vs : List V} {us : List Value} (I : Inv X pins σ H s) (r : Vals vs us) (hu : X.A.units + 64 < cLine) (q : rSortLenA X.K vs H Q) :
    wpAny (model X.prog X.w) X.A (call (.builtin "sorted") us [(Str.ofString "key", .builtin "len")]) (EP X pins σ Q) X.xe s := by
  obtain ⟨a, ts, rfl, hl, ht, hz, q⟩ := q
  obtain rfl := Vals.ref1 r
  obtain ⟨its, rv, pl, hz'⟩ := I.list hl
  have e := each_refs rv
  have hline : (1000 : Nat) ≤ sizeLine := by decide
  refine PySem.W.sorted_key_data (b := false) (k := fun t : Addr × List V => PyData.int t.2.length) pl.isList e (PySem.W.AllAlike.of fun _ _ => by simp [PySem.W.alike]) (PySem.W.Sortable.others fun _ => ⟨by simp, by simp⟩) (Nat.le_trans hz hline) (fun x _ => ?_) (PyProof.Rows.ksk_s1 _ _) (fun _ => PyProof.Rows.ksk_l1 _ _) (fun _ => PyProof.Rows.ksk_t4 _ _)
    (fun v t hv hm h tk kp => ?_) fun out c h' tk kp fr hD hlen eo => ?_
  · show X.A.units + 2 + 0 < cLine
    omega
  · subst hv
    rcases ht t hm with h1 | h1
    · obtain ⟨its2, r2, p2, z2⟩ := I.list h1
      obtain ⟨o2, ho2, ro2⟩ := p2.isList
      refine PyProof.Rows.len_list (l := t.1) (items := its2.toArray) ⟨o2, kp _ _ ho2, ro2⟩ (by have e1 := r2.length; have e2 := line63; simp only [List.size_toArray]; omega) ⟨_, _, rfl, fun b o z => z, ?_⟩
      rw [List.size_toArray, ← r2.length]
      exact .int _ _
    · obtain ⟨its2, r2, p2, z2⟩ := I.tuple h1
      refine len_tuple (p2.keeps kp) (by have e1 := r2.length; have e2 := line63; simp only [List.size_toArray]; omega) ⟨_, _, rfl, fun b o z => z, ?_⟩
      rw [List.size_toArray, ← r2.length]
      exact .int _ _
  · have hm : ts.mergeSort (PySem.W.dataLe false fun t : Addr × List V => PyData.int t.2.length) = ts.mergeSort lenLe := by
      rw [PySem.W.dataLe_int fun t : Addr × List V => (t.2.length : Int)]
      congr 1
      funext x y
      unfold lenLe
      exact decide_eq_decide.mpr (by omega)
    rw [hm] at eo
    have hv := vals_each eo
    refine ⟨.ref _, upd H (s.heap.objs.size + 1) (.lst (refsOf (ts.mergeSort lenLe))), I.laid (t' := tk) kp (Nat.le_succ _) ⟨?_, _, c, hv, hD⟩, rfl, q _ (I.hok.fresh (Nat.le_succ _))⟩
    unfold refsOf
    rw [List.length_map, List.length_mergeSort]
    exact Nat.le_trans hz hline
theorem pe_sortLenA {e : Expr} {t : TA} {p p2 pos kpos : Pos} (hu : X.A.units + 64 < cLine) (ha : PA X [e] t) (hg : Gl X "sorted") (hm : X.mg "sorted" = none) (hg2 : Gl X "len") (hm2 : X.mg "len" = none)
    (he : backTo pos (starEach [e] X.env) = (false, eval e X.env) :: backTo pos (starEach [] X.env) := by rfl) (hpl : (backTo pos (starEach [e] X.env)).any (·.1) = false := by rfl) :
    PE X (.Call (.Name "sorted" p) [e] [⟨some "key", .Name "len" p2, kpos⟩] pos) (tSLA X.K t) := by
  refine ⟨fun pins s σ H Q I h => ?_⟩
  refine wpAny_Call_Name_kw (ld_blt I hg hm (u := .builtin "sorted") (by decide +kernel) ?_)
  refine PyProof.Rows.callWith_kw (thn (ha.run pos pins s σ H _ I h) fun us s1 ⟨vs, H1, I1, r1, q1⟩ => ?_) he hpl rfl rfl
  show wpAny _ _ (evalAll ((do let v ← eval (.Name "len" p2) X.env; standAt pos; pure v) :: [])) _ _ s1
  refine wpAny_evalAll_cons (wpAny_bind (ld_blt I1 hg2 hm2 PySem.boot_len (wpAny_bind (wpAny_standAt (wpAny_pure ?_)))))
  refine wpAny_evalAll_nil ?_
  exact sortLenA_run I1 r1 hu q1
/-! sorted(xs), xs a list of things that read as data -/
def refsD (ts : List (Addr × PyData)) : List V := ts.map fun t => V.ref t.1
def datLe : Addr × PyData → Addr × PyData → Bool := PySem.W.dataLe false fun t : Addr × PyData => t.2
def rSortDat (K : PySem.W.Frag) : List V → Hp → VK → Prop := fun xs H Q => ∃ (a : Addr) (ts : List (Addr × PyData)), xs = [.ref a] ∧ SqL K H a (refsD ts) ∧ (∀ t ∈ ts, Dp K H (.ref t.1) t.2) ∧ PySem.W.AllAlike (ts.map (·.2)) ∧ (∀ t ∈ ts, ∃ x r, t.2 = .tuple (x :: r)) ∧ (∀ t ∈ ts, t.2.depth ≤ 16) ∧ ts.length ≤ 1000 ∧
  ∀ p, H p = none → Q (.ref p) (upd H p (.lst (refsD (ts.mergeSort datLe))))
theorem each_refsD : ∀ {ts : List (Addr × PyData)} {its : List Value}, Vals (refsD ts) its → PySem.W.EachIs (fun v (t : Addr × PyData) => v = Value.ref t.1) its ts
  | [], _, .nil => .nil
  | t :: ts, _, .cons r rs => by
    cases r
    exact .cons rfl (each_refsD rs)
theorem vals_eachD : ∀ {ts : List (Addr × PyData)} {its : List Value}, PySem.W.EachIs (fun v (t : Addr × PyData) => v = Value.ref t.1) its ts → Vals (refsD ts) its
  | _, _, .nil => .nil
  | _, _, .cons r rs => .cons r (vals_eachD rs)
theorem c_sortDat (hu : X.A.units + 64 < cLine) : CallR X (.builtin "sorted") (rSortDat X.K) := by
  intro pins s σ H xs us Q I r q
  obtain ⟨a, ts, rfl, hl, hd, hal, htp, hdp, hz, q⟩ := q
  obtain rfl := Vals.ref1 r
  obtain ⟨its, rv, pl, hz'⟩ := I.list hl
  have e := each_refsD rv
  have hline : (1000 : Nat) ≤ sizeLine := by decide
  have er : PySem.W.EachIs (fun v (b : Addr × PyData) => ∃ as, Reads s.heap v b.2 as) its ts := (PySem.W.each_mem e).mono fun v b ⟨h1, h2⟩ => by
    subst h1
    exact Dp.reads I b.2 (.ref b.1) _ (hd b h2) rfl
  refine PySem.W.sorted_data (enc := fun t : Addr × PyData => t.2) pl.isList e er hal (.inl fun d hd => ?_) (Nat.le_trans hz hline) (fun b hb => ?_) fun out ho eo => ?_
  · obtain ⟨t, ht, rfl⟩ := List.mem_map.mp hd
    exact htp t ht
  · have := hdp b hb
    show X.A.units + 2 + b.2.depth < cLine
    omega
  · have hv := vals_eachD eo
    obtain ⟨ep, hat⟩ := PyProof.Rows.sortedAll_at s.heap its out.toArray
    refine ⟨.ref _, upd H (s.heap.objs.size + 1) (.lst (refsD (ts.mergeSort datLe))), I.laid (t' := s.toks) (fun _ _ => PyProof.Rows.sortedAll_old) (Nat.le_succ _) ⟨?_, _, ep, hv, hat⟩, rfl, q _ (I.hok.fresh (Nat.le_succ _))⟩
    unfold refsD
    rw [List.length_map, List.length_mergeSort]
    exact Nat.le_trans hz hline
end
/-- the data in order hang on the data alone -/
theorem sort_dat (ts : List (Addr × PyData)) : (ts.mergeSort datLe).map (·.2) = (ts.map (·.2)).mergeSort (PySem.W.dataLe false id) := List.map_mergeSort fun a _ b _ => rfl
/-! a generator def of the program, and list(f(e)) -/
def Gok (P : Program) (w : World) (K : PySem.W.Frag) (mg : Str → Option Value) (base : Heap) (k : Nat) (x : Str) (ps : List Str) (sp : SpG) : Prop :=
  ∃ f fd, mg x = some (.ref f) ∧ PySem.W.keepIn K (.ref f) = true ∧ Binds K fd ps [] ∧ GFn P w K mg base k f fd ps sp
/-- what leaves it: one of these classes, and the rest -/
def Of (Cs : List Addr) (E : XK) : XK := fun c d H => (∃ C ∈ Cs, c = .ref C) ∧ E c d H
theorem pass_of {X : Cx} {Cs : List Addr} {E : XK} (h : Passes (CX X.prog X.w) X E) : Passes (CX X.prog X.w) X (Of Cs E) := fun pins σ H s e s' I z => by
  obtain ⟨a, B, H', cls, d, rfl, z1, z2, z3, z4, z5, z6, z7⟩ := z
  exact h pins σ H s _ s' I ⟨a, B, H', cls, d, rfl, z1, z2, z3, z4, z5, z6, z7.2⟩
theorem noStop_of {K : PySem.W.Frag} {Cs : List Addr} {E : XK} (h : ∀ C ∈ Cs, PySem.W.subIn K (.ref C) (.type "StopIteration") = some false) : NoStop K (Of Cs E) := fun cls d H z => by
  obtain ⟨⟨C, hC, rfl⟩, _⟩ := z
  exact h C hC
section
variable {X : Cx} {k : Nat} {x : Str} {ps : List Str} {sp : SpG} {p p2 pos pos2 : Pos} {e : Expr} {es : List Expr} {t : TA} {W : WX}
theorem pe_lg (D : Gok X.prog X.w X.K X.mg X.base k x ps sp) (hr : Room (k + 3) X.A) (ha : PA X (e :: es) t) (ml : X.mg "list" = none) (hg : Gl X x := by rfl) (hgl : Gl X "list" := by rfl) (hdb : (x == ("__debug__" : Str)) = false := by decide) (he : starEach (e :: es) X.env = (false, eval e X.env) :: starEach es X.env := by rfl)
    (hpl : (backTo pos2 (starEach es X.env)).any (·.1) = false := by rfl) (he2 : starEach [.Call (.Name x p2) (e :: es) [] pos2] X.env = (false, eval (.Call (.Name x p2) (e :: es) [] pos2) X.env) :: starEach [] X.env := by rfl) :
    PE X (.Call (.Name "list" p) [.Call (.Name x p2) (e :: es) [] pos2] [] pos) (tListG (tCallG sp [] E0 t)) := by
  obtain ⟨f, fd, hm, kp, b, F⟩ := D
  exact pe_listG (pgen_call F (hr.mono (by omega)) hg hm kp b .nil ha hdb he hpl) passL (fun cls d H z => z.elim) hr hgl ml (by decide +kernel) (by decide) (by decide) he2
theorem pe_lgT (D : Gok X.prog X.w X.K X.mg X.base k x ps sp) (hr : Room (k + 3) X.A) (n : Nat) (tk : Takes X W) (Cs : List Addr) (hs : ∀ C ∈ Cs, PySem.W.subIn X.K (.ref C) (.type "StopIteration") = some false) (ha : PA X (e :: es) t) (ml : X.mg "list" = none) (hg : Gl X x := by rfl) (hgl : Gl X "list" := by rfl) (hdb : (x == ("__debug__" : Str)) = false := by decide) (he : starEach (e :: es) X.env = (false, eval e X.env) :: starEach es X.env := by rfl)
    (hpl : (backTo pos2 (starEach es X.env)).any (·.1) = false := by rfl) (he2 : starEach [.Call (.Name x p2) (e :: es) [] pos2] X.env = (false, eval (.Call (.Name x p2) (e :: es) [] pos2) X.env) :: starEach [] X.env := by rfl) (hn : X.N.length = n := by rfl) :
    PE X (.Call (.Name "list" p) [.Call (.Name x p2) (e :: es) [] pos2] [] pos) (tListG (tCallG sp [] (Of Cs (allW n W)) t)) := by
  subst hn
  obtain ⟨f, fd, hm, kp, b, F⟩ := D
  exact pe_listG (pgen_call F (hr.mono (by omega)) hg hm kp b .nil ha hdb he hpl) (pass_of (passAll tk)) (noStop_of hs) hr hgl ml (by decide +kernel) (by decide) (by decide) he2
theorem r_lg {tg : TGen} {σ : L2.St} {H : Hp} {Q : VK} (h : tg σ H fun out H2 => ∀ p, H2 p = none → Q (.ref p) (upd H2 p (.lst out))) : tListG tg σ H Q := h
theorem r_cg {sp : SpG} {dvs : List V} {E : XK} {t : TA} {σ : L2.St} {H : Hp} {c : List V → Hp → Prop} (h : t σ H fun vs H1 => sp (vs ++ dvs) H1 c E) : tCallG sp dvs E t σ H c := h
end
end Er
namespace Er
open PySem PySem.Spec PyProof.Rows L2
/-! sorted(t), t a tuple of ints -/
section
variable {prog : Program} {w : World} {A : Around} {s : Shared} {E : Value → Shared → Prop}
/-- what a tuple holds, gathered: one list more in the heap, the rest as it was -/
theorem gather {t : Addr} {vs : List Value} {Q : List Value → Shared → Prop} (ht : IsTup s.heap t vs.toArray) (hz : vs.length ≤ sizeLine)
    (fin : ∀ g : Heap, s.heap.objs.size ≤ g.objs.size → (∀ b o, s.heap.get? b = some o → g.get? b = some o) → Q vs { s with heap := g }) : wpAny (model prog w) A (collect (.ref t)) Q E s := by
  obtain ⟨o, ho, hc, n, hd⟩ := ht
  have own : (s.heap.push (seqObj "list" #[] 0)).get? s.heap.objs.size = some (seqObj "list" #[] 0) := Heap.get?_push_size _ rfl
  have kept : ∀ b o, s.heap.get? b = some o → ((s.heap.push (seqObj "list" #[] 0)).update s.heap.objs.size (Obj.mapSeq (· ++ vs.toArray))).get? b = some o := fun b o hb =>
    (Heap.get?_update_other _ _ (Nat.ne_of_gt (Heap.lt_size hb))).trans (Heap.get?_push_of_some _ hb)
  have more : s.heap.objs.size ≤ ((s.heap.push (seqObj "list" #[] 0)).update s.heap.objs.size (Obj.mapSeq (· ++ vs.toArray))).objs.size := by
    rw [Heap.size_update, size_push']
    exact Nat.le_succ _
  have last : ∀ s' : Shared, s' = { s with heap := (s.heap.push (seqObj "list" #[] 0)).update s.heap.objs.size (Obj.mapSeq (· ++ vs.toArray)) } → wpAny (model prog w) A (do
        match (← load s.heap.objs.size).data with
        | Data.seq xs _ => pure xs.toList
        | _ => unsupported "internal:collect") Q E s' := fun s' e => by
    subst e
    refine wpAny_bind (wpAny_load (get?_update_seq own _) (wpAny_pure ?_))
    have e : ((#[] : Array Value) ++ vs.toArray).toList = vs := by simp
    show Q ((#[] : Array Value) ++ vs.toArray).toList _
    rw [e]
    exact fin _ more kept
  unfold collect
  apply wpAny_bind
  apply wpAny_runValue
  apply codeAny_builtin entry_proto_collect'
  apply wpAny_bind
  refine wpAny_newList ?_
  refine wpAny_pure ⟨Code.quiet_builtin _ (by decide +kernel), codeAny_builtin entry_list_iadd' ?_⟩
  refine wpAny_mono (wpAny_extend_seq (A := A) (R := fun r s' => r = .ok (.ret (.ref s.heap.objs.size)) ∧ s' = { s with heap := (s.heap.push (seqObj "list" #[] 0)).update s.heap.objs.size (Obj.mapSeq (· ++ vs.toArray)) }) _ t _ 0 (.inr rfl) own (Heap.get?_push_of_some _ ho) hc hd ⟨rfl, rfl⟩ (by simpa using hz)) (fun r s' h => ?_) fun x s' h => absurd h.1 (by simp)
  cases r with
  | done f =>
    obtain ⟨e, e'⟩ := h
    cases e
    exact last s' e'
  | again c =>
    refine ⟨h.1, codeAny_mono h.2 fun r s2 z => ?_⟩
    obtain ⟨e, e'⟩ := z
    subst e
    exact last s2 e'
theorem sorted_tup {t : Addr} {vs : List Value} {ns : List Int} {Q : Value → Shared → Prop} (ht : IsTup s.heap t vs.toArray) (hI : IntsAre vs ns) (h64 : vs.length < 64)
    (fin : ∀ (g : Heap) (a : Addr) (out : Array Value) (ep : Nat) (ns' : List Int), s.heap.objs.size ≤ a → (∀ b o, s.heap.get? b = some o → g.get? b = some o) → g.get? a = some (seqObj "list" out ep) → IntsAre out.toList ns' → ns'.Perm ns → ns'.Pairwise (· ≤ ·) → Q (.ref a) { s with heap := g }) :
    wpAny (model prog w) A (call (.builtin "sorted") [.ref t]) Q E s := by
  have hz : vs.length ≤ sizeLine := Nat.le_trans (Nat.le_of_lt h64) (by decide)
  apply Calls.call_function_entry kind_sorted plain_sorted entry_sorted (args_sorted1 _)
  unfold Builtin.«sorted»
  apply wpAny_bind (m := checkCount "sorted" 1 1 _)
  refine wpAny_pure (wpAny_bind (gather ht hz fun g hg hk => wpAny_bind (wpAny_newList ?_ hz)))
  have own : (g.push (seqObj "list" vs.toArray 0)).get? g.objs.size = some (seqObj "list" vs.toArray 0) := Heap.get?_push_size _ rfl
  refine wpAny_bind (wpAny_holding (wpAny_call_entry slot_list_sort ⟨_, own, rfl⟩ entry_list_sort (list_sort_tree own hI h64 fun out ns' a1 a2 a3 => ⟨_, rfl, wpAny_pure ⟨_, rfl, ?_⟩⟩) (args_list_sort _)))
  obtain ⟨ep, e⟩ := sortedHeap_at (out := out) own
  refine fin _ _ out ep ns' hg (fun b o hb => ?_) e a1 a2 a3
  have lt : b < g.objs.size := Heap.lt_size (hk b o hb)
  rw [sortedHeap_old (Nat.ne_of_lt lt) (by rw [size_push']; exact Nat.lt_succ_of_lt lt)]
  exact Heap.get?_push_of_some _ (hk b o hb)
end
def rSortedA (K : PySem.W.Frag) : List V → Hp → VK → Prop := fun vs H Q => ∃ (a : Addr) (ns : List Int), vs = [V.ref a] ∧ SqX K H a (ns.map V.int) ∧ ns.length < 64 ∧
  ∀ (ns' : List Int) (p : Addr), ns'.Perm ns → ns'.Pairwise (· ≤ ·) → H p = none → Q (.ref p) (upd H p (.lst (ns'.map V.int)))
theorem c_sortA {X : Cx} : CallR X (.builtin "sorted") (rSortedA X.K) := by
  intro pins s σ H vs us Q I r h
  obtain ⟨a, ns, rfl, hs | hs, h64, q⟩ := h
  · exact cr_sorted pins s σ H _ us Q I r ⟨a, ns, rfl, hs, h64, q⟩
  obtain ⟨its, rv, hl, _⟩ := I.tuple hs
  rw [Vals.ref1 r]
  refine sorted_tup hl rv.ints (by rw [rv.ints.length]; exact h64) fun g p out ep ns' hp hk e h1 h2 h3 => ?_
  have hlen : (ns'.map V.int).length ≤ sizeLine := by rw [List.length_map, h2.length_eq]; exact small64 h64
  exact ⟨.ref p, upd H p (.lst (ns'.map V.int)), I.laid (t' := s.toks) hk hp ⟨hlen, out.toList, ep, vals_of_ints h1, e⟩, rfl, q ns' p h2 h3 (I.hok.fresh hp)⟩
theorem sortA {X : Cx} (K : PySem.W.Frag) (e : X.K = K := by rfl) : CallR X (.builtin "sorted") (rSortedA K) := by subst e; exact c_sortA
theorem r_sortedA {K : PySem.W.Frag} {H : Hp} {Q : VK} {a : Addr} {ks ss : List Int} (h : SqX K H a (ks.map V.int)) (l : ks.length < 64) (p : ss.Perm ks) (o : ss.Pairwise (· ≤ ·)) (q : ∀ p, H p = none → Q (.ref p) (upd H p (.lst (ss.map V.int)))) : rSortedA K [.ref a] H Q :=
  ⟨a, ks, rfl, h, l, fun ys p' h1 h2 => by
    rw [sort_one_int (h1.trans p.symm) h2 o]
    exact q p'⟩
end Er
/-! the levels: plain mathematics, no Python -/
namespace K7M
structure NS where
  lev : Int
  cnt : Nat
  rd : List Nat
abbrev Sys := Nat → NS
def stp (n : Nat) (S : Sys) (i : Nat) : NS :=
  if (S i).cnt % (n + 1) = 0 then ⟨(S i).lev - 1, (S i).cnt + 1, []⟩
  else ⟨(S i).lev, (S i).cnt + 1, if (S ((S i).cnt % (n + 1) - 1)).lev ≤ (S i).lev then (S i).rd ++ [(S i).cnt % (n + 1) - 1] else (S i).rd⟩
def lvs (n : Nat) (S : Sys) (i : Nat) : Bool := decide ((S i).cnt % (n + 1) = n ∧ (stp n S i).lev ≤ ((stp n S i).rd.length : Int))
def put (S : Sys) (i : Nat) (x : NS) : Sys := fun j => if j = i then x else S j
theorem put_same (S : Sys) (i : Nat) (x : NS) : put S i x i = x := if_pos rfl
theorem put_ne (S : Sys) {i j : Nat} (x : NS) (h : j ≠ i) : put S i x j = S j := if_neg h
def init (n : Nat) : Sys := fun _ => ⟨n + 1, 0, []⟩
def pos (n : Nat) (x : NS) : Nat := if x.cnt % (n + 1) = 0 then (if x.cnt = 0 then 0 else n) else x.cnt % (n + 1) - 1
def low (S : Sys) (k : Int) (j : Nat) : Bool := decide ((S j).lev ≤ k)
def card (n : Nat) (S : Sys) (k : Int) : Nat := (List.range n).countP (low S k)

theorem cnt_le {P Q : Nat → Bool} : ∀ {l : List Nat}, (∀ j ∈ l, P j = true → Q j = true) → l.countP P ≤ l.countP Q
  | [], _ => Nat.le_refl _
  | a :: l, h => by
    have ih := cnt_le (l := l) fun j hj => h j (List.mem_cons_of_mem _ hj)
    have ha := h a (List.mem_cons_self ..)
    rw [List.countP_cons, List.countP_cons]
    cases hp : P a with
    | false => simp; omega
    | true => rw [ha hp]; simp; omega
theorem cnt_lt {P Q : Nat → Bool} {a : Nat} : ∀ {l : List Nat}, (∀ j ∈ l, P j = true → Q j = true) → a ∈ l → Q a = true → P a = false → l.countP P + 1 ≤ l.countP Q
  | [], _, h, _, _ => by cases h
  | b :: l, h, ha, q, p => by
    have hb := h b (List.mem_cons_self ..)
    have hl : ∀ j ∈ l, P j = true → Q j = true := fun j hj => h j (List.mem_cons_of_mem _ hj)
    rw [List.countP_cons, List.countP_cons]
    rcases List.mem_cons.mp ha with rfl | ha
    · have := cnt_le hl
      rw [q, p]
      simp
      omega
    · have ih := cnt_lt hl ha q p
      cases hp : P b with
      | false => simp; omega
      | true => rw [hb hp]; simp; omega
theorem cnt_lt2 {P Q : Nat → Bool} {a b : Nat} {l : List Nat} (h : ∀ j ∈ l, P j = true → Q j = true) (ha : a ∈ l) (hb : b ∈ l) (ne : a ≠ b) (qa : Q a = true) (pa : P a = false) (qb : Q b = true) (pb : P b = false) : l.countP P + 2 ≤ l.countP Q := by
  have h1 := cnt_lt (P := P) (Q := fun j => P j || decide (j = a)) (l := l) (fun j _ hj => by simp [hj]) ha (by simp) pa
  have h2 := cnt_lt (P := fun j => P j || decide (j = a)) (Q := Q) (l := l) (fun j hj hp => by
    rcases Bool.or_eq_true_iff.mp hp with hp | hp
    · exact h j hj hp
    · rw [of_decide_eq_true hp]; exact qa) hb qb (by simp [pb, Ne.symm ne])
  omega
theorem sub_card {n p : Nat} {l : List Nat} {P : Nat → Bool} (hl : l.Sublist (List.range p)) (hp : p ≤ n) (h : ∀ c ∈ l, P c = true) : l.Sublist ((List.range n).filter P) := by
  have h1 : l.Sublist (List.range n) := hl.trans (by
    have e : List.range n = List.range p ++ (List.range (n - p)).map (p + ·) := by
      rw [← List.range_add]
      congr 1
      omega
    rw [e]
    exact List.sublist_append_left _ _)
  have h2 := h1.filter P
  rwa [List.filter_eq_self.mpr h] at h2
theorem len_card {n p : Nat} {l : List Nat} {S : Sys} {k : Int} (hl : l.Sublist (List.range p)) (hp : p ≤ n) (h : ∀ c ∈ l, (S c).lev ≤ k) : l.length ≤ card n S k := by
  have := (sub_card (P := low S k) hl hp fun c hc => decide_eq_true (h c hc)).length_le
  rwa [← List.countP_eq_length_filter] at this
theorem eq_card {n p : Nat} {l : List Nat} {S : Sys} {k : Int} (hl : l.Sublist (List.range p)) (hp : p ≤ n) (h : ∀ c ∈ l, (S c).lev ≤ k) (e : card n S k ≤ l.length) : l = (List.range n).filter (low S k) := by
  have s := sub_card (P := low S k) hl hp fun c hc => decide_eq_true (h c hc)
  refine s.eq_of_length_le ?_
  rw [← List.countP_eq_length_filter]
  exact e

structure Good (n : Nat) (S : Sys) (gone : List Nat) : Prop where
  lev : ∀ i, i < n → (S i).lev = (n : Int) + 1 - (((S i).cnt + n) / (n + 1) : Nat)
  one : ∀ i, i < n → 1 ≤ (S i).lev
  rd : ∀ i, i < n → (S i).rd.Sublist (List.range (pos n (S i)))
  down : ∀ i, i < n → ∀ c ∈ (S i).rd, (S c).lev ≤ (S i).lev
  self : ∀ i, i < n → i < pos n (S i) → i ∈ (S i).rd
  few : ∀ k : Nat, 1 ≤ k → k ≤ n → card n S k ≤ k
  wit : ∀ k : Nat, 1 ≤ k → k ≤ n → card n S k = k → ∃ w, w < n ∧ (S w).lev = k ∧ ∀ c, c < n → (S c).lev ≤ k → c < pos n (S w) → c ∈ (S w).rd
  gon : ∀ i ∈ gone, i < n ∧ (S i).cnt % (n + 1) = 0 ∧ 0 < (S i).cnt ∧ (S i).lev ≤ (S i).rd.length
  not : ∀ i, i < n → i ∉ gone → (S i).cnt % (n + 1) = 0 → 0 < (S i).cnt → ((S i).rd.length : Int) < (S i).lev
  nd : gone.Nodup

theorem pos_le {n : Nat} (x : NS) : pos n x ≤ n := by
  unfold pos
  have : x.cnt % (n + 1) < n + 1 := Nat.mod_lt x.cnt (Nat.succ_pos n)
  split
  · split <;> omega
  · omega
theorem good_init {n : Nat} (hn : 1 ≤ n) : Good n (init n) [] where
  lev := fun i _ => by
    show (n : Int) + 1 = (n : Int) + 1 - ((0 + n) / (n + 1) : Nat)
    rw [Nat.zero_add, Nat.div_eq_of_lt (Nat.lt_succ_self n)]
    simp
  one := fun i _ => by show (1 : Int) ≤ n + 1; omega
  rd := fun i _ => List.nil_sublist _
  down := fun i _ c hc => by cases hc
  self := fun i _ h => by
    have e : pos n (init n i) = 0 := by simp [pos, init]
    rw [e] at h
    omega
  few := fun k _ hk => by
    have e : card n (init n) k = 0 := by
      unfold card
      rw [List.countP_eq_zero]
      intro j _
      show ¬ decide ((n : Int) + 1 ≤ k) = true
      rw [decide_eq_true_iff]
      omega
    omega
  wit := fun k h1 hk hc => by
    have e : card n (init n) k = 0 := by
      unfold card
      rw [List.countP_eq_zero]
      intro j _
      show ¬ decide ((n : Int) + 1 ≤ k) = true
      rw [decide_eq_true_iff]
      omega
    omega
  gon := fun i h => by cases h
  not := fun i _ _ _ h => by simp [init] at h
  nd := List.nodup_nil

/-- a read step -/
theorem good_read {n : Nat} {S : Sys} {gone : List Nat} {i : Nat} (G : Good n S gone) (hi : i < n) (hg : i ∉ gone) (ht : (S i).cnt % (n + 1) ≠ 0) :
    Good n (put S i (stp n S i)) (if lvs n S i = true then gone ++ [i] else gone) := by
  have hlt : (S i).cnt % (n + 1) < n + 1 := Nat.mod_lt (S i).cnt (Nat.succ_pos n)
  have hs : stp n S i = ⟨(S i).lev, (S i).cnt + 1, if (S ((S i).cnt % (n + 1) - 1)).lev ≤ (S i).lev then (S i).rd ++ [(S i).cnt % (n + 1) - 1] else (S i).rd⟩ := if_neg ht
  have hl : (stp n S i).lev = (S i).lev := by rw [hs]
  have hlev : ∀ j, (put S i (stp n S i) j).lev = (S j).lev := fun j => by
    by_cases h : j = i
    · subst h; rw [put_same, hl]
    · rw [put_ne S _ h]
  have hcard : ∀ k, card n (put S i (stp n S i)) k = card n S k := fun k => by
    unfold card
    congr 1
    funext j
    unfold low
    rw [hlev]
  have hpos0 : pos n (S i) = (S i).cnt % (n + 1) - 1 := by unfold pos; rw [if_neg ht]
  have hpos1 : pos n (stp n S i) = (S i).cnt % (n + 1) := by
    rw [hs]
    unfold pos
    show (if ((S i).cnt + 1) % (n + 1) = 0 then (if (S i).cnt + 1 = 0 then 0 else n) else ((S i).cnt + 1) % (n + 1) - 1) = _
    by_cases he : (S i).cnt % (n + 1) = n
    · have : ((S i).cnt + 1) % (n + 1) = 0 := by rw [Nat.add_mod, he, Nat.mod_eq_of_lt (by omega : 1 < n + 1), Nat.mod_self]
      rw [if_pos this, if_neg (by omega), he]
    · have : ((S i).cnt + 1) % (n + 1) = (S i).cnt % (n + 1) + 1 := by
        rw [Nat.add_mod, Nat.mod_eq_of_lt (by omega : 1 < n + 1), Nat.mod_eq_of_lt (by omega)]
      rw [if_neg (by omega), this]
      omega
  obtain ⟨c, hc⟩ : ∃ c, c = (S i).cnt % (n + 1) - 1 := ⟨_, rfl⟩
  have hrd : (stp n S i).rd = if (S c).lev ≤ (S i).lev then (S i).rd ++ [c] else (S i).rd := by rw [hs, hc]
  have hcn : c < n := by omega
  have hpc : pos n (S i) = c := by rw [hpos0, hc]
  have hpc1 : pos n (stp n S i) = c + 1 := by rw [hpos1]; omega
  have sub1 : (stp n S i).rd.Sublist (List.range (c + 1)) := by
    rw [hrd, List.range_succ]
    have := G.rd i hi
    rw [hpc] at this
    split
    · exact this.append (List.Sublist.refl _)
    · exact this.trans (List.sublist_append_left _ _)
  have mem1 : ∀ y, y ∈ (stp n S i).rd ↔ y ∈ (S i).rd ∨ (y = c ∧ (S c).lev ≤ (S i).lev) := fun y => by
    rw [hrd]
    split
    · rename_i h; simp [h]
    · rename_i h; simp [h]
  refine ⟨fun j hj => ?_, fun j hj => ?_, fun j hj => ?_, fun j hj y hy => ?_, fun j hj hp => ?_, fun k h1 h2 => ?_, fun k h1 h2 hk => ?_, fun j hj => ?_, fun j hj hjg h0 hpos => ?_, ?_⟩
  · rw [hlev]
    by_cases h : j = i
    · subst h
      rw [put_same, hs, G.lev j hj]
      show (n : Int) + 1 - (((S j).cnt + n) / (n + 1) : Nat) = (n : Int) + 1 - (((S j).cnt + 1 + n) / (n + 1) : Nat)
      have e : ((S j).cnt + n) / (n + 1) = ((S j).cnt + 1 + n) / (n + 1) := by
        have d := Nat.div_add_mod (S j).cnt (n + 1)
        generalize hq : (S j).cnt / (n + 1) = q at d
        generalize hr : (S j).cnt % (n + 1) = r at d ht hlt
        have e1 : (S j).cnt + n = (n + 1) * q + (r + n) := by omega
        have e2 : (S j).cnt + 1 + n = (n + 1) * q + (r + 1 + n) := by omega
        rw [e1, e2, Nat.mul_add_div (Nat.succ_pos n), Nat.mul_add_div (Nat.succ_pos n)]
        congr 1
        have a1 : (r + n) / (n + 1) = 1 := by rw [show r + n = (n + 1) * 1 + (r - 1) by omega, Nat.mul_add_div (Nat.succ_pos n), Nat.div_eq_of_lt (by omega)]
        have a2 : (r + 1 + n) / (n + 1) = 1 := by rw [show r + 1 + n = (n + 1) * 1 + r by omega, Nat.mul_add_div (Nat.succ_pos n), Nat.div_eq_of_lt (by omega)]
        rw [a1, a2]
      rw [e]
    · rw [put_ne S _ h]
      exact G.lev j hj
  · rw [hlev]; exact G.one j hj
  · by_cases h : j = i
    · subst h
      rw [put_same, hpc1]
      exact sub1
    · rw [put_ne S _ h]; exact G.rd j hj
  · rw [hlev, hlev]
    by_cases h : j = i
    · subst h
      rw [put_same] at hy
      rcases (mem1 y).mp hy with hy | ⟨rfl, hy⟩
      · exact G.down j hj y hy
      · exact hy
    · rw [put_ne S _ h] at hy; exact G.down j hj y hy
  · by_cases h : j = i
    · subst h
      rw [put_same, hpc1] at hp
      rw [put_same]
      refine (mem1 j).mpr ?_
      by_cases hjc : j = c
      · right
        refine ⟨hjc, ?_⟩
        rw [← hjc]
        exact Int.le_refl _
      · left
        exact G.self j hj (by rw [hpc]; omega)
    · rw [put_ne S _ h] at hp ⊢; exact G.self j hj hp
  · rw [hcard]; exact G.few k h1 h2
  · rw [hcard] at hk
    obtain ⟨w, hw, hwl, hwr⟩ := G.wit k h1 h2 hk
    refine ⟨w, hw, by rw [hlev]; exact hwl, fun y hy hyl hyp => ?_⟩
    rw [hlev] at hyl
    by_cases h : w = i
    · subst h
      rw [put_same] at hyp ⊢
      rw [hpc1] at hyp
      refine (mem1 y).mpr ?_
      by_cases hyc : y = c
      · right
        refine ⟨hyc, ?_⟩
        rw [← hyc, hwl]
        exact hyl
      · left
        exact hwr y hy hyl (by rw [hpc]; omega)
    · rw [put_ne S _ h] at hyp ⊢
      exact hwr y hy hyl hyp
  · have old : j ∈ gone → j < n ∧ (put S i (stp n S i) j).cnt % (n + 1) = 0 ∧ 0 < (put S i (stp n S i) j).cnt ∧ (put S i (stp n S i) j).lev ≤ (put S i (stp n S i) j).rd.length := fun hj => by
      have h : j ≠ i := fun z => hg (z ▸ hj)
      rw [put_ne S _ h]
      exact G.gon j hj
    by_cases hv : lvs n S i = true
    · rw [if_pos hv] at hj
      rcases List.mem_append.mp hj with hj | hj
      · exact old hj
      · have e : j = i := List.mem_singleton.mp hj
        subst e
        obtain ⟨v1, v2⟩ := of_decide_eq_true hv
        rw [put_same]
        refine ⟨hi, ?_, ?_, v2⟩
        · rw [hs]
          show ((S j).cnt + 1) % (n + 1) = 0
          have d := Nat.div_add_mod (S j).cnt (n + 1)
          rw [v1] at d
          rw [← d, Nat.add_assoc, ← Nat.mul_succ, Nat.mul_mod_right]
        · rw [hs]
          exact Nat.succ_pos _
    · rw [if_neg hv] at hj
      exact old hj
  · by_cases h : j = i
    · subst h
      rw [put_same] at h0 hpos ⊢
      have he : (S j).cnt % (n + 1) = n := by
        rw [hs] at h0
        have h0 : ((S j).cnt + 1) % (n + 1) = 0 := h0
        by_cases he : (S j).cnt % (n + 1) = n
        · exact he
        · have : ((S j).cnt + 1) % (n + 1) = (S j).cnt % (n + 1) + 1 := by
            rw [Nat.add_mod, Nat.mod_eq_of_lt (by omega : 1 < n + 1), Nat.mod_eq_of_lt (by omega)]
          omega
      have hv : ¬ lvs n S j = true := fun hv => by
        rw [if_pos hv] at hjg
        exact hjg (List.mem_append_right _ (List.mem_singleton.mpr rfl))
      have := fun z => hv (decide_eq_true (⟨he, z⟩ : (S j).cnt % (n + 1) = n ∧ (stp n S j).lev ≤ ((stp n S j).rd.length : Int)))
      exact Int.not_le.mp this
    · rw [put_ne S _ h] at h0 hpos ⊢
      refine G.not j hj (fun z => hjg ?_) h0 hpos
      split
      · exact List.mem_append_left _ z
      · exact z
  · split
    · refine List.nodup_append.mpr ⟨G.nd, List.nodup_cons.mpr ⟨by simp, List.nodup_nil⟩, fun a ha b hb e => ?_⟩
      have : b = i := List.mem_singleton.mp hb
      subst this
      subst e
      exact hg ha
    · exact G.nd
theorem sub_self {r l : List Nat} (h : l.Sublist r) : r.Nodup → r.filter (fun j => decide (j ∈ l)) = l := by
  induction h with
  | slnil => intro _; rfl
  | @cons l r a h ih =>
    intro nd
    obtain ⟨h1, h2⟩ := List.nodup_cons.mp nd
    have : a ∉ l := fun z => h1 (h.subset z)
    rw [List.filter_cons_of_neg (by simp [this])]
    exact ih h2
  | @cons_cons l r a h ih =>
    intro nd
    obtain ⟨h1, h2⟩ := List.nodup_cons.mp nd
    rw [List.filter_cons_of_pos (by simp)]
    congr 1
    rw [← ih h2]
    refine List.filter_congr fun x hx => ?_
    have : x ≠ a := fun z => h1 (z ▸ hx)
    simp [this, ih h2]
theorem cnt_or1 {P : Nat → Bool} {a : Nat} : ∀ {l : List Nat}, l.Nodup → l.countP (fun j => P j || decide (j = a)) ≤ l.countP P + 1
  | [], _ => Nat.zero_le _
  | b :: l, nd => by
    obtain ⟨h1, h2⟩ := List.nodup_cons.mp nd
    rw [List.countP_cons, List.countP_cons]
    by_cases hb : b = a
    · subst hb
      have e : l.countP (fun j => P j || decide (j = b)) = l.countP P := List.countP_congr fun x hx => by
        have : x ≠ b := fun z => h1 (z ▸ hx)
        simp [this]
      rw [e]
      cases P b <;> simp
    · have ih := cnt_or1 (P := P) (a := a) h2
      cases hp : P b <;> simp [hp, hb] <;> omega
theorem rd_card {n : Nat} {S : Sys} {k : Int} {l : List Nat} (hl : l.Sublist (List.range n)) (h : ∀ c, c < n → (S c).lev ≤ k → c ∈ l) : card n S k ≤ l.length := by
  have e := sub_self hl List.nodup_range
  have q : card n S k ≤ (List.range n).countP (fun j => decide (j ∈ l)) := cnt_le fun j hj p => decide_eq_true (h j (List.mem_range.mp hj) (of_decide_eq_true p))
  rw [List.countP_eq_length_filter, e] at q
  exact q

/-- a step down -/
theorem good_down {n : Nat} {S : Sys} {gone : List Nat} {i : Nat} (hn : 1 ≤ n) (G : Good n S gone) (hi : i < n) (hg : i ∉ gone) (ht : (S i).cnt % (n + 1) = 0) :
    Good n (put S i (stp n S i)) (if lvs n S i = true then gone ++ [i] else gone) := by
  have hs : stp n S i = ⟨(S i).lev - 1, (S i).cnt + 1, []⟩ := if_pos ht
  have hv : ¬ lvs n S i = true := fun z => by
    have := (of_decide_eq_true z).1
    omega
  rw [if_neg hv]
  have hd := Nat.div_add_mod (S i).cnt (n + 1)
  rw [ht, Nat.add_zero] at hd
  generalize hq : (S i).cnt / (n + 1) = q at hd
  have hmod1 : ((S i).cnt + 1) % (n + 1) = 1 := by rw [← hd, Nat.mul_add_mod, Nat.mod_eq_of_lt (by omega)]
  have hdiv0 : ((S i).cnt + n) / (n + 1) = q := by rw [← hd, Nat.mul_add_div (Nat.succ_pos n), Nat.div_eq_of_lt (Nat.lt_succ_self n), Nat.add_zero]
  have hdiv1 : ((S i).cnt + 1 + n) / (n + 1) = q + 1 := by
    rw [← hd, Nat.add_assoc, Nat.mul_add_div (Nat.succ_pos n), Nat.add_comm 1 n, Nat.div_self (Nat.succ_pos n)]
  have hli := G.lev i hi
  rw [hdiv0] at hli
  have hpos1 : pos n (stp n S i) = 0 := by
    rw [hs]
    unfold pos
    show (if ((S i).cnt + 1) % (n + 1) = 0 then (if (S i).cnt + 1 = 0 then 0 else n) else ((S i).cnt + 1) % (n + 1) - 1) = 0
    rw [hmod1]
    rfl
  -- what stood before
  have full : 0 < (S i).cnt → pos n (S i) = n := fun h => by
    unfold pos
    rw [if_pos ht, if_neg (by omega)]
  have two : 2 ≤ (S i).lev := by
    by_cases h0 : 0 < (S i).cnt
    · have h1 := G.not i hi hg ht h0
      have h2 := G.self i hi (by rw [full h0]; exact hi)
      have h3 := List.length_pos_of_mem h2
      omega
    · have : (S i).cnt = 0 := by omega
      have : q = 0 := by rw [← hq, this]; simp
      omega
  have nowit : ∀ w, w < n → (S w).lev = (S i).lev → card n S (S i).lev = (S i).lev.toNat → (∀ c, c < n → (S c).lev ≤ (S i).lev → c < pos n (S w) → c ∈ (S w).rd) → 0 < (S i).cnt → w ≠ i := fun w hw hwl hc hr h0 e => by
    subst e
    have h1 := G.not w hi hg ht h0
    have h2 := rd_card (S := S) (k := (S w).lev) (l := (S w).rd) (by have := G.rd w hi; rwa [full h0] at this) fun c hcn hcl => hr c hcn hcl (by rw [full h0]; exact hcn)
    have := G.one w hi
    omega
  have key : (card n S ((S i).lev - 1) : Int) ≤ (S i).lev - 2 := by
    have sub : ∀ j ∈ List.range n, low S ((S i).lev - 1) j = true → low S (S i).lev j = true := fun j _ h => by
      have := of_decide_eq_true h
      exact decide_eq_true (by omega)
    have pi : low S ((S i).lev - 1) i = false := decide_eq_false (by omega)
    have qi : low S (S i).lev i = true := decide_eq_true (Int.le_refl _)
    by_cases h0 : 0 < (S i).cnt
    · have hq1 : 1 ≤ q := by
        rcases Nat.eq_zero_or_pos q with z | z
        · rw [z, Nat.mul_zero] at hd; omega
        · exact z
      have one := G.one i hi
      obtain ⟨k, hk⟩ : ∃ k : Nat, (S i).lev = k := ⟨(S i).lev.toNat, by omega⟩
      have few := G.few k (by omega) (by omega)
      by_cases hc : card n S k = k
      · obtain ⟨w, hw, hwl, hwr⟩ := G.wit k (by omega) (by omega) hc
        have ne := nowit w hw (by omega) (by rw [hk]; omega) (by rw [hk]; exact hwr) h0
        have := cnt_lt2 sub (List.mem_range.mpr hi) (List.mem_range.mpr hw) (Ne.symm ne) qi pi (decide_eq_true (by omega)) (decide_eq_false (by omega))
        have e : card n S (S i).lev = k := by rw [hk]; exact hc
        have : card n S ((S i).lev - 1) + 2 ≤ card n S (S i).lev := this
        omega
      · have := cnt_lt sub (List.mem_range.mpr hi) qi pi
        have : card n S ((S i).lev - 1) + 1 ≤ card n S (S i).lev := this
        rw [hk] at this ⊢
        omega
    · have : (S i).cnt = 0 := by omega
      have : q = 0 := by rw [← hq, this]; simp
      have := cnt_lt (P := low S ((S i).lev - 1)) (Q := fun _ => true) (fun _ _ _ => rfl) (List.mem_range.mpr hi) rfl pi
      have e : (List.range n).countP (fun _ => true) = n := by
        have : (List.range n).countP (fun _ => true) = (List.range n).length := by rw [List.countP_eq_length]; intro _ _; rfl
        rw [this, List.length_range]
      rw [e] at this
      have : card n S ((S i).lev - 1) + 1 ≤ n := this
      omega
  have lev_ne : ∀ j, j ≠ i → (put S i (stp n S i) j).lev = (S j).lev := fun j h => by rw [put_ne S _ h]
  have lev_i : (put S i (stp n S i) i).lev = (S i).lev - 1 := by rw [put_same, hs]
  have le_lev : ∀ j, (put S i (stp n S i) j).lev ≤ (S j).lev := fun j => by
    by_cases h : j = i
    · subst h; rw [lev_i]; omega
    · rw [lev_ne j h]; exact Int.le_refl _
  have lowK : ∀ k : Int, k ≠ (S i).lev - 1 → ∀ j, ((put S i (stp n S i) j).lev ≤ k ↔ (S j).lev ≤ k) := fun k hk j => by
    by_cases h : j = i
    · subst h; rw [lev_i]; omega
    · rw [lev_ne j h]
  have cardK : ∀ k : Int, k ≠ (S i).lev - 1 → card n (put S i (stp n S i)) k = card n S k := fun k hk => by
    unfold card
    congr 1
    funext j
    exact decide_eq_decide.mpr (lowK k hk j)
  have cardL : (card n (put S i (stp n S i)) ((S i).lev - 1) : Int) ≤ (S i).lev - 1 := by
    have e : card n (put S i (stp n S i)) ((S i).lev - 1) ≤ card n S ((S i).lev - 1) + 1 := by
      have := cnt_or1 (P := low S ((S i).lev - 1)) (a := i) (List.nodup_range (n := n))
      refine Nat.le_trans (cnt_le fun j _ hj => ?_) this
      by_cases h : j = i
      · simp [h]
      · have hj := of_decide_eq_true hj
        rw [lev_ne j h] at hj
        have : low S ((S i).lev - 1) j = true := decide_eq_true hj
        simp [this]
    omega
  refine ⟨fun j hj => ?_, fun j hj => ?_, fun j hj => ?_, fun j hj y hy => ?_, fun j hj hp => ?_, fun k h1 h2 => ?_, fun k h1 h2 hk => ?_, fun j hj => ?_, fun j hj hjg h0 hpos => ?_, G.nd⟩
  · by_cases h : j = i
    · subst h
      rw [lev_i, put_same, hs, hli]
      show (n : Int) + 1 - (q : Int) - 1 = (n : Int) + 1 - (((S j).cnt + 1 + n) / (n + 1) : Nat)
      rw [hdiv1]
      omega
    · rw [put_ne S _ h]
      exact G.lev j hj
  · by_cases h : j = i
    · subst h; rw [lev_i]; omega
    · rw [lev_ne j h]; exact G.one j hj
  · by_cases h : j = i
    · subst h
      rw [put_same, hs]
      exact List.nil_sublist _
    · rw [put_ne S _ h]; exact G.rd j hj
  · by_cases h : j = i
    · subst h
      rw [put_same, hs] at hy
      cases hy
    · rw [put_ne S _ h] at hy
      rw [lev_ne j h]
      exact Int.le_trans (le_lev y) (G.down j hj y hy)
  · by_cases h : j = i
    · subst h
      rw [put_same, hpos1] at hp
      omega
    · rw [put_ne S _ h] at hp ⊢; exact G.self j hj hp
  · by_cases h : (k : Int) = (S i).lev - 1
    · rw [h]
      omega
    · rw [cardK k h]; exact G.few k h1 h2
  · by_cases h : (k : Int) = (S i).lev - 1
    · refine ⟨i, hi, by rw [lev_i, h], fun c _ _ hp => ?_⟩
      rw [put_same, hpos1] at hp
      omega
    · rw [cardK k h] at hk
      obtain ⟨w, hw, hwl, hwr⟩ := G.wit k h1 h2 hk
      have ne : w ≠ i := fun e => by
        subst e
        have h0 : 0 < (S w).cnt := by
          rcases Nat.eq_zero_or_pos (S w).cnt with z | z
          · have : q = 0 := by rw [← hq, z]; simp
            omega
          · exact z
        exact nowit w hw rfl (by rw [hwl]; omega) (by rw [hwl]; exact hwr) h0 rfl
      refine ⟨w, hw, by rw [lev_ne w ne]; exact hwl, fun c hc hcl hp => ?_⟩
      rw [put_ne S _ ne] at hp ⊢
      exact hwr c hc ((lowK k h c).mp hcl) hp
  · have h : j ≠ i := fun z => hg (z ▸ hj)
    rw [put_ne S _ h]
    exact G.gon j hj
  · by_cases h : j = i
    · subst h
      rw [put_same, hs] at h0
      have h0 : ((S j).cnt + 1) % (n + 1) = 0 := h0
      omega
    · rw [put_ne S _ h] at h0 hpos ⊢
      exact G.not j hj hjg h0 hpos
theorem good_step {n : Nat} {S : Sys} {gone : List Nat} {i : Nat} (hn : 1 ≤ n) (G : Good n S gone) (hi : i < n) (hg : i ∉ gone) : Good n (put S i (stp n S i)) (if lvs n S i = true then gone ++ [i] else gone) := by
  by_cases ht : (S i).cnt % (n + 1) = 0
  · exact good_down hn G hi hg ht
  · exact good_read G hi hg ht
end K7M
namespace K7M
def runS (n : Nat) (p : Sys × List Nat) (i : Nat) : Sys × List Nat := if i ∈ p.2 then p else (put p.1 i (stp n p.1 i), if lvs n p.1 i = true then p.2 ++ [i] else p.2)
def runN (n : Nat) (ks : List Nat) : Sys × List Nat := ks.foldl (runS n) (init n, [])
theorem runN_nil (n : Nat) : runN n [] = (init n, []) := rfl
theorem runN_snoc (n : Nat) (ks : List Nat) (i : Nat) : runN n (ks ++ [i]) = runS n (runN n ks) i := by
  unfold runN
  rw [List.foldl_append]
  rfl
theorem runN_take {n : Nat} {ks : List Nat} {i c : Nat} (h : ks[i]? = some c) : runN n (ks.take (i + 1)) = runS n (runN n (ks.take i)) c := by
  have : ks.take (i + 1) = ks.take i ++ [c] := by rw [List.take_add_one, h]; rfl
  rw [this, runN_snoc]
theorem good_runS {n : Nat} {p : Sys × List Nat} {i : Nat} (hn : 1 ≤ n) (G : Good n p.1 p.2) (hi : i < n) : Good n (runS n p i).1 (runS n p i).2 := by
  unfold runS
  split
  · exact G
  · rename_i h
    exact good_step hn G hi h
theorem good_fold {n : Nat} (hn : 1 ≤ n) : ∀ (ks : List Nat) (p : Sys × List Nat), (∀ c ∈ ks, c < n) → Good n p.1 p.2 → Good n (ks.foldl (runS n) p).1 (ks.foldl (runS n) p).2
  | [], _, _, G => G
  | i :: ks, p, h, G => good_fold hn ks (runS n p i) (fun c hc => h c (List.mem_cons_of_mem _ hc)) (good_runS hn G (h i (List.mem_cons_self ..)))
theorem good_run {n : Nat} {ks : List Nat} (hn : 1 ≤ n) (h : ∀ c ∈ ks, c < n) : Good n (runN n ks).1 (runN n ks).2 := good_fold hn ks _ h (good_init hn)
theorem good_take {n : Nat} {ks : List Nat} (hn : 1 ≤ n) (h : ∀ c ∈ ks, c < n) (i : Nat) : Good n (runN n (ks.take i)).1 (runN n (ks.take i)).2 := good_run hn fun c hc => h c (List.mem_of_mem_take hc)
theorem Good.len {n : Nat} {S : Sys} {g : List Nat} (G : Good n S g) {i : Nat} (hi : i < n) : (S i).rd.length ≤ n := by
  have := (G.rd i hi).length_le
  rw [List.length_range] at this
  have := pos_le (n := n) (S i)
  omega
theorem Good.lenG {n : Nat} {S : Sys} {g : List Nat} (G : Good n S g) : g.length ≤ n := by
  have h : ((List.range n).filter fun j => decide (j ∈ g)).Perm g := (List.perm_ext_iff_of_nodup (List.nodup_range.filter _) G.nd).mpr fun a => by
    rw [List.mem_filter, List.mem_range, decide_eq_true_iff]
    exact ⟨fun z => z.2, fun z => ⟨(G.gon a z).1, z⟩⟩
  have h1 := h.length_eq
  have h2 := List.length_filter_le (fun j => decide (j ∈ g)) (List.range n)
  rw [List.length_range] at h2
  omega
end K7M
namespace K7M
/-- those of l not in sh -/
def fresh (l sh : List Nat) : List Nat := l.filter fun c => !decide (c ∈ sh)
def blkS (p : List (List Nat) × List Nat) (l : List Nat) : List (List Nat) × List Nat := if (fresh l p.2).isEmpty then p else (p.1 ++ [fresh l p.2], p.2 ++ fresh l p.2)
def blkF (ls : List (List Nat)) : List (List Nat) × List Nat := ls.foldl blkS ([], [])
def blocksP (ls : List (List Nat)) (ws : List Nat) : List (List Nat) := if (fresh ws (blkF ls).2).isEmpty then (blkF ls).1 else (blkF ls).1 ++ [fresh ws (blkF ls).2]
theorem blkF_take {ls : List (List Nat)} {i : Nat} {l : List Nat} (h : ls[i]? = some l) : blkF (ls.take (i + 1)) = blkS (blkF (ls.take i)) l := by
  have : ls.take (i + 1) = ls.take i ++ [l] := by rw [List.take_add_one, h]; rfl
  unfold blkF
  rw [this, List.foldl_append]
  rfl
def lenLeN (x y : List Nat) : Bool := decide (x.length ≤ y.length)
end K7M
namespace K7M
section
variable {n : Nat} {S : Sys} {g : List Nat}
theorem Good.look (G : Good n S g) {i : Nat} (h : i ∈ g) : i < n ∧ (S i).lev = ((S i).rd.length : Int) ∧ (S i).rd = (List.range n).filter (low S (S i).rd.length) ∧ i ∈ (S i).rd ∧ (S i).rd.length ≤ n ∧ 1 ≤ (S i).rd.length ∧ ((S i).cnt : Int) = ((n : Int) + 1 - ((S i).rd.length : Int)) * ((n : Int) + 1) := by
  obtain ⟨hi, h0, hp, hl⟩ := G.gon i h
  have hpos : pos n (S i) = n := by
    unfold pos
    rw [if_pos h0, if_neg (by omega)]
  have hrd := G.rd i hi
  rw [hpos] at hrd
  have hd := G.down i hi
  have hlev := G.lev i hi
  have hone := G.one i hi
  have hdm := Nat.div_add_mod (S i).cnt (n + 1)
  rw [h0, Nat.add_zero] at hdm
  generalize hq : (S i).cnt / (n + 1) = q at hdm
  have hdiv : ((S i).cnt + n) / (n + 1) = q := by rw [← hdm, Nat.mul_add_div (Nat.succ_pos n), Nat.div_eq_of_lt (Nat.lt_succ_self n), Nat.add_zero]
  rw [hdiv] at hlev
  have hq1 : 1 ≤ q := by
    rcases Nat.eq_zero_or_pos q with z | z
    · rw [z, Nat.mul_zero] at hdm; omega
    · exact z
  obtain ⟨k, hk⟩ : ∃ k : Nat, (S i).lev = k := ⟨(S i).lev.toNat, by omega⟩
  have c1 := len_card (n := n) (k := (S i).lev) hrd (Nat.le_refl _) hd
  have c2 := G.few k (by omega) (by omega)
  rw [hk] at c1
  have e1 : (S i).rd.length = k := by rw [hk] at hl; omega
  have e2 : (S i).rd = (List.range n).filter (low S (k : Int)) := by
    have := eq_card (n := n) (k := (S i).lev) hrd (Nat.le_refl _) hd (by rw [hk]; omega)
    rw [hk] at this
    exact this
  refine ⟨hi, by rw [hk, e1], by rw [e1]; exact e2, G.self i hi (by rw [hpos]; exact hi), by omega, by omega, ?_⟩
  have : (n : Int) + 1 - ((S i).rd.length : Int) = q := by rw [e1]; omega
  rw [this, ← hdm, Int.natCast_mul, Int.mul_comm]
  rfl
theorem Good.sub (G : Good n S g) {i j : Nat} (hi : i ∈ g) (hj : j ∈ g) (h : (S i).rd.length ≤ (S j).rd.length) : ∀ c ∈ (S i).rd, c ∈ (S j).rd := fun c hc => by
  obtain ⟨_, _, e1, _⟩ := G.look hi
  obtain ⟨_, _, e2, _⟩ := G.look hj
  rw [e1] at hc
  rw [e2]
  obtain ⟨h1, h2⟩ := List.mem_filter.mp hc
  refine List.mem_filter.mpr ⟨h1, ?_⟩
  have := of_decide_eq_true h2
  exact decide_eq_true (by omega)
theorem Good.sub_in (G : Good n S g) {i j : Nat} (hi : i ∈ g) (hj : j ∈ g) (h : j ∈ (S i).rd) : (S j).rd.length ≤ (S i).rd.length := by
  obtain ⟨_, l1, e1, _⟩ := G.look hi
  obtain ⟨_, l2, e2, _⟩ := G.look hj
  rw [e1] at h
  have := of_decide_eq_true (List.mem_filter.mp h).2
  omega
theorem Good.eq_len (G : Good n S g) {i j : Nat} (hi : i ∈ g) (hj : j ∈ g) (h : (S i).rd.length = (S j).rd.length) : (S i).rd = (S j).rd := by
  obtain ⟨_, _, e1, _⟩ := G.look hi
  obtain ⟨_, _, e2, _⟩ := G.look hj
  rw [e1, e2, h]
end
end K7M
namespace K7M
/-- the law's blocks: each look without the one before -/
def blkL : List Nat → List (List Nat) → List (List Nat)
  | _, [] => []
  | seen, l :: ls => fresh l seen :: blkL l ls
def lastL : List Nat → List (List Nat) → List Nat
  | seen, [] => seen
  | _, l :: ls => lastL l ls
def blocksL (ls : List (List Nat)) (ws : List Nat) : List (List Nat) := if (fresh ws (lastL [] ls)).isEmpty then blkL [] ls else blkL [] ls ++ [fresh ws (lastL [] ls)]
/-- the first of each run of equal ones -/
def dA : Option (List Nat) → List (List Nat) → List (List Nat)
  | _, [] => []
  | prev, l :: ls => if prev = some l then dA prev ls else l :: dA (some l) ls
theorem fresh_congr {l a b : List Nat} (h : ∀ c, c ∈ a ↔ c ∈ b) : fresh l a = fresh l b := by
  unfold fresh
  refine List.filter_congr fun c _ => ?_
  rw [decide_eq_decide.mpr (h c)]
theorem fresh_nil {l sh : List Nat} (h : ∀ c ∈ l, c ∈ sh) : (fresh l sh).isEmpty = true := by
  unfold fresh
  rw [List.isEmpty_iff, List.filter_eq_nil_iff]
  intro c hc
  simp [h c hc]
theorem sub_len : ∀ {l m : List Nat}, l.Nodup → (∀ c ∈ l, c ∈ m) → l.length ≤ m.length
  | [], _, _, _ => Nat.zero_le _
  | a :: l, m, nd, h => by
    obtain ⟨h1, h2⟩ := List.nodup_cons.mp nd
    have hm := h a (List.mem_cons_self ..)
    have ih := sub_len (l := l) (m := m.erase a) h2 fun c hc => by
      have ne : c ≠ a := fun z => h1 (z ▸ hc)
      exact (List.mem_erase_of_ne ne).mpr (h c (List.mem_cons_of_mem _ hc))
    have := List.length_erase_of_mem hm
    have hp : 0 < m.length := List.length_pos_of_mem hm
    rw [List.length_cons]
    omega
/-- what is asked of the looks -/
structure Chain (L : List (List Nat)) : Prop where
  nd : ∀ l ∈ L, l.Nodup
  pos : ∀ l ∈ L, 0 < l.length
  sub : ∀ l ∈ L, ∀ m ∈ L, l.length ≤ m.length → ∀ c ∈ l, c ∈ m
  eq : ∀ l ∈ L, ∀ m ∈ L, l.length = m.length → l = m
theorem fresh_some {L : List (List Nat)} (C : Chain L) {l p sh : List Nat} (hl : l ∈ L) (hp : p ∈ L) (h : p.length ≤ l.length) (ne : p ≠ l) (e : ∀ c, c ∈ sh ↔ c ∈ p) : (fresh l sh).isEmpty = false := by
  cases h1 : (fresh l sh).isEmpty with
  | false => rfl
  | true =>
    exfalso
    unfold fresh at h1
    rw [List.isEmpty_iff, List.filter_eq_nil_iff] at h1
    have h2 : ∀ c ∈ l, c ∈ p := fun c hc => by
      have := h1 c hc
      have h3 : c ∈ sh := by simpa using this
      exact (e c).mp h3
    have h3 := sub_len (C.nd l hl) h2
    exact ne (C.eq p hp l hl (by omega))
theorem blk_walk {L : List (List Nat)} (C : Chain L) : ∀ (ls : List (List Nat)) (bs : List (List Nat)) (sh p : List Nat), (∀ l ∈ ls, l ∈ L) → p ∈ L → (∀ l ∈ ls, p.length ≤ l.length) → ls.Pairwise (fun x y => x.length ≤ y.length) → (∀ c, c ∈ sh ↔ c ∈ p) →
    (ls.foldl blkS (bs, sh)).1 = bs ++ blkL p (dA (some p) ls) ∧ ∀ c, c ∈ (ls.foldl blkS (bs, sh)).2 ↔ c ∈ lastL p (dA (some p) ls)
  | [], bs, sh, p, _, _, _, _, e => by
    refine ⟨?_, e⟩
    show bs = bs ++ []
    rw [List.append_nil]
  | l :: ls, bs, sh, p, hL, hp, hle, hs, e => by
    have hl := hL l (List.mem_cons_self ..)
    have hL' := fun m hm => hL m (List.mem_cons_of_mem _ hm)
    obtain ⟨hs1, hs2⟩ := List.pairwise_cons.mp hs
    have hpl := hle l (List.mem_cons_self ..)
    rw [List.foldl_cons]
    by_cases h : p = l
    · subst h
      have ef : blkS (bs, sh) p = (bs, sh) := by
        unfold blkS
        rw [if_pos (fresh_nil fun c hc => (e c).mpr hc)]
      have ed : dA (some p) (p :: ls) = dA (some p) ls := by
        show (if some p = some p then _ else _) = _
        rw [if_pos rfl]
      rw [ef, ed]
      exact blk_walk C ls bs sh p hL' hp (fun m hm => hle m (List.mem_cons_of_mem _ hm)) hs2 e
    · have ef : blkS (bs, sh) l = (bs ++ [fresh l sh], sh ++ fresh l sh) := by
        unfold blkS
        rw [fresh_some C hl hp hpl h e, if_neg Bool.false_ne_true]
      have ed : dA (some p) (l :: ls) = l :: dA (some l) ls := by
        show (if some p = some l then _ else _) = _
        rw [if_neg fun z => h (Option.some.inj z)]
      have e' : ∀ c, c ∈ sh ++ fresh l sh ↔ c ∈ l := fun c => by
        rw [List.mem_append]
        unfold fresh
        rw [List.mem_filter]
        constructor
        · rintro (h1 | ⟨h1, _⟩)
          · exact C.sub p hp l hl hpl c ((e c).mp h1)
          · exact h1
        · intro h1
          by_cases h2 : c ∈ sh
          · exact .inl h2
          · exact .inr ⟨h1, by simp [h2]⟩
      obtain ⟨r1, r2⟩ := blk_walk C ls (bs ++ [fresh l sh]) (sh ++ fresh l sh) l hL' hl hs1 hs2 e'
      rw [ef, ed]
      refine ⟨?_, r2⟩
      rw [r1, List.append_assoc]
      show bs ++ (fresh l sh :: _) = bs ++ (fresh l p :: _)
      rw [fresh_congr e]
      rfl
theorem dA_mem : ∀ (ls : List (List Nat)) (prev : Option (List Nat)) (x : List Nat), (x ∈ dA prev ls → x ∈ ls) ∧ (x ∈ ls → x ∈ dA prev ls ∨ prev = some x)
  | [], _, x => ⟨fun h => h, fun h => .inl h⟩
  | l :: ls, prev, x => by
    show (x ∈ (if prev = some l then dA prev ls else l :: dA (some l) ls) → _) ∧ (_ → x ∈ (if prev = some l then dA prev ls else l :: dA (some l) ls) ∨ _)
    by_cases h : prev = some l
    · rw [if_pos h]
      obtain ⟨h1, h2⟩ := dA_mem ls prev x
      refine ⟨fun z => List.mem_cons_of_mem _ (h1 z), fun z => ?_⟩
      rcases List.mem_cons.mp z with rfl | z
      · exact .inr h
      · exact h2 z
    · rw [if_neg h]
      obtain ⟨h1, h2⟩ := dA_mem ls (some l) x
      refine ⟨fun z => ?_, fun z => .inl ?_⟩
      · rcases List.mem_cons.mp z with rfl | z
        · exact List.mem_cons_self ..
        · exact List.mem_cons_of_mem _ (h1 z)
      · rcases List.mem_cons.mp z with rfl | z
        · exact List.mem_cons_self ..
        · rcases h2 z with z | z
          · exact List.mem_cons_of_mem _ z
          · rw [Option.some.inj z]
            exact List.mem_cons_self ..
theorem dA_up {L : List (List Nat)} (C : Chain L) : ∀ (ls : List (List Nat)) (p : List Nat), (∀ l ∈ ls, l ∈ L) → p ∈ L → (∀ l ∈ ls, p.length ≤ l.length) → ls.Pairwise (fun x y => x.length ≤ y.length) →
    (dA (some p) ls).Pairwise (fun x y => x.length < y.length) ∧ ∀ x ∈ dA (some p) ls, p.length < x.length
  | [], p, _, _, _, _ => ⟨List.Pairwise.nil, fun x h => by cases h⟩
  | l :: ls, p, hL, hp, hle, hs => by
    have hl := hL l (List.mem_cons_self ..)
    have hL' := fun m hm => hL m (List.mem_cons_of_mem _ hm)
    obtain ⟨hs1, hs2⟩ := List.pairwise_cons.mp hs
    have hpl := hle l (List.mem_cons_self ..)
    show (if some p = some l then dA (some p) ls else l :: dA (some l) ls).Pairwise _ ∧ ∀ x ∈ (if some p = some l then dA (some p) ls else l :: dA (some l) ls), _
    by_cases h : p = l
    · rw [if_pos (by rw [h])]
      exact dA_up C ls p hL' hp (fun m hm => hle m (List.mem_cons_of_mem _ hm)) hs2
    · rw [if_neg fun z => h (Option.some.inj z)]
      obtain ⟨r1, r2⟩ := dA_up C ls l hL' hl hs1 hs2
      have hlt : p.length < l.length := by
        rcases Nat.lt_or_ge p.length l.length with z | z
        · exact z
        · exact absurd (C.eq p hp l hl (by omega)) h
      refine ⟨List.pairwise_cons.mpr ⟨r2, r1⟩, fun x hx => ?_⟩
      rcases List.mem_cons.mp hx with rfl | hx
      · exact hlt
      · have := r2 x hx
        omega
theorem up_one {L M : List (List Nat)} (hL : L.Pairwise (fun x y => x.length < y.length)) (hM : M.Pairwise (fun x y => x.length < y.length)) (h : ∀ x, x ∈ L ↔ x ∈ M) : L = M := by
  have nd : ∀ {K : List (List Nat)}, K.Pairwise (fun x y => x.length < y.length) → K.Nodup := fun hK => hK.imp fun {a b} z e => by
    subst e
    omega
  exact List.Perm.eq_of_pairwise (le := fun x y : List Nat => x.length < y.length) (fun a b _ _ h1 h2 => by omega) hL hM ((List.perm_ext_iff_of_nodup (nd hL) (nd hM)).mpr h)
theorem blocks_eq {L L' : List (List Nat)} {ws : List Nat} (C : Chain L) (hL : L.Pairwise (fun x y => x.length ≤ y.length)) (hL' : L'.Pairwise (fun x y => x.length < y.length)) (h : ∀ x, x ∈ L' ↔ x ∈ L) : blocksP L ws = blocksL L' ws := by
  cases L with
  | nil =>
    have e : L' = [] := by
      cases L' with
      | nil => rfl
      | cons x xs => exact absurd ((h x).mp (List.mem_cons_self ..)) (by simp)
    subst e
    rfl
  | cons l ls =>
    have hl : l ∈ l :: ls := List.mem_cons_self ..
    have hls : ∀ m ∈ ls, m ∈ l :: ls := fun m hm => List.mem_cons_of_mem _ hm
    obtain ⟨hs1, hs2⟩ := List.pairwise_cons.mp hL
    obtain ⟨r1, r2⟩ := blk_walk C ls [fresh l []] (fresh l []) l hls hl hs1 hs2 fun c => by
      unfold fresh
      rw [List.mem_filter]
      simp
    obtain ⟨u1, u2⟩ := dA_up C ls l hls hl hs1 hs2
    have ne : (fresh l []).isEmpty = false := by
      have e : fresh l [] = l := by
        unfold fresh
        exact List.filter_eq_self.mpr fun c _ => by simp
      rw [e]
      have := C.pos l hl
      cases l with
      | nil => simp at this
      | cons a b => rfl
    have e0 : blkF (l :: ls) = ls.foldl blkS ([fresh l []], fresh l []) := by
      unfold blkF
      rw [List.foldl_cons]
      have : blkS ([], []) l = ([fresh l []], fresh l []) := by
        unfold blkS
        rw [ne, if_neg Bool.false_ne_true]
        rfl
      rw [this]
    have e1 : L' = l :: dA (some l) ls := by
      refine up_one hL' (List.pairwise_cons.mpr ⟨u2, u1⟩) fun x => ?_
      rw [h x]
      constructor
      · intro z
        rcases List.mem_cons.mp z with rfl | z
        · exact List.mem_cons_self ..
        · rcases (dA_mem ls (some l) x).2 z with z | z
          · exact List.mem_cons_of_mem _ z
          · rw [Option.some.inj z]
            exact List.mem_cons_self ..
      · intro z
        rcases List.mem_cons.mp z with rfl | z
        · exact List.mem_cons_self ..
        · exact List.mem_cons_of_mem _ ((dA_mem ls (some l) x).1 z)
    rw [e1]
    unfold blocksP blocksL
    rw [e0]
    have f1 : (ls.foldl blkS ([fresh l []], fresh l [])).1 = blkL [] (l :: dA (some l) ls) := r1
    have f2 : fresh ws (ls.foldl blkS ([fresh l []], fresh l [])).2 = fresh ws (lastL [] (l :: dA (some l) ls)) := fresh_congr r2
    rw [f1, f2]
end K7M
namespace K7M
theorem Good.small {n : Nat} {S : Sys} {g : List Nat} (hn : 1 ≤ n) (G : Good n S g) {i : Nat} (hi : i < n) (hg : i ∉ g) : (S i).cnt < n * (n + 1) := by
  have hl := G.lev i hi
  have h1 := G.one i hi
  have hd : ((S i).cnt + n) / (n + 1) ≤ n := by omega
  have h2 : (S i).cnt + n < (n + 1) * (n + 1) := (Nat.div_lt_iff_lt_mul (Nat.succ_pos n)).mp (Nat.lt_succ_of_le hd)
  have h3 : (n + 1) * (n + 1) = n * (n + 1) + (n + 1) := Nat.succ_mul n (n + 1)
  rcases Nat.lt_or_ge (S i).cnt (n * (n + 1)) with h | h
  · exact h
  · exfalso
    have e : (S i).cnt = n * (n + 1) := by omega
    have hm : (S i).cnt % (n + 1) = 0 := by rw [e]; exact Nat.mul_mod_left _ _
    have hpos : 0 < (S i).cnt := by rw [e]; exact Nat.mul_pos (by omega) (by omega)
    have h4 := G.not i hi hg hm hpos
    have hp : pos n (S i) = n := by
      unfold pos
      rw [if_pos hm, if_neg (by omega)]
    have h5 := List.length_pos_of_mem (G.self i hi (by rw [hp]; exact hi))
    have h6 : ((S i).cnt + n) / (n + 1) = n := by
      rw [e, Nat.mul_comm, Nat.mul_add_div (Nat.succ_pos n), Nat.div_eq_of_lt (Nat.lt_succ_self n), Nat.add_zero]
    rw [h6] at hl
    omega
theorem cnt_put {n : Nat} {S : Sys} {i : Nat} : (put S i (stp n S i) i).cnt = (S i).cnt + 1 := by
  rw [put_same]
  unfold stp
  split <;> rfl
theorem all_gone {n : Nat} {S : Sys} {g : List Nat} (G : Good n S g) (h : ∀ i, i < n → i ∈ g) : g.length = n := by
  have p : (List.range n).Perm g := (List.perm_ext_iff_of_nodup List.nodup_range G.nd).mpr fun a => by
    rw [List.mem_range]
    exact ⟨fun z => h a z, fun z => (G.gon a z).1⟩
  have := p.length_eq
  rw [List.length_range] at this
  exact this.symm
end K7M
namespace K7M
section
variable {n : Nat} {S : Sys} {g : List Nat}
/-- what the blocks ahead of a name put together -/
theorem ahead_walk (G : Good n S g) : ∀ (ls : List (List Nat)) (seen : List Nat), ls.Pairwise (fun x y => x.length < y.length) → (∀ l ∈ ls, ∃ e ∈ g, (S e).rd = l) → (∀ l ∈ ls, ∀ c ∈ seen, c ∈ l) → seen.Nodup → (∀ c ∈ g, (S c).rd ∈ ls ∨ ∀ x ∈ (S c).rd, x ∈ seen) →
    (∀ (k : Nat) (b : List Nat) (c : Nat), (blkL seen ls)[k]? = some b → c ∈ b → c ∈ g → (seen ++ ((blkL seen ls).take (k + 1)).flatten).Perm (S c).rd) ∧ ∀ c ∈ g, ∀ x ∈ (S c).rd, x ∈ lastL seen ls
  | [], seen, _, _, _, _, hc => ⟨fun k b c h => by simp [blkL] at h, fun c hcg => (hc c hcg).resolve_left (by simp)⟩
  | l :: ls, seen, hup, hls, hsub, hnd, hc => by
    obtain ⟨e, he, el⟩ := hls l (List.mem_cons_self ..)
    obtain ⟨u1, u2⟩ := List.pairwise_cons.mp hup
    have hsl := hsub l (List.mem_cons_self ..)
    have lnd : l.Nodup := by
      rw [← el, (G.look he).2.2.1]
      exact List.nodup_range.filter _
    have hp : (seen ++ fresh l seen).Perm l := by
      refine (List.perm_ext_iff_of_nodup ?_ lnd).mpr fun a => ?_
      · refine List.nodup_append.mpr ⟨hnd, lnd.filter _, fun a ha b hb e => ?_⟩
        subst e
        have := (List.mem_filter.mp hb).2
        simp [ha] at this
      · rw [List.mem_append]
        unfold fresh
        rw [List.mem_filter]
        constructor
        · rintro (h | ⟨h, _⟩)
          · exact hsl a h
          · exact h
        · intro h
          by_cases h2 : a ∈ seen
          · exact .inl h2
          · exact .inr ⟨h, by simp [h2]⟩
    have sub2 : ∀ m ∈ ls, ∀ c ∈ l, c ∈ m := fun m hm c hcl => by
      obtain ⟨f, hf, em⟩ := hls m (List.mem_cons_of_mem _ hm)
      rw [← em]
      refine G.sub he hf ?_ c (by rw [el]; exact hcl)
      rw [el, em]
      exact Nat.le_of_lt (u1 m hm)
    obtain ⟨r1, r2⟩ := ahead_walk G ls l u2 (fun m hm => hls m (List.mem_cons_of_mem _ hm)) sub2 lnd fun c hcg => by
      rcases hc c hcg with h | h
      · rcases List.mem_cons.mp h with h | h
        · exact .inr fun x hx => by rw [← h]; exact hx
        · exact .inl h
      · exact .inr fun x hx => hsl x (h x hx)
    refine ⟨fun k b c hb hcb hcg => ?_, r2⟩
    cases k with
    | zero =>
      have eb : fresh l seen = b := Option.some.inj hb
      subst eb
      obtain ⟨c1, c2⟩ := List.mem_filter.mp hcb
      have cs : c ∉ seen := by simpa using c2
      have er : (S c).rd = l := by
        rcases hc c hcg with h | h
        · rcases List.mem_cons.mp h with h | h
          · exact h
          · exfalso
            have h1 := u1 _ h
            have h2 := G.sub_in he hcg (by rw [el]; exact c1)
            rw [el] at h2
            omega
        · exact absurd (h c (G.look hcg).2.2.2.1) cs
      rw [er]
      have e1 : ((blkL seen (l :: ls)).take (0 + 1)).flatten = fresh l seen := by
        show [fresh l seen].flatten = fresh l seen
        simp
      rw [e1]
      exact hp
    | succ k =>
      have h := r1 k b c hb hcb hcg
      have e1 : ((blkL seen (l :: ls)).take (k + 1 + 1)).flatten = fresh l seen ++ ((blkL l ls).take (k + 1)).flatten := rfl
      rw [e1, ← List.append_assoc]
      exact (hp.append_right _).trans h
theorem ahead_all (G : Good n S g) {L' : List (List Nat)} {ws : List Nat} (hup : L'.Pairwise (fun x y => x.length < y.length)) (mem : ∀ x, x ∈ L' ↔ ∃ c ∈ g, (S c).rd = x) {k : Nat} {b : List Nat} {c : Nat} (hb : (blocksL L' ws)[k]? = some b) (hc : c ∈ b) (hcg : c ∈ g) :
    (((blocksL L' ws).take (k + 1)).flatten).Perm (S c).rd := by
  obtain ⟨r1, r2⟩ := ahead_walk G L' [] hup (fun l hl => (mem l).mp hl) (fun _ _ c hc => by cases hc) List.nodup_nil fun c hc => .inl ((mem _).mpr ⟨c, hc, rfl⟩)
  unfold blocksL at hb ⊢
  cases h : (fresh ws (lastL [] L')).isEmpty with
  | true =>
    rw [h, if_pos rfl] at hb
    rw [if_pos rfl]
    exact r1 k b c hb hc hcg
  | false =>
    rw [h, if_neg Bool.false_ne_true] at hb
    rw [if_neg Bool.false_ne_true]
    rcases Nat.lt_or_ge k (blkL [] L').length with hk | hk
    · rw [List.getElem?_append_left hk] at hb
      rw [List.take_append_of_le_length (by omega)]
      exact r1 k b c hb hc hcg
    · exfalso
      rw [List.getElem?_append_right hk] at hb
      have eb : b = fresh ws (lastL [] L') := by
        rcases Nat.eq_zero_or_pos (k - (blkL [] L').length) with z | z
        · rw [z] at hb
          exact (Option.some.inj hb).symm
        · rw [List.getElem?_eq_none (by show 1 ≤ _; omega)] at hb
          cases hb
      subst eb
      have := (List.mem_filter.mp hc).2
      simp [r2 c hcg c (G.look hcg).2.2.2.1] at this
end
end K7M
namespace K7M
/-! told schedules -/
/-- the steps of one block: so many times a write of each and n reads of each -/
def turnOf (n : Nat) (b : List Nat) : List Nat := b ++ b.flatMap fun c => List.replicate n c
def fold (n : Nat) (p : Sys × List Nat) (ks : List Nat) : Sys × List Nat := ks.foldl (runS n) p
theorem fold_append (n : Nat) (p : Sys × List Nat) (a b : List Nat) : fold n p (a ++ b) = fold n (fold n p a) b := by
  unfold fold
  rw [List.foldl_append]
/-- each of b writes once -/
theorem fold_write {n : Nat} (hn : 1 ≤ n) : ∀ (b : List Nat) (S : Sys) (g : List Nat), b.Nodup → (∀ c ∈ b, c ∉ g ∧ (S c).cnt % (n + 1) = 0) →
    fold n (S, g) b = (fun j => if j ∈ b then ⟨(S j).lev - 1, (S j).cnt + 1, []⟩ else S j, g)
  | [], S, g, _, _ => by
    unfold fold
    simp
  | c :: b, S, g, nd, h => by
    obtain ⟨h1, h2⟩ := List.nodup_cons.mp nd
    obtain ⟨hg, h0⟩ := h c (List.mem_cons_self ..)
    have hv : ¬ lvs n S c = true := fun z => by
      have := (of_decide_eq_true z).1
      omega
    have e : runS n (S, g) c = (put S c (stp n S c), g) := by
      unfold runS
      rw [if_neg hg, if_neg hv]
    have es : stp n S c = ⟨(S c).lev - 1, (S c).cnt + 1, []⟩ := if_pos h0
    have ih := fold_write hn b (put S c (stp n S c)) g h2 fun d hd => by
      have ne : d ≠ c := fun z => h1 (z ▸ hd)
      rw [put_ne S _ ne]
      exact h d (List.mem_cons_of_mem _ hd)
    unfold fold at ih ⊢
    rw [List.foldl_cons, e, ih]
    congr 1
    funext j
    by_cases hj : j = c
    · subst hj
      rw [if_neg h1, put_same, es, if_pos (List.mem_cons_self ..)]
    · rw [put_ne S _ hj]
      by_cases hb : j ∈ b
      · rw [if_pos hb, if_pos (List.mem_cons_of_mem _ hb)]
      · rw [if_neg hb, if_neg fun z => (List.mem_cons.mp z).elim hj hb]
/-- c reads the cells from k to n - 1 -/
theorem fold_read {n : Nat} {c : Nat} {g : List Nat} (hg : c ∉ g) : ∀ (m k : Nat) (S : Sys), k + m = n → (S c).cnt % (n + 1) = k + 1 → 0 < m → (∀ j, (S j).lev = (S j).lev) →
    fold n (S, g) (List.replicate m c) = (put S c ⟨(S c).lev, (S c).cnt + m, (S c).rd ++ ((List.range' k m).filter fun j => decide ((S j).lev ≤ (S c).lev))⟩,
      if (S c).lev ≤ (((S c).rd ++ ((List.range' k m).filter fun j => decide ((S j).lev ≤ (S c).lev))).length : Int) then g ++ [c] else g)
  | 0, k, S, _, _, h, _ => absurd h (Nat.lt_irrefl 0)
  | m + 1, k, S, hk, hc, _, _ => by
    have h0 : ¬ (S c).cnt % (n + 1) = 0 := by omega
    have es : stp n S c = ⟨(S c).lev, (S c).cnt + 1, if (S k).lev ≤ (S c).lev then (S c).rd ++ [k] else (S c).rd⟩ := by
      unfold stp
      rw [if_neg h0, hc]
      rfl
    have er : (List.range' k (m + 1)).filter (fun j => decide ((S j).lev ≤ (S c).lev)) = (if (S k).lev ≤ (S c).lev then [k] else []) ++ (List.range' (k + 1) m).filter fun j => decide ((S j).lev ≤ (S c).lev) := by
      rw [List.range'_succ, List.filter_cons]
      by_cases h : (S k).lev ≤ (S c).lev
      · rw [if_pos (decide_eq_true h), if_pos h]; rfl
      · rw [if_neg (by simp [h]), if_neg h]; rfl
    have erd : (stp n S c).rd = (S c).rd ++ (if (S k).lev ≤ (S c).lev then [k] else []) := by
      rw [es]
      by_cases h : (S k).lev ≤ (S c).lev <;> simp [h]
    unfold fold
    rw [List.replicate_succ, List.foldl_cons]
    cases m with
    | zero =>
      have e : runS n (S, g) c = (put S c (stp n S c), if lvs n S c = true then g ++ [c] else g) := by
        unfold runS
        rw [if_neg hg]
      rw [e]
      have hl : (lvs n S c = true) ↔ (S c).lev ≤ (((S c).rd ++ ((List.range' k 1).filter fun j => decide ((S j).lev ≤ (S c).lev))).length : Int) := by
        unfold lvs
        rw [decide_eq_true_iff, erd, er, es]
        simp only [List.range'_zero, List.filter_nil, List.append_nil]
        exact ⟨fun z => z.2, fun z => ⟨by omega, z⟩⟩
      show (put S c (stp n S c), if lvs n S c = true then g ++ [c] else g) = _
      congr 1
      · congr 1
        rw [es, er]
        simp only [List.range'_zero, List.filter_nil, List.append_nil]
        have := erd
        rw [es] at this
        have h2 : (if (S k).lev ≤ (S c).lev then (S c).rd ++ [k] else (S c).rd) = (S c).rd ++ (if (S k).lev ≤ (S c).lev then [k] else []) := this
        rw [h2]
      · by_cases h : lvs n S c = true
        · rw [if_pos h, if_pos (hl.mp h)]
        · rw [if_neg h, if_neg fun z => h (hl.mpr z)]
    | succ m =>
      have hv : ¬ lvs n S c = true := fun z => by
        have := (of_decide_eq_true z).1
        omega
      have e : runS n (S, g) c = (put S c (stp n S c), g) := by
        unfold runS
        rw [if_neg hg, if_neg hv]
      rw [e]
      have lev' : ∀ j, (put S c (stp n S c) j).lev = (S j).lev := fun j => by
        by_cases h : j = c
        · subst h; rw [put_same, es]
        · rw [put_ne S _ h]
      have ih := fold_read (n := n) hg (m + 1) (k + 1) (put S c (stp n S c)) (by omega) (by
        rw [put_same, es]
        show ((S c).cnt + 1) % (n + 1) = k + 1 + 1
        have e1 : 1 % (n + 1) = 1 := Nat.mod_eq_of_lt (by omega)
        have e2 : (k + 1 + 1) % (n + 1) = k + 1 + 1 := Nat.mod_eq_of_lt (by omega)
        rw [Nat.add_mod, hc, e1, e2]) (Nat.succ_pos m) (fun _ => rfl)
      unfold fold at ih
      rw [ih]
      simp only [lev']
      rw [put_same, er, erd, es, List.append_assoc]
      congr 1
      · funext j
        by_cases h : j = c
        · subst h
          rw [put_same, put_same]
          show NS.mk _ _ _ = NS.mk _ _ _
          rw [Nat.add_assoc, Nat.add_comm 1 (m + 1)]
        · rw [put_ne _ _ h, put_ne _ _ h, put_ne _ _ h]
/-- the cells at most L -/
def FF (n : Nat) (S : Sys) (L : Int) : List Nat := (List.range n).filter fun j => decide ((S j).lev ≤ L)
theorem FF_congr {n : Nat} {S S' : Sys} {L : Int} (h : ∀ j, j < n → ((S j).lev ≤ L ↔ (S' j).lev ≤ L)) : FF n S L = FF n S' L := List.filter_congr fun j hj => decide_eq_decide.mpr (h j (List.mem_range.mp hj))
theorem fold_reads {n : Nat} (hn : 1 ≤ n) (L : Int) : ∀ (b : List Nat) (S : Sys) (g : List Nat), b.Nodup → (∀ c ∈ b, c ∉ g ∧ (S c).cnt % (n + 1) = 1 ∧ (S c).rd = [] ∧ (S c).lev = L) →
    fold n (S, g) (b.flatMap fun c => List.replicate n c) = (fun j => if j ∈ b then ⟨L, (S j).cnt + n, FF n S L⟩ else S j, if L ≤ ((FF n S L).length : Int) then g ++ b else g)
  | [], S, g, _, _ => by
    unfold fold
    simp
  | c :: b, S, g, nd, h => by
    obtain ⟨h1, h2⟩ := List.nodup_cons.mp nd
    obtain ⟨hg, hc, hr, hl⟩ := h c (List.mem_cons_self ..)
    have e := fold_read (n := n) (c := c) hg n 0 S (by omega) hc (by omega) fun _ => rfl
    rw [hr, hl, List.nil_append, ← List.range_eq_range'] at e
    have e : fold n (S, g) (List.replicate n c) = (put S c ⟨L, (S c).cnt + n, FF n S L⟩, if L ≤ ((FF n S L).length : Int) then g ++ [c] else g) := e
    rw [List.flatMap_cons, fold_append, e]
    have eF : FF n (put S c ⟨L, (S c).cnt + n, FF n S L⟩) L = FF n S L := FF_congr fun j _ => by
      by_cases h : j = c
      · subst h; rw [put_same, hl]
      · rw [put_ne S _ h]
    have ih := fold_reads hn L b (put S c ⟨L, (S c).cnt + n, FF n S L⟩) (if L ≤ ((FF n S L).length : Int) then g ++ [c] else g) h2 fun d hd => by
      have ne : d ≠ c := fun z => h1 (z ▸ hd)
      rw [put_ne S _ ne]
      obtain ⟨q1, q2⟩ := h d (List.mem_cons_of_mem _ hd)
      refine ⟨?_, q2⟩
      split
      · intro z
        rcases List.mem_append.mp z with z | z
        · exact q1 z
        · exact ne (List.mem_singleton.mp z)
      · exact q1
    rw [ih, eF]
    congr 1
    · funext j
      by_cases hj : j = c
      · subst hj
        rw [if_neg h1, put_same, if_pos (List.mem_cons_self ..)]
      · rw [put_ne S _ hj]
        by_cases hb : j ∈ b
        · rw [if_pos hb, if_pos (List.mem_cons_of_mem _ hb)]
        · rw [if_neg hb, if_neg fun z => (List.mem_cons.mp z).elim hj hb]
    · split
      · rw [List.append_assoc]; rfl
      · rfl
/-- one turn of a block: all come down to L and read -/
theorem fold_turn {n : Nat} (hn : 1 ≤ n) (L : Int) {b : List Nat} {S : Sys} {g F : List Nat} (nd : b.Nodup) (h : ∀ c ∈ b, c ∉ g ∧ (S c).cnt % (n + 1) = 0 ∧ (S c).lev = L + 1) (hF : F = (List.range n).filter fun j => decide (j ∈ b ∨ (S j).lev ≤ L)) :
    fold n (S, g) (turnOf n b) = (fun j => if j ∈ b then ⟨L, (S j).cnt + (n + 1), F⟩ else S j, if L ≤ (F.length : Int) then g ++ b else g) := by
  unfold turnOf
  rw [fold_append, fold_write hn b S g nd fun c hc => ⟨(h c hc).1, (h c hc).2.1⟩]
  have r := fold_reads hn L b (fun j => if j ∈ b then ⟨(S j).lev - 1, (S j).cnt + 1, []⟩ else S j) g nd fun c hc => by
    obtain ⟨q1, q2, q3⟩ := h c hc
    refine ⟨q1, ?_⟩
    try dsimp only
    rw [if_pos hc]
    refine ⟨?_, rfl, by show (S c).lev - 1 = L; omega⟩
    show ((S c).cnt + 1) % (n + 1) = 1
    rw [Nat.add_mod, q2, Nat.zero_add, Nat.mod_mod, Nat.mod_eq_of_lt (by omega : 1 < n + 1)]
  have eF : FF n (fun j => if j ∈ b then (⟨(S j).lev - 1, (S j).cnt + 1, []⟩ : NS) else S j) L = F := by
    rw [hF]
    refine List.filter_congr fun j _ => decide_eq_decide.mpr ?_
    dsimp only
    by_cases hj : j ∈ b
    · rw [if_pos hj]
      have := (h j hj).2.2
      exact ⟨fun _ => .inl hj, fun _ => by show (S j).lev - 1 ≤ L; omega⟩
    · rw [if_neg hj]
      exact ⟨fun z => .inr z, fun z => z.resolve_left hj⟩
  rw [r, eF]
  congr 1
  funext j
  by_cases hj : j ∈ b
  · rw [if_pos hj, if_pos hj, if_pos hj]
    show NS.mk _ _ _ = NS.mk _ _ _
    rw [Nat.add_assoc, Nat.add_comm 1 n]
  · rw [if_neg hj, if_neg hj]
    try dsimp only
    rw [if_neg hj]
/-- where the blocks ahead (their names D) have been walked -/
structure Ahead (n : Nat) (D : List Nat) (S : Sys) (g : List Nat) : Prop where
  sub : ∀ c ∈ D, c < n
  nd : D.Nodup
  mem : ∀ c, c ∈ g ↔ c ∈ D
  low : ∀ c ∈ D, (S c).lev ≤ D.length
  new : ∀ c, c < n → c ∉ D → S c = ⟨(n : Int) + 1, 0, []⟩
/-- the names D and b, in order -/
def both (n : Nat) (D b : List Nat) : List Nat := (List.range n).filter fun j => decide (j ∈ D ∨ j ∈ b)
theorem len_both {n : Nat} {D b : List Nat} (h1 : ∀ c ∈ D, c < n) (h2 : ∀ c ∈ b, c < n) (n1 : D.Nodup) (n2 : b.Nodup) (dj : ∀ c ∈ b, c ∉ D) : (both n D b).length = D.length + b.length := by
  have p : (both n D b).Perm (D ++ b) := by
    refine (List.perm_ext_iff_of_nodup (List.nodup_range.filter _) (List.nodup_append.mpr ⟨n1, n2, fun a ha c hc e => dj c hc (e ▸ ha)⟩)).mpr fun a => ?_
    rw [List.mem_filter, List.mem_range, decide_eq_true_iff, List.mem_append]
    exact ⟨fun z => z.2, fun z => ⟨z.elim (h1 a) (h2 a), z⟩⟩
  rw [p.length_eq, List.length_append]
/-- t turns of the next block -/
theorem fold_turns {n : Nat} (hn : 1 ≤ n) {D b : List Nat} {S : Sys} {g : List Nat} (A : Ahead n D S g) (hb : ∀ c ∈ b, c < n) (nd : b.Nodup) (dj : ∀ c ∈ b, c ∉ D) (hm : 1 ≤ b.length) : ∀ t : Nat, t ≤ n + 1 - (D.length + b.length) →
    fold n (S, g) (List.replicate t (turnOf n b)).flatten = (fun j => if j ∈ b ∧ 0 < t then ⟨(n : Int) + 1 - t, t * (n + 1), both n D b⟩ else S j, if t = n + 1 - (D.length + b.length) ∧ 0 < t then g ++ b else g)
  | 0, _ => by
    unfold fold
    simp
  | t + 1, ht => by
    have ih := fold_turns hn A hb nd dj hm t (by omega)
    have hs := len_both A.sub hb A.nd nd dj
    have e0 : ¬ (t = n + 1 - (D.length + b.length) ∧ 0 < t) := fun z => by omega
    rw [if_neg e0] at ih
    have ef : (List.replicate (t + 1) (turnOf n b)).flatten = (List.replicate t (turnOf n b)).flatten ++ turnOf n b := by
      rw [List.replicate_succ', List.flatten_append]
      simp
    rw [ef, fold_append, ih]
    have hbg : ∀ c ∈ b, c ∉ g := fun c hc z => dj c hc ((A.mem c).mp z)
    have st : ∀ c ∈ b, (if c ∈ b ∧ 0 < t then (⟨(n : Int) + 1 - t, t * (n + 1), both n D b⟩ : NS) else S c).lev = (n : Int) + 1 - t ∧ (if c ∈ b ∧ 0 < t then (⟨(n : Int) + 1 - t, t * (n + 1), both n D b⟩ : NS) else S c).cnt = t * (n + 1) := fun c hc => by
      by_cases h0 : 0 < t
      · rw [if_pos ⟨hc, h0⟩]
        exact ⟨rfl, rfl⟩
      · rw [if_neg fun z => h0 z.2, A.new c (hb c hc) (dj c hc)]
        have : t = 0 := by omega
        subst this
        exact ⟨by simp, by simp⟩
    have r := fold_turn (n := n) hn ((n : Int) + 1 - ((t + 1 : Nat) : Int)) (b := b) (S := fun j => if j ∈ b ∧ 0 < t then ⟨(n : Int) + 1 - t, t * (n + 1), both n D b⟩ else S j) (g := g) (F := both n D b) nd (fun c hc => by
        obtain ⟨q1, q2⟩ := st c hc
        refine ⟨hbg c hc, ?_, ?_⟩
        · try dsimp only
          rw [q2]
          exact Nat.mul_mod_left _ _
        · try dsimp only
          rw [q1]
          omega) (by
        unfold both
        refine List.filter_congr fun j hj => decide_eq_decide.mpr ?_
        have hjn := List.mem_range.mp hj
        by_cases hjb : j ∈ b
        · exact ⟨fun _ => .inl hjb, fun _ => .inr hjb⟩
        · try dsimp only
          rw [if_neg fun z => hjb z.1]
          by_cases hjD : j ∈ D
          · have := A.low j hjD
            exact ⟨fun _ => .inr (by omega), fun _ => .inl hjD⟩
          · rw [A.new j hjn hjD]
            constructor
            · rintro (z | z)
              · exact absurd z hjD
              · exact absurd z hjb
            · rintro (z | z)
              · exact absurd z hjb
              · have z : (n : Int) + 1 ≤ (n : Int) + 1 - ((t + 1 : Nat) : Int) := z
                omega)
    rw [r]
    congr 1
    · funext j
      by_cases hj : j ∈ b
      · rw [if_pos hj, (st j hj).2, if_pos (show j ∈ b ∧ 0 < t + 1 from ⟨hj, Nat.succ_pos t⟩), Nat.succ_mul]
      · rw [if_neg hj, if_neg (show ¬ (j ∈ b ∧ 0 < t) from fun z => hj z.1), if_neg (show ¬ (j ∈ b ∧ 0 < t + 1) from fun z => hj z.1)]
    · rw [hs]
      by_cases h : t + 1 = n + 1 - (D.length + b.length)
      · rw [if_pos (show t + 1 = n + 1 - (D.length + b.length) ∧ 0 < t + 1 from ⟨h, Nat.succ_pos t⟩), if_pos (by omega)]
      · rw [if_neg (show ¬ (t + 1 = n + 1 - (D.length + b.length) ∧ 0 < t + 1) from fun z => h z.1), if_neg (by omega)]
end K7M
namespace K7M
/-- the told schedule of blocks, s0 names ahead of them -/
def told (n : Nat) : Nat → List (List Nat) → List Nat
  | _, [] => []
  | s0, b :: bs => (List.replicate (n + 1 - (s0 + b.length)) (turnOf n b)).flatten ++ told n (s0 + b.length) bs
/-- the looks that are due -/
def dueOf (n : Nat) : List Nat → List (List Nat) → List (Nat × List Nat)
  | _, [] => []
  | D, b :: bs => b.map (fun c => (c, both n D b)) ++ dueOf n (D ++ b) bs
/-- blocks that may be told behind the names D -/
structure Told (n : Nat) (D : List Nat) (bs : List (List Nat)) : Prop where
  ne : ∀ b ∈ bs, 1 ≤ b.length
  sub : ∀ b ∈ bs, ∀ c ∈ b, c < n
  nd : (D ++ bs.flatten).Nodup
theorem Told.tail {n : Nat} {D b : List Nat} {bs : List (List Nat)} (T : Told n D (b :: bs)) : Told n (D ++ b) bs :=
  ⟨fun x hx => T.ne x (List.mem_cons_of_mem _ hx), fun x hx => T.sub x (List.mem_cons_of_mem _ hx), by
    have := T.nd
    rw [List.flatten_cons, ← List.append_assoc] at this
    exact this⟩
theorem Told.head {n : Nat} {D b : List Nat} {bs : List (List Nat)} (T : Told n D (b :: bs)) : b.Nodup ∧ ∀ c ∈ b, c ∉ D := by
  have h := T.tail.nd
  have h1 := (List.nodup_append.mp h).1
  obtain ⟨_, h2, h3⟩ := List.nodup_append.mp h1
  exact ⟨h2, fun c hc z => h3 c z c hc rfl⟩
theorem due_mem {n : Nat} : ∀ (bs : List (List Nat)) (D : List Nat) (c : Nat) (x : List Nat), (c, x) ∈ dueOf n D bs → c ∈ bs.flatten
  | [], _, _, _, h => by cases h
  | b :: bs, D, c, x, h => by
    rw [List.flatten_cons]
    rcases List.mem_append.mp h with h | h
    · obtain ⟨d, hd, e⟩ := List.mem_map.mp h
      cases e
      exact List.mem_append_left _ hd
    · exact List.mem_append_right _ (due_mem bs (D ++ b) c x h)
theorem fold_told {n : Nat} (hn : 1 ≤ n) : ∀ (bs : List (List Nat)) (D : List Nat) (S : Sys) (g : List Nat), Ahead n D S g → Told n D bs →
    ∃ S', fold n (S, g) (told n D.length bs) = (S', g ++ bs.flatten) ∧ Ahead n (D ++ bs.flatten) S' (g ++ bs.flatten) ∧ (∀ c, c ∉ bs.flatten → S' c = S c) ∧
      ∀ c x, (c, x) ∈ dueOf n D bs → S' c = ⟨x.length, (n + 1 - x.length) * (n + 1), x⟩ ∧ x.length ≤ n ∧ D.length < x.length
  | [], D, S, g, A, _ => ⟨S, by unfold fold told; simp, by simpa using A, fun _ _ => rfl, fun c x h => by cases h⟩
  | b :: bs, D, S, g, A, T => by
    obtain ⟨nd, dj⟩ := T.head
    have hb := T.sub b (List.mem_cons_self ..)
    have hm := T.ne b (List.mem_cons_self ..)
    have hlen := len_both A.sub hb A.nd nd dj
    have hle : D.length + b.length ≤ n := by
      rw [← hlen]
      have := List.length_filter_le (fun j => decide (j ∈ D ∨ j ∈ b)) (List.range n)
      rw [List.length_range] at this
      exact this
    have r := fold_turns hn A hb nd dj hm (n + 1 - (D.length + b.length)) (Nat.le_refl _)
    rw [if_pos (show n + 1 - (D.length + b.length) = n + 1 - (D.length + b.length) ∧ 0 < n + 1 - (D.length + b.length) from ⟨rfl, by omega⟩)] at r
    generalize hS1 : (fun j => if j ∈ b ∧ 0 < n + 1 - (D.length + b.length) then (⟨(n : Int) + 1 - ((n + 1 - (D.length + b.length) : Nat) : Int), (n + 1 - (D.length + b.length)) * (n + 1), both n D b⟩ : NS) else S j) = S1 at r
    have inb : ∀ c ∈ b, S1 c = ⟨(both n D b).length, (n + 1 - (both n D b).length) * (n + 1), both n D b⟩ := fun c hc => by
      rw [← hS1]
      dsimp only
      rw [if_pos ⟨hc, by omega⟩, hlen]
      have : (n : Int) + 1 - ((n + 1 - (D.length + b.length) : Nat) : Int) = ((D.length + b.length : Nat) : Int) := by omega
      rw [this]
    have outb : ∀ c, c ∉ b → S1 c = S c := fun c hc => by
      rw [← hS1]
      dsimp only
      rw [if_neg fun z => hc z.1]
    have A1 : Ahead n (D ++ b) S1 (g ++ b) := by
      refine ⟨fun c hc => ?_, (List.nodup_append.mp T.tail.nd).1, fun c => ?_, fun c hc => ?_, fun c hc hcD => ?_⟩
      · rcases List.mem_append.mp hc with h | h
        · exact A.sub c h
        · exact hb c h
      · rw [List.mem_append, List.mem_append, A.mem c]
      · rw [List.length_append]
        by_cases h : c ∈ b
        · rw [inb c h, hlen]
          exact Int.le_refl _
        · rw [outb c h]
          have := A.low c ((List.mem_append.mp hc).resolve_right h)
          omega
      · have h1 : c ∉ D := fun z => hcD (List.mem_append_left _ z)
        have h2 : c ∉ b := fun z => hcD (List.mem_append_right _ z)
        rw [outb c h2]
        exact A.new c hc h1
    obtain ⟨S', e, A', o', d'⟩ := fold_told hn bs (D ++ b) S1 (g ++ b) A1 T.tail
    have hdis : ∀ c ∈ b, c ∉ bs.flatten := fun c hc z => (List.nodup_append.mp T.tail.nd).2.2 c (List.mem_append_right _ hc) c z rfl
    refine ⟨S', ?_, ?_, fun c hc => ?_, fun c x h => ?_⟩
    · show fold n (S, g) (_ ++ told n (D.length + b.length) bs) = _
      rw [fold_append, r, ← List.length_append, e, List.flatten_cons, List.append_assoc]
    · rw [List.flatten_cons, ← List.append_assoc, ← List.append_assoc]
      exact A'
    · rw [List.flatten_cons, List.mem_append] at hc
      rw [o' c fun z => hc (.inr z), outb c fun z => hc (.inl z)]
    · rcases List.mem_append.mp h with h | h
      · obtain ⟨d, hd, ed⟩ := List.mem_map.mp h
        obtain ⟨rfl, rfl⟩ := Prod.mk.inj ed
        rw [o' _ (hdis _ hd), inb _ hd]
        exact ⟨rfl, by omega, by omega⟩
      · obtain ⟨q1, q2, q3⟩ := d' c x h
        rw [List.length_append] at q3
        exact ⟨q1, q2, by omega⟩
theorem ahead_init (n : Nat) : Ahead n [] (init n) [] := ⟨fun c h => (by cases h), List.nodup_nil, fun c => Iff.rfl, fun c h => (by cases h), fun c _ _ => rfl⟩
/-- the run of a told schedule -/
theorem run_told {n : Nat} (hn : 1 ≤ n) {bs : List (List Nat)} (T : Told n [] bs) : (runN n (told n 0 bs)).2 = bs.flatten ∧ (∀ c, c ∉ bs.flatten → (runN n (told n 0 bs)).1 c = init n c) ∧
    ∀ c x, (c, x) ∈ dueOf n [] bs → (runN n (told n 0 bs)).1 c = ⟨x.length, (n + 1 - x.length) * (n + 1), x⟩ := by
  obtain ⟨S', e, A, o, d⟩ := fold_told hn bs [] (init n) [] (ahead_init n) T
  have e : runN n (told n 0 bs) = (S', bs.flatten) := by
    have := e
    rw [List.nil_append] at this
    exact this
  rw [e]
  exact ⟨rfl, o, fun c x h => (d c x h).1⟩
end K7M
namespace K7M
theorem runS_grow {n : Nat} {p : Sys × List Nat} {i c : Nat} (h : c ∈ p.2) : c ∈ (runS n p i).2 := by
  unfold runS
  split
  · exact h
  · dsimp only
    split
    · exact List.mem_append_left _ h
    · exact h
theorem runS_cnt {n : Nat} {p : Sys × List Nat} {i c : Nat} : (p.1 c).cnt ≤ ((runS n p i).1 c).cnt := by
  unfold runS
  split
  · exact Nat.le_refl _
  · dsimp only
    by_cases h : c = i
    · subst h
      rw [cnt_put]
      exact Nat.le_succ _
    · rw [put_ne _ _ h]
      exact Nat.le_refl _
theorem runS_leave {n : Nat} {p : Sys × List Nat} {i c : Nat} (h : c ∉ p.2) (h2 : c ∈ (runS n p i).2) : (p.1 c).cnt + 1 ≤ ((runS n p i).1 c).cnt := by
  unfold runS at h2 ⊢
  by_cases hi : i ∈ p.2
  · rw [if_pos hi] at h2
    exact absurd h2 h
  · rw [if_neg hi] at h2 ⊢
    dsimp only at h2 ⊢
    have e : c = i := by
      by_cases hv : lvs n p.1 i = true
      · rw [if_pos hv] at h2
        rcases List.mem_append.mp h2 with z | z
        · exact absurd z h
        · exact List.mem_singleton.mp z
      · rw [if_neg hv] at h2
        exact absurd h2 h
    subst e
    rw [cnt_put]
    exact Nat.le_refl _
theorem runS_step {n : Nat} {p : Sys × List Nat} {i c : Nat} (h : c ∉ p.2) : ((runS n p i).1 c).cnt = (p.1 c).cnt + if i = c then 1 else 0 := by
  unfold runS
  by_cases hi : i ∈ p.2
  · rw [if_pos hi, if_neg (show ¬ i = c from fun z => h (z ▸ hi))]
    rfl
  · rw [if_neg hi]
    dsimp only
    by_cases e : i = c
    · subst e
      rw [cnt_put, if_pos rfl]
    · rw [put_ne _ _ (Ne.symm e), if_neg e]
      rfl
theorem fold_grow {n : Nat} {c : Nat} : ∀ (ks : List Nat) (p : Sys × List Nat), c ∈ p.2 → c ∈ (ks.foldl (runS n) p).2
  | [], _, h => h
  | i :: ks, p, h => fold_grow ks _ (runS_grow h)
theorem fold_cnt {n : Nat} {c : Nat} : ∀ (ks : List Nat) (p : Sys × List Nat), (p.1 c).cnt ≤ ((ks.foldl (runS n) p).1 c).cnt
  | [], _ => Nat.le_refl _
  | i :: ks, p => Nat.le_trans runS_cnt (fold_cnt ks _)
theorem fold_leave {n : Nat} {c : Nat} : ∀ (ks : List Nat) (p : Sys × List Nat), c ∉ p.2 → c ∈ (ks.foldl (runS n) p).2 → (p.1 c).cnt + 1 ≤ ((ks.foldl (runS n) p).1 c).cnt
  | [], _, h, h2 => absurd h2 h
  | i :: ks, p, h, h2 => by
    by_cases hc : c ∈ (runS n p i).2
    · exact Nat.le_trans (runS_leave h hc) (fold_cnt ks _)
    · exact Nat.le_trans (Nat.succ_le_succ runS_cnt) (fold_leave ks _ hc h2)
theorem fold_count {n : Nat} {c : Nat} : ∀ (ks : List Nat) (p : Sys × List Nat), c ∉ (ks.foldl (runS n) p).2 → ((ks.foldl (runS n) p).1 c).cnt = (p.1 c).cnt + ks.count c
  | [], _, _ => rfl
  | i :: ks, p, h => by
    have h1 : c ∉ (runS n p i).2 := fun z => h (fold_grow ks _ z)
    have h0 : c ∉ p.2 := fun z => h1 (runS_grow z)
    have e := fold_count ks _ h
    rw [List.foldl_cons, e, runS_step h0, List.count_cons]
    by_cases hc : i = c
    · subst hc; simp; omega
    · have : (i == c) = false := by simpa using hc
      rw [if_neg hc, this]
      simp
/-- as many steps as c takes in all: c has left -/
theorem gone_by_count {n : Nat} {ks : List Nat} {c i : Nat} (h : c ∈ (runN n ks).2) (hm : ((runN n ks).1 c).cnt ≤ (ks.take i).count c) : c ∈ (runN n (ks.take i)).2 := by
  by_cases hc : c ∈ (runN n (ks.take i)).2
  · exact hc
  · exfalso
    have e : runN n ks = (ks.drop i).foldl (runS n) (runN n (ks.take i)) := by
      unfold runN
      rw [← List.foldl_append, List.take_append_drop]
    have h1 := fold_count (ks.take i) (init n, []) hc
    have h2 := fold_leave (ks.drop i) (runN n (ks.take i)) hc (e ▸ h)
    rw [← e] at h2
    have h3 : ((runN n (ks.take i)).1 c).cnt = (init n c).cnt + (ks.take i).count c := h1
    have h4 : (init n c).cnt = 0 := rfl
    omega
/-- w is ks with steps put in by those who have left -/
inductive Wov (n : Nat) : List Nat → List Nat → Prop
  | nil : Wov n [] []
  | step {w ks : List Nat} {c : Nat} : Wov n w ks → Wov n (w ++ [c]) (ks ++ [c])
  | more {w ks : List Nat} {c : Nat} : Wov n w ks → c ∈ (runN n ks).2 → Wov n (w ++ [c]) ks
theorem wov_run {n : Nat} {w ks : List Nat} (h : Wov n w ks) : runN n w = runN n ks := by
  induction h with
  | nil => rfl
  | step _ ih => rw [runN_snoc, runN_snoc, ih]
  | @more w ks c _ hc ih =>
    rw [runN_snoc, ih]
    unfold runS
    rw [if_pos hc]
end K7M
namespace K9
open PySem L2 Er
def top (i : Nat) : Stmt := PySem.Challenge.pw_nowaittasks_k09_whole_looks_and_waiting.main.body.getD i (.Pass ⟨0, 0, 0, 0⟩)
abbrev sIsInteger : Stmt := top 6
abbrev sIsNatural : Stmt := top 7
abbrev sIsRow : Stmt := top 8
abbrev sIsPair : Stmt := top 9
abbrev sNatRow : Stmt := top 10
abbrev sNatSet : Stmt := top 11
abbrev sPartsOf : Stmt := top 12
abbrev sIsRound : Stmt := top 15
abbrev sIsLook : Stmt := top 16
abbrev sLies : Stmt := top 17
abbrev sNest : Stmt := top 18
abbrev sChecked : Stmt := top 19
abbrev sLookRun : Stmt := top 21
abbrev sLookSched : Stmt := top 22
abbrev sWaits : Stmt := top 23
abbrev sWaiting : Stmt := top 24
abbrev sDrawn : Stmt := top 26
abbrev sTake : Stmt := top 27
abbrev sLBlocks : Stmt := top 28
abbrev sLooks : Stmt := top 29
abbrev sRefused : Stmt := top 30
abbrev sNames : Stmt := top 31
abbrev sOwn : Stmt := top 32
abbrev sWithin : Stmt := top 33
abbrev sFit : Stmt := top 34
abbrev sAny : Stmt := top 35
abbrev sEach : Stmt := top 36
abbrev sLParts : Stmt := top 37
abbrev sDue : Stmt := top 38
abbrev sLWait : Stmt := top 39
abbrev sAllRef : Stmt := top 40
abbrev sLaw : Stmt := top 41
theorem sm_ty {K : PySem.W.Frag} {H : Hp} {v : V} {n : String} (h : Sm K H v n) : TyX K H v (.type n) := by
  cases h with
  | non => exact .base .non
  | bl b => exact .base (.bl b)
  | int i => exact .base (.int i)
  | str x => exact .base (.str x)
  | @lst a xs h =>
    rcases h with (h | ⟨o, h⟩) | ⟨o, its, n, h1, h2, _⟩
    · exact .base (.lst h)
    · exact .base (.frz h)
    · exact .kList h1 h2
  | @tup a xs h =>
    rcases h with (h | ⟨o, h⟩) | ⟨o, its, n, h1, h2, _⟩
    · exact .base (.tup h)
    · exact .fTuple h
    · exact .kTuple h1 h2
theorem same_t {K : PySem.W.Frag} {H H' : Hp} {a : Addr} {xs : List V} (e : Same H H') (h : SqT K H a xs) : SqT K H' a xs := by
  rcases h with (h | ⟨o, h⟩) | h
  · exact .inl (.inl (e _ _ h))
  · exact .inl (.inr ⟨o, e _ _ h⟩)
  · exact .inr h
theorem sm_ext {K : PySem.W.Frag} {H H' : Hp} {v : V} {n : String} (e : Same H H') (h : Sm K H v n) : Sm K H' v n := by
  cases h with
  | non => exact .non
  | bl b => exact .bl b
  | int i => exact .int i
  | str x => exact .str x
  | lst h => exact .lst (e.seq h)
  | tup h => exact .tup (same_t e h)
theorem same_new {H : Hp} {p : Addr} {o : HO} (h : H p = none) : Same H (upd H p o) := fun b u z => by
  rw [upd_ne (ne_of_none z h)]
  exact z
def isI : V → Bool
  | .int _ => true
  | _ => false
def isN : V → Bool
  | .int i => decide (0 ≤ i)
  | _ => false
def spThing (K : PySem.W.Frag) (r : V → String → Bool) : Sp := fun vs H Q _ => ∃ v n, vs = [v] ∧ Sm K H v n ∧ ∀ H', Same H H' → Q (.bl (r v n)) H'
section
variable {P : Program} {w : World} {K : PySem.W.Frag} {mg : Str → Option Value} {base : Heap}
theorem fok {x qual : Str} {st : Stmt} {f : Addr} {fd : FuncData} {ps : List Str} {k : Nat} {sp : Sp} (F : Fun K x qual st f fd) (hm : mg x = some (.ref f)) (b : Binds K fd ps []) (h : FnOk P w K mg base (L2.CX P w) k f fd ps sp) : Fok P w K mg base k x ps sp := ⟨f, fd, hm, F.kp, b, h⟩
theorem scIsInteger : FnScope ["thing"] ["thing"] (defScope sIsInteger) := ⟨rfl, rfl, rfl, by decide +kernel, rfl, by decide +kernel, by decide +kernel⟩
theorem ok_is_integer {f : Addr} {fd : FuncData} (F : Fun K "is_integer" "is_integer" sIsInteger f fd) (m1 : mg "isinstance" = none) (m2 : mg "int" = none) (m3 : mg "bool" = none) :
    FnOk P w K mg base (L2.CX P w) 1 f fd ["thing"] (spThing K fun v _ => isI v) := by
  refine F.okX scIsInteger (fun vs H Q E h => ?_) (fun cdv A outer s H vs Q E hr h => ?_)
  · obtain ⟨v, n, rfl, _⟩ := h
    rfl
  · obtain ⟨v, n, rfl, hS, k⟩ := h
    refine ⟨_, pss_one (ps_ret (pe_and (pe_callB call_isi (by rfl) m1 (by decide +kernel) (pa_cons (pv 0) (pa_cons (pe_bltn (v := .ty "int") (u := .type "int") (by rfl) m2 (by decide +kernel) rfl) pa_nil)))
      (pe_one (pe_not (pe_callB call_isi (by rfl) m1 (by decide +kernel) (pa_cons (pv 0) (pa_cons (pe_bltn (v := .ty "bool") (u := .type "bool") (by rfl) m3 (by decide +kernel) rfl) pa_nil))))))), ?_⟩
    refine ⟨_, rfl, v, .ty "int", .type n, .type "int", _, rfl, .ty _, sm_ty hS, kit_ty (r := n == "int" || n == "bool") (by cases hS <;> decide +kernel), _, rfl, ?_⟩
    cases hS with
    | non | str | lst | tup =>
      exact k H (Same.refl H)
    | bl b =>
      exact ⟨_, rfl, .bl b, .ty "bool", .type "bool", .type "bool", true, rfl, .ty _, sm_ty (.bl b), kit_ty (by decide +kernel), _, rfl, k H (Same.refl H)⟩
    | int i =>
      exact ⟨_, rfl, .int i, .ty "bool", .type "int", .type "bool", false, rfl, .ty _, sm_ty (.int i), kit_ty (by decide +kernel), _, rfl, k H (Same.refl H)⟩
theorem scIsNatural : FnScope ["thing"] ["thing"] (defScope sIsNatural) := ⟨rfl, rfl, rfl, by decide +kernel, rfl, by decide +kernel, by decide +kernel⟩
theorem ok_is_natural {f : Addr} {fd : FuncData} (F : Fun K "is_natural" "is_natural" sIsNatural f fd) (D1 : Fok P w K mg base 1 "is_integer" ["thing"] (spThing K fun v _ => isI v)) :
    FnOk P w K mg base (L2.CX P w) 2 f fd ["thing"] (spThing K fun v _ => isN v) := by
  refine F.okX scIsNatural (fun vs H Q E h => ?_) (fun cdv A outer s H vs Q E hr h => ?_)
  · obtain ⟨v, n, rfl, _⟩ := h
    rfl
  · obtain ⟨v, n, rfl, hS, k⟩ := h
    refine ⟨_, pss_one (ps_ret (pe_and (pe_f D1 hr (pa_cons (pv 0) pa_nil)) (pe_one (pe_cmpR op_ge (pv 0) pe_int (nomark _))))), ?_⟩
    refine ⟨_, rfl, _, _, rfl, hS, fun H1 s1 => ⟨_, rfl, ?_⟩⟩
    cases hS with
    | non | str | lst | tup | bl => exact k H1 s1
    | int i => exact ⟨_, rfl, _, _, rfl, rfl, k H1 s1⟩
theorem scIsRow : FnScope ["thing"] ["thing"] (defScope sIsRow) := ⟨rfl, rfl, rfl, by decide +kernel, rfl, by decide +kernel, by decide +kernel⟩
theorem ok_is_row {f : Addr} {fd : FuncData} (F : Fun K "is_row" "is_row" sIsRow f fd) (m1 : mg "isinstance" = none) (m2 : mg "list" = none) (m3 : mg "tuple" = none) :
    FnOk P w K mg base (L2.CX P w) 1 f fd ["thing"] (spThing K fun _ n => n == "list" || n == "tuple") := by
  refine F.okX scIsRow (fun vs H Q E h => ?_) (fun cdv A outer s H vs Q E hr h => ?_)
  · obtain ⟨v, n, rfl, _⟩ := h
    rfl
  · obtain ⟨v, n, rfl, hS, k⟩ := h
    refine ⟨_, pss_one (ps_ret (pe_callB call_isiT (by rfl) m1 (by decide +kernel) (pa_cons (pv 0) (pa_cons
      (pe_tup (pa_cons (pe_bltn (v := .ty "list") (u := .type "list") (by rfl) m2 (by decide +kernel) rfl) (pa_cons (pe_bltn (v := .ty "tuple") (u := .type "tuple") (by rfl) m3 (by decide +kernel) rfl) pa_nil))) pa_nil)))), ?_⟩
    refine ⟨_, rfl, by show 2 ≤ sizeLine; decide, fun p hp => ?_⟩
    refine ⟨v, p, _, .type n, [.type "list", .type "tuple"], n == "list" || n == "tuple", rfl, upd_same, .cons (.ty _) (.cons (.ty _) .nil), sm_ty (sm_ext (same_new hp) hS), ?_, k _ (same_new hp)⟩
    cases hS <;> first
      | exact kitAny_cons (b := true) (kit_ty (by decide +kernel)) (fun z => by cases z) (fun _ => rfl)
      | exact kitAny_cons (b := false) (kit_ty (by decide +kernel)) (fun _ => kitAny_cons (b := true) (kit_ty (by decide +kernel)) (fun z => by cases z) (fun _ => rfl)) (fun z => by cases z)
      | exact kitAny_cons (b := false) (kit_ty (by decide +kernel)) (fun _ => kitAny_cons (b := false) (kit_ty (by decide +kernel)) (fun _ => kitAny_nil) (fun z => by cases z)) (fun z => by cases z)
end
def rsd (C : Addr) (f : Str) (v : V) (H : Hp) (E : XK) : Prop := ∀ d H', Same H H' → H' d = some (.xd [(f, v)]) → E (.ref C) (some d) H'
theorem rsd_new {C : Addr} {f : Str} {v : V} {H H1 : Hp} {E : XK} {d : Addr} (r : rsd C f v H E) (s : Same H H1) (hd : H1 d = none) : E (.ref C) (some d) (upd H1 d (.xd [(f, v)])) := r d _ (s.trans (same_new hd)) upd_same
end K9
namespace K9
open PySem L2 Er
/-- one step of a plain reading -/
local macro_rules | `(tactic| walk_at "step") => `(tactic| first
  | with_reducible refine r_seq ?_ | with_reducible refine r_nx ?_ | with_reducible refine r_asgN ?_ | with_reducible refine r_asgS ?_ | with_reducible refine r_asgT ?_ | with_reducible refine r_ifS ?_
  | with_reducible refine r_ret ?_ | with_reducible refine r_retN ?_ | with_reducible refine r_drop ?_ | with_reducible refine r_test ?_ | with_reducible refine r_B ?_ | with_reducible refine r_not ?_
  | with_reducible refine r_and ?_ | with_reducible refine r_or ?_ | with_reducible refine r_andV ?_ | with_reducible refine r_orV ?_ | with_reducible refine r_notV ?_
  | ((with_reducible refine' r_var ?e ?_); (case e => exact rfl)) | with_reducible refine r_c ?_ | with_reducible refine r_op ?_ | with_reducible refine r_un ?_
  | with_reducible refine r_I0 ?_ | with_reducible refine r_eqI ?_ | with_reducible refine r_neI ?_ | with_reducible refine r_bl ?_ | with_reducible refine r_nil ?_ | with_reducible refine r_cons ?_
  | with_reducible refine r_cb ?_ | with_reducible refine r_call ?_ | with_reducible refine r_tup ?_ | with_reducible refine r_lst ?_ | with_reducible refine r_fld ?_ | with_reducible refine r_bm ?_ | with_reducible refine r_bm0 ?_
  | with_reducible refine r_for ?_ | with_reducible refine r_rng ?_ | with_reducible refine r_rng2 ?_ | with_reducible refine r_lstI ?_ | with_reducible refine r_tupI ?_ | with_reducible refine r_lc ?_
  | with_reducible refine r_augS ?_ | with_reducible refine r_ipI ?_
  | with_reducible refine r_meth ?_ | with_reducible refine r_prop ?_ | with_reducible refine r_make ?_ | with_reducible refine r_din ?_ | with_reducible refine r_dnin ?_ | with_reducible refine r_dput ?_ | with_reducible refine r_dget ?_
  | with_reducible refine r_gN ?_ | with_reducible refine r_tsl ?_ | with_reducible refine r_noP ?_ | with_reducible refine r_part ?_ | with_reducible refine r_pI ?_ | with_reducible refine r_tif ?_ | with_reducible refine r_SL ?_ | with_reducible refine r_gC ?_ | with_reducible refine r_U ?_ | with_reducible refine r_sfld ?_ | with_reducible refine r_dnew ?_ | with_reducible refine r_keys ?_
  | with_reducible refine r_mkE ?_ | with_reducible refine iteT ?_ | with_reducible refine iteF ?_
  | with_reducible refine r_int ?_ | with_reducible refine r_min2 ?_ | with_reducible refine r_isN ?_ | with_reducible refine r_notN ?_)
/-- as far as it goes by itself -/
local macro_rules | `(tactic| walk_at "go") => `(tactic| ((repeat walk_at "step"); (try dsimp only)))

def SameBut (a : Addr) (H H' : Hp) : Prop := ∀ b o, b ≠ a → H b = some o → H' b = some o
def spTake : Sp := fun vs H Q _ => ∃ (a : Addr) (ns : List Int) (m : Int), vs = [.ref a, .int m] ∧ H a = some (.lst (ns.map V.int)) ∧ ns.length ≤ 100000 ∧ 0 < m ∧
  ∀ (r : Int) (ns' : List Int) (H' : Hp), 0 ≤ r → r < m → ns'.length ≤ ns.length → H' a = some (.lst (ns'.map V.int)) → SameBut a H H' → Q (.int r) H'
section
variable {P : Program} {w : World} {K : PySem.W.Frag} {mg : Str → Option Value} {base : Heap}
theorem scTake : FnScope ["_law_found", "_law_many"] ["_law_found", "_law_many"] (defScope sTake) := ⟨rfl, rfl, rfl, by decide +kernel, rfl, by decide +kernel, by decide +kernel⟩
theorem ok_take {f : Addr} {fd : FuncData} (F : Fun K "_law_take" "_law_take" sTake f fd) (m1 : mg "len" = none) (m2 : mg "int" = none) : FnOk P w K mg base (L2.CX P w) 1 f fd ["_law_found", "_law_many"] spTake := by
  refine F.okX scTake (fun vs H Q E h => ?_) (fun cdv A outer s H vs Q E hr h => ?_)
  · obtain ⟨a, ns, m, rfl, _⟩ := h
    rfl
  · obtain ⟨a, ns, m, rfl, ha, hl, hm, k⟩ := h
    refine ⟨_, pss_cons (ps_if (pt_cmpR op_eq (pe_callB c_len (by rfl) m1 PySem.boot_len (pa_cons (pv 0) pa_nil)) pe_int (nomark _)) (pss_one (ps_ret pe_int)) pss_nil)
      (pss_one (ps_ret (pe_op op_mod (pe_callTy c_int (by rfl) m2 (by decide +kernel) (pa_cons (pe_bm0 PySem.F.plainAttrs_list PySem.F.slot_list_pop PySem.F.type_list_pop mt_pop (pv 0)) pa_nil)) (pv 1)))), ?_⟩
    walk_at "go"
    refine r_lenL (SqL.of ha) ?_
    walk_at "go"
    refine ite2 (fun h1 => k 0 ns H (Int.le_refl _) hm (Nat.le_refl _) ha fun b o _ z => z) fun h1 => ?_
    have hne : ns ≠ [] := fun z => by
      subst z
      exact h1 (by decide)
    refine ⟨_, rfl, .inl ⟨rfl, _, SqL.of ha⟩, a, _, .int (ns.getLast hne), rfl, rfl, ha, ?_, ?_⟩
    · rw [List.length_map, List.getElem?_map, List.getElem?_eq_getElem (by have := List.length_pos_iff.mpr hne; omega), List.getLast_eq_getElem hne]
      rfl
    · walk_at "go"
      refine r_I hm ?_
      refine k _ ns.dropLast _ (Int.emod_nonneg _ (by omega)) (Int.emod_lt_of_pos _ hm) (by rw [List.length_dropLast]; omega) ?_ fun b o nb z => ?_
      · rw [upd_same, ← List.map_dropLast]
      · rw [upd_ne nb]
        exact z
def spDrawn (K : PySem.W.Frag) : Sp := fun vs H Q _ => ∃ (a : Addr) (ns : List Int), vs = [.ref a] ∧ SqL K H a (ns.map V.int) ∧ ns.length ≤ 63 ∧
  ∀ (p : Addr) (fs : List Int) (H' : Hp), H p = none → Same H H' → H' p = some (.lst (fs.map V.int)) → fs.length ≤ 4000 → Q (.ref p) H'
theorem scDrawn : FnScope ["_law_script", "_law_found", "_law_place", "_law_cell", "_law_turn", "_law_grain"] ["_law_script"] (defScope sDrawn) := ⟨rfl, rfl, rfl, by decide +kernel, rfl, by decide +kernel, by decide +kernel⟩
theorem same_mut {H H' : Hp} {p : Addr} {o : HO} (h : H p = none) (s : Same H H') : Same H (upd H' p o) := fun b u z => by
  rw [upd_ne (ne_of_none z h)]
  exact s b u z
theorem app_map (fs : List Int) (z : Int) : fs.map V.int ++ [V.int z] = (fs ++ [z]).map V.int := by rw [List.map_append]; rfl
theorem ok_drawn {f : Addr} {fd : FuncData} (F : Fun K "_law_drawn" "_law_drawn" sDrawn f fd) (m_len : mg "len" = none) (m_int : mg "int" = none) (m_min : mg "min" = none) (m_range : mg "range" = none) :
    FnOk P w K mg base (L2.CX P w) 1 f fd ["_law_script"] (spDrawn K) := by
  refine F.okX scDrawn (fun vs H Q E h => ?_) (fun cdv A outer s H vs Q E hr h => ?_)
  · obtain ⟨a, ns, rfl, _⟩ := h
    rfl
  · obtain ⟨a, ns, rfl, hS, hl, k⟩ := h
    have sc := scDrawn
    refine ⟨_, (pss_cons (ps_set (i := 1) sc.nd rfl (Or.inl rfl) (pe_lst pa_nil))
      (pss_cons (ps_for (passes_of rfl) rfl (pi_range1 (by rfl) m_range (pa_cons (pe_callB (c_min2 rfl) (by rfl) m_min (by decide +kernel) (pa_cons (pe_callB c_len (by rfl) m_len PySem.boot_len (pa_cons (pv 0) pa_nil)) (pa_cons pe_int pa_nil))) pa_nil)) (pg_name (i := 2) sc.nd rfl (Or.inl rfl)) (pss_cons (ps_set (i := 3) sc.nd rfl (Or.inl rfl) (pe_callTy c_int (by rfl) m_int (by decide +kernel) (pa_cons (pe_ix ix_list (pv 0) (pv 2) (fun _ _ => rfl)) pa_nil)))
      (Evl.pss_cut (ps_if (pt_cmpR op_lt (pv 3) pe_int (nomark _)) (pss_cons (ps_expr (pe_bm PySem.F.plainAttrs_list PySem.F.slot_list_append PySem.F.type_list_append mt_append (pv 1) (pa_cons pe_int pa_nil)))
      (pss_one (ps_set (i := 3) sc.nd rfl (Or.inl rfl) (pe_op op_sub pe_int (pv 3))))) pss_nil)
      (pss_one (ps_if (pt_cmpR op_ge (pv 3) (pe_op op_pow pe_int pe_int) (nomark _)) (pss_one (ps_for (passes_of rfl) rfl (pi_range1 (by rfl) m_range (pa_cons pe_int pa_nil)) (pg_name (i := 4) sc.nd rfl (Or.inl rfl)) (pss_one (ps_if (pt_cmpR op_gt (pv 3) pe_int (nomark _)) (pss_cons (ps_expr (pe_bm PySem.F.plainAttrs_list PySem.F.slot_list_append PySem.F.type_list_append mt_append (pv 1) (pa_cons (pe_op op_mod (pe_callTy c_int (by rfl) m_int (by decide +kernel) (pa_cons (pv 3) pa_nil)) pe_int) pa_nil)))
      (pss_one (ps_set (i := 3) sc.nd rfl (Or.inl rfl) (pe_op op_fdiv (pv 3) pe_int)))) pss_nil)))) (pss_cons (ps_set (i := 5) sc.nd rfl (Or.inl rfl) (pe_op op_mod (pe_callTy c_int (by rfl) m_int (by decide +kernel) (pa_cons (pe_op op_add (pe_op op_add (pe_op op_mul (pv 3) pe_int) (pe_op op_mul (pv 2) pe_int)) pe_int) pa_nil)) pe_int))
      (pss_one (ps_for (passes_of rfl) rfl (pi_range1 (by rfl) m_range (pa_cons pe_int pa_nil)) (pg_name (i := 4) sc.nd rfl (Or.inl rfl)) (pss_cons (ps_set (i := 5) sc.nd rfl (Or.inl rfl) (pe_op op_mod (pe_callTy c_int (by rfl) m_int (by decide +kernel) (pa_cons (pe_op op_add (pe_op op_add (pe_op op_add (pe_op op_mul (pv 5) (pv 5)) (pe_op op_mul (pv 4) pe_int)) (pe_op op_mul (pv 2) pe_int)) pe_int) pa_nil)) pe_int))
      (pss_one (ps_expr (pe_bm PySem.F.plainAttrs_list PySem.F.slot_list_append PySem.F.type_list_append mt_append (pv 1) (pa_cons (pe_op op_fdiv (pv 5) pe_int) pa_nil)))))))))))))
      (pss_cons (ps_expr (pe_bm0 PySem.F.plainAttrs_list PySem.F.slot_list_reverse PySem.F.type_list_reverse mt_reverse (pv 1)))
      (pss_one (ps_ret (pv 1)))))), ?_⟩
    walk_at "go"
    refine ⟨by decide, fun p hp => ?_⟩
    walk_at "go"
    refine r_lenL ((same_new hp).seq hS) ?_
    walk_at "go"
    rw [List.length_map]
    have hmin : (if (63 : Int) < (ns.length : Int) then (63 : Int) else (ns.length : Int)) = (ns.length : Int) := if_neg (by omega)
    rw [hmin]
    refine r_rngK ns.length (by omega) (by omega) ?_
    refine r_forR0 (fun i σ H2 => ∃ (v2 v3 v4 v5 : Option V) (fs : List Int), σ = [some (.ref a), some (.ref p), v2, v3, v4, v5] ∧ Same H H2 ∧ H2 p = some (.lst (fs.map V.int)) ∧ fs.length ≤ i * 51)
      ⟨none, none, none, none, [], rfl, same_new hp, upd_same, Nat.zero_le _⟩ ?_ ?_
    · rintro i σ H2 hi ⟨v2, v3, v4, v5, fs, rfl, s2, hp2, hf⟩
      obtain ⟨z, hz⟩ : ∃ z, ns[i]? = some z := ⟨ns[i], List.getElem?_eq_getElem hi⟩
      walk_at "go"
      refine r_ixL (s2.seq hS) (v := .int z) (atI_nat (by rw [List.getElem?_map, hz]; rfl)) ?_
      walk_at "go"
      refine r_cut (Mid := fun σ H2 => ∃ (z : Int) (fs : List Int), σ = [some (.ref a), some (.ref p), some (.int i), some (.int z), v4, v5] ∧ Same H H2 ∧ H2 p = some (.lst (fs.map V.int)) ∧ fs.length ≤ i * 51 + 1 ∧ 0 ≤ z) ?_ ?_
      · walk_at "go"
        refine ite2 (fun h0 => ?_) fun h0 => ?_
        · have h0 : z < 0 := of_decide_eq_true h0
          walk_at "go"
          refine r_tyL (SqL.of hp2) ?_
          walk_at "go"
          refine r_app hp2 (Nat.lt_of_le_of_lt (m := 4000) (by rw [List.length_map]; omega) (by decide)) ?_
          walk_at "go"
          exact ⟨_, fs ++ [1], rfl, same_mut hp s2, by rw [upd_same, app_map], by rw [List.length_append]; show _ + 1 ≤ _; omega, by omega⟩
        · have h0 : ¬ z < 0 := fun y => h0 (decide_eq_true y)
          walk_at "go"
          exact ⟨z, fs, rfl, s2, hp2, by omega, by omega⟩
      · rintro σ H2 ⟨z, fs, rfl, s2, hp2, hf, hz0⟩
        walk_at "go"
        refine r_I ⟨by decide, by decide, by decide⟩ ?_
        walk_at "go"
        refine ite2 (fun h1 => ?_) fun h1 => ?_
        · walk_at "go"
          refine r_rngK 50 rfl (by omega) ?_
          refine r_forR0 (fun j σ H2 => ∃ (z : Int) (v4 : Option V) (fs : List Int), σ = [some (.ref a), some (.ref p), some (.int i), some (.int z), v4, v5] ∧ Same H H2 ∧ H2 p = some (.lst (fs.map V.int)) ∧ fs.length ≤ i * 51 + 1 + j)
            ⟨z, v4, fs, rfl, s2, hp2, hf⟩ ?_ ?_
          · rintro j σ H2 hj ⟨z, v4, fs, rfl, s2, hp2, hf⟩
            walk_at "go"
            refine ite2 (fun h1 => ?_) fun h1 => ?_
            · walk_at "go"
              refine r_tyL (SqL.of hp2) ?_
              walk_at "go"
              refine r_I (by decide) ?_
              walk_at "go"
              refine r_app hp2 (Nat.lt_of_le_of_lt (m := 4000) (by rw [List.length_map]; omega) (by decide)) ?_
              walk_at "go"
              refine r_I ⟨by decide, by decide⟩ ?_
              exact ⟨_, _, fs ++ [_], rfl, same_mut hp s2, by rw [upd_same, app_map], by rw [List.length_append]; show _ + 1 ≤ _; omega⟩
            · walk_at "go"
              exact ⟨z, _, fs, rfl, s2, hp2, by omega⟩
          · rintro σ H2 ⟨z, v4, fs, rfl, s2, hp2, hf⟩
            exact ⟨_, _, _, _, fs, rfl, s2, hp2, by omega⟩
        · have h1 : ¬ (10 : Int) ^ 18 ≤ z := fun y => h1 (decide_eq_true y)
          have h1 : z < 1000000000000000000 := by
            have e : (10 : Int) ^ 18 = 1000000000000000000 := by decide
            omega
          walk_at "go"
          refine r_I (.inl ⟨by omega, by omega⟩) ?_
          walk_at "go"
          refine r_I (.inl ⟨by omega, by omega⟩) ?_
          walk_at "go"
          refine r_I (by decide) ?_
          walk_at "go"
          refine r_rngK 5 rfl (by omega) ?_
          refine r_forR0 (fun j σ H2 => ∃ (g : Int) (v4 : Option V) (fs : List Int), σ = [some (.ref a), some (.ref p), some (.int i), some (.int z), v4, some (.int g)] ∧ Same H H2 ∧ H2 p = some (.lst (fs.map V.int)) ∧ fs.length ≤ i * 51 + 1 + j ∧ 0 ≤ g ∧ g < 2147483629)
            ⟨_, v4, fs, rfl, s2, hp2, hf, Int.emod_nonneg _ (by decide), Int.emod_lt_of_pos _ (by decide)⟩ ?_ ?_
          · rintro j σ H2 hj ⟨g, v4, fs, rfl, s2, hp2, hf, g0, g1⟩
            walk_at "go"
            refine r_I (.inl ⟨by omega, by omega⟩) ?_
            walk_at "go"
            refine r_I (.inl ⟨by omega, by omega⟩) ?_
            walk_at "go"
            refine r_I (.inl ⟨by omega, by omega⟩) ?_
            walk_at "go"
            refine r_I (by decide) ?_
            walk_at "go"
            refine r_tyL (SqL.of hp2) ?_
            walk_at "go"
            refine r_I ⟨by decide, by decide⟩ ?_
            walk_at "go"
            refine r_app hp2 (Nat.lt_of_le_of_lt (m := 4000) (by rw [List.length_map]; omega) (by decide)) ?_
            have e0 := Int.emod_nonneg (g * g + (j : Int) * 52021 + (i : Int) * 31 + 11) (b := 2147483587) (by decide)
            have e1 := Int.emod_lt_of_pos (g * g + (j : Int) * 52021 + (i : Int) * 31 + 11) (b := 2147483587) (by decide)
            exact ⟨_, _, fs ++ [_], rfl, same_mut hp s2, by rw [upd_same, app_map], by rw [List.length_append]; show _ + 1 ≤ _; omega, e0, by omega⟩
          · rintro σ H2 ⟨g, v4, fs, rfl, s2, hp2, hf, _⟩
            exact ⟨_, _, _, _, fs, rfl, s2, hp2, by omega⟩
    · rintro σ H2 ⟨v2, v3, v4, v5, fs, rfl, s2, hp2, hf⟩
      walk_at "go"
      refine r_tyL (SqL.of hp2) ⟨p, _, rfl, rfl, hp2, ?_⟩
      walk_at "go"
      refine k p fs.reverse _ hp (same_mut hp s2) (by rw [upd_same, List.map_reverse]) (by rw [List.length_reverse]; omega)
end
open K7M
def nV (l : List Nat) : List V := l.map fun (c : Nat) => V.int (c : Int)
theorem nV_len (l : List Nat) : (nV l).length = l.length := by unfold nV; rw [List.length_map]
def row (n : Nat) (f : Nat → V) : List V := (List.range n).map f
theorem row_len (n : Nat) (f : Nat → V) : (row n f).length = n := by unfold row; rw [List.length_map, List.length_range]
theorem row_at {n i : Nat} (f : Nat → V) (h : i < n) : (row n f)[i]? = some (f i) := by
  unfold row
  rw [List.getElem?_map, List.getElem?_range h]
  rfl
theorem row_congr {n : Nat} {f g : Nat → V} (h : ∀ i, i < n → f i = g i) : row n f = row n g := List.map_congr_left fun i hi => h i (List.mem_range.mp hi)
def inOrder (n : Nat) (gone : List Nat) : List Nat := (List.range n).filter fun j => decide (j ∈ gone)
theorem perm_inOrder {n : Nat} {gone : List Nat} (nd : gone.Nodup) (h : ∀ i ∈ gone, i < n) : (inOrder n gone).Perm gone := by
  refine (List.perm_ext_iff_of_nodup (List.nodup_range.filter _) nd).mpr fun a => ?_
  rw [List.mem_filter, List.mem_range, decide_eq_true_iff]
  exact ⟨fun z => z.2, fun z => ⟨h a z, z⟩⟩
theorem ints_nV (l : List Nat) : nV l = (l.map fun (i : Nat) => (i : Int)).map V.int := by
  unfold nV
  rw [List.map_map]
  rfl
theorem range_up (n : Nat) (f : Nat → Bool) : (((List.range n).filter f).map fun (i : Nat) => (i : Int)).Pairwise (· ≤ ·) := by
  rw [List.pairwise_map]
  exact ((List.pairwise_lt_range (n := n)).filter f).imp fun {a b} h => by omega
theorem len_inOrder (n : Nat) (gone : List Nat) : (inOrder n gone).length ≤ n := by
  have := List.length_filter_le (fun j => decide (j ∈ gone)) (List.range n)
  rw [List.length_range] at this
  exact this
theorem none_of_upd {H : Hp} {p q : Addr} {o : HO} (h : upd H p o q = none) : H q = none := by
  by_cases e : q = p
  · subst e
    rw [upd_same] at h
    cases h
  · rwa [upd_ne e] at h
theorem none_of_same {H H' : Hp} {q : Addr} (s : Same H H') (h : H' q = none) : H q = none := by
  cases e : H q with
  | none => rfl
  | some o =>
    rw [s _ _ e] at h
    cases h
theorem nV_at {ks : List Nat} {i : Nat} {x : V} (h : (nV ks)[i]? = some x) : ∃ c, ks[i]? = some c ∧ x = .int (c : Int) := by
  unfold nV at h
  rw [List.getElem?_map] at h
  cases e : ks[i]? with
  | none => rw [e] at h; cases h
  | some c => rw [e] at h; exact ⟨c, rfl, (Option.some.inj h).symm⟩
def PairAt (H : Hp) (y : V) (il : Nat × List Nat) : Prop := ∃ p r, y = .ref p ∧ H p = some (.tup [.int (il.1 : Int), .ref r]) ∧ H r = some (.tup (nV il.2))
theorem PairAt.keep {H H' : Hp} {y : V} {il : Nat × List Nat} (s : Same H H') (h : PairAt H y il) : PairAt H' y il := by
  obtain ⟨p, r, e, h1, h2⟩ := h
  exact ⟨p, r, e, s _ _ h1, s _ _ h2⟩
theorem PairAt.but {H H' : Hp} {y : V} {il : Nat × List Nat} {D : Addr} {zs : List V} (hD : H D = some (.lst zs)) (s : ∀ b u, b ≠ D → H b = some u → H' b = some u) (h : PairAt H y il) : PairAt H' y il := by
  obtain ⟨p, r, e, h1, h2⟩ := h
  exact ⟨p, r, e, s _ _ (ne_of h1 hD (by intro z; cases z)) h1, s _ _ (ne_of h2 hD (by intro z; cases z)) h2⟩
def PairsAt (H : Hp) (ys : List V) (ls : List (Nat × List Nat)) : Prop := ys.length = ls.length ∧ ∀ (i : Nat) (y : V) (il : Nat × List Nat), ys[i]? = some y → ls[i]? = some il → PairAt H y il
theorem rsd_keep {C : Addr} {f : Str} {v : V} {H H1 : Hp} {E : XK} (s : Same H H1) (r : rsd C f v H E) : rsd C f v H1 E := fun d H' s' h => r d H' (s.trans s') h
section
variable {K : PySem.W.Frag} {σ : L2.St} {H : Hp} {Q : VK}
theorem nV_at' {ks : List Nat} {i c : Nat} (h : ks[i]? = some c) : (nV ks)[i]? = some (.int (c : Int)) := by
  unfold nV
  rw [List.getElem?_map, h]
  rfl
theorem nV_append (a b : List Nat) : nV (a ++ b) = nV a ++ nV b := by unfold nV; rw [List.map_append]
theorem idx_filter (P : Nat → Bool) : ∀ l : List Nat, ((List.range l.length).filter fun i => P (l.getD i 0)).map (fun i => V.int ((l.getD i 0 : Nat) : Int)) = nV (l.filter P) := fun l => by
  have e : l = (List.range l.length).map fun i => l.getD i 0 := by
    apply List.ext_getElem?
    intro i
    rw [List.getElem?_map]
    rcases Nat.lt_or_ge i l.length with h | h
    · rw [List.getElem?_range h, List.getElem?_eq_getElem h]
      simp [List.getD, h]
    · rw [List.getElem?_eq_none h, List.getElem?_eq_none (by rw [List.length_range]; exact h)]
      rfl
  have e2 : nV (l.filter P) = nV (((List.range l.length).map fun i => l.getD i 0).filter P) := by rw [← e]
  rw [e2, List.filter_map]
  unfold nV
  rw [List.map_map]
  rfl
theorem inV_names (c : Nat) : ∀ l : List Nat, inV (.int (c : Int)) (nV l) = decide (c ∈ l)
  | [] => by simp [inV, nV]
  | d :: l => by
    have ih := inV_names c l
    have e : eqV (.int (d : Int)) (.int (c : Int)) = decide ((d : Int) = (c : Int)) := by
      first
        | rfl
        | (simp [eqV]; done)
        | (unfold eqV; rfl)
    have e2 : inV (.int (c : Int)) (nV (d :: l)) = (eqV (.int (d : Int)) (.int (c : Int)) || inV (.int (c : Int)) (nV l)) := rfl
    rw [e2, ih, e]
    by_cases h : c = d
    · subst h
      simp
    · have h1 : ¬ ((d : Int) = (c : Int)) := by omega
      rw [decide_eq_false h1, Bool.false_or]
      exact decide_eq_decide.mpr ⟨fun z => List.mem_cons_of_mem _ z, fun z => (List.mem_cons.mp z).resolve_left h⟩
theorem flat_names (l : List Nat) : (nV l).all flatV = true := by
  rw [List.all_eq_true]
  intro x hx
  unfold nV at hx
  obtain ⟨c, _, rfl⟩ := List.mem_map.mp hx
  rfl
end
theorem ite_no {c : Bool} {A B : Prop} (h : c = false) (q : B) : if c = true then A else B := by subst h; exact iteF q
theorem ite_yes {c : Bool} {A B : Prop} (h : c = true) (q : A) : if c = true then A else B := by subst h; exact iteT q
theorem iteB {c : Bool} {A B : Prop} (h1 : c = true → A) (h2 : c = false → B) : if c = true then A else B := by
  cases c with
  | true => exact iteT (h1 rfl)
  | false => exact iteF (h2 rfl)
theorem r_eqV {a b : Str} {H : Hp} {Q : VK} (q : Q (.bl (decide (V.str a = V.str b))) H) : rEq (.str a) (.str b) H Q := ⟨rfl, q⟩
theorem r_strc {x : Str} {H : Hp} {Q : VK} {σ : L2.St} (q : Q (.str x) H) : tC (.str x) σ H Q := q
theorem row_succ (n : Nat) (f : Nat → V) : row (n + 1) f = row n f ++ [f n] := by
  unfold row
  rw [List.range_succ, List.map_append]
  rfl
theorem r_tYes {σ : L2.St} {H : Hp} {QT : Bool → Hp → Prop} (h : QT true H) : tYes σ H QT := h
theorem row_all (n : Nat) (f : Nat → V) : ((List.range n).filter fun _ => true).map f = row n f := by
  rw [List.filter_eq_self.mpr (fun _ _ => rfl)]
  rfl
theorem dp_names {K : PySem.W.Frag} (H : Hp) (l : List Nat) : DpAll K H (nV l) ((l.map fun (c : Nat) => (c : Int)).map PyData.int) := by
  rw [ints_nV]
  exact dp_ints _
theorem dp_tupN {K : PySem.W.Frag} {H : Hp} {a : Addr} {l : List Nat} (h : SqT K H a (nV l)) : Dp K H (.ref a) (.tuple ((l.map fun (c : Nat) => (c : Int)).map PyData.int)) := .tup h (dp_names H l)
theorem okd_names (l : List Nat) : Okd 1 (.tuple ((l.map fun (c : Nat) => (c : Int)).map PyData.int)) := okd_tup (okd_ints _)
theorem hu65_of {A : Around} {k : Nat} (hr : Room k A) : A.units + 65 < cLine := by have := hr.un; omega
theorem okd_str {x : Str} (h : PyData.canLay0 (.str x) = true) : Okd 0 (.str x) := ⟨h, Nat.le_refl _⟩
def namesD (l : List Nat) : PyData := .tuple ((l.map fun (c : Nat) => (c : Int)).map PyData.int)
def pairD (il : Nat × List Nat) : PyData := .tuple [.int (il.1 : Int), namesD il.2]
theorem dpAll_of {K : PySem.W.Frag} {H : Hp} {α : Type} (f : α → PyData) : ∀ {ys : List V} {ls : List α}, ys.length = ls.length → (∀ (i : Nat) (y : V) (x : α), ys[i]? = some y → ls[i]? = some x → Dp K H y (f x)) → DpAll K H ys (ls.map f)
  | [], [], _, _ => .nil
  | [], _ :: _, h, _ => by cases h
  | _ :: _, [], h, _ => by cases h
  | y :: ys, x :: ls, h, g => .cons (g 0 y x rfl rfl) (dpAll_of f (Nat.succ.inj h) fun i y' x' h1 h2 => g (i + 1) y' x' h1 h2)
theorem dp_lstN {K : PySem.W.Frag} {H : Hp} {a : Addr} {l : List Nat} (h : SqL K H a (nV l)) : Dp K H (.ref a) (.list ((l.map fun (c : Nat) => (c : Int)).map PyData.int)) := .lst h (dp_names H l)
theorem okd_lstN (l : List Nat) : Okd 1 (.list ((l.map fun (c : Nat) => (c : Int)).map PyData.int)) := okd_lst (okd_ints _)
inductive Sca : V → PyData → String → Prop
  | non : Sca .non .none "NoneType"
  | bl (b : Bool) : Sca (.bl b) (.bool b) "bool"
  | int (i : Int) : Sca (.int i) (.int i) "int"
  | str (x : Str) (h : PyData.canLay0 (.str x) = true) : Sca (.str x) (.str x) "str"
section
variable {K : PySem.W.Frag} {H : Hp} {v : V} {d : PyData} {tn : String}
theorem Sca.sm (h : Sca v d tn) : Sm K H v tn := by cases h <;> constructor
theorem Sca.dp (h : Sca v d tn) : Dp K H v d := by cases h <;> constructor
theorem Sca.okd (h : Sca v d tn) : Okd 0 d := by
  cases h with
  | non => exact okd_non
  | bl b => exact okd_bl b
  | int i => exact okd_int i
  | str x h => exact okd_str h
theorem Sca.norow (h : Sca v d tn) : (tn == "list" || tn == "tuple") = false := by cases h <;> decide +kernel
end
theorem dp_tag {K : PySem.W.Frag} {H : Hp} {t : Addr} {x : Str} {v : V} {d : PyData} (h : H t = some (.tup [.str x, v])) (hd : Dp K H v d) : Dp K H (.ref t) (.tuple [.str x, d]) := .tup (SqT.of h) (.cons (.str _) (.cons hd .nil))
theorem okd_tag {x : Str} {d : PyData} (h : PyData.canLay0 (.str x) = true) (hd : Okd 0 d) : Okd 1 (.tuple [.str x, d]) := okd_tup fun z hz => by
  rcases List.mem_cons.mp hz with rfl | hz
  · exact okd_str h
  rcases List.mem_cons.mp hz with rfl | hz
  · exact hd
  cases hz
theorem tupOK {X : Cx} (K : PySem.W.Frag) (e : X.K = K := by rfl) : CallR X (.type "tuple") (rTupO K) := by subst e; exact c_tuple
theorem listOK {X : Cx} (K : PySem.W.Frag) (e : X.K = K := by rfl) : CallR X (.type "list") (rListO K) := by subst e; exact c_list
theorem SameBut.trans {a : Addr} {H H1 H2 : Hp} (s : SameBut a H H1) (t : SameBut a H1 H2) : SameBut a H H2 := fun b o n z => t b o n (s b o n z)
theorem SameBut.of {a : Addr} {H H1 : Hp} (s : Same H H1) : SameBut a H H1 := fun b o _ z => s b o z
theorem SameBut.mut {a p : Addr} {H H' : Hp} {o : HO} (s : SameBut a H H') (h : H p = none) : SameBut a H (upd H' p o) := fun b u n z => by
  rw [upd_ne (ne_of_none z h)]
  exact s b u n z
theorem SameBut.none_ {a : Addr} {H H' : Hp} {p : Addr} (s : SameBut a H H') (h : H' p = none) (n : p ≠ a) : H p = none := by
  cases e : H p with
  | none => rfl
  | some o => rw [s p o n e] at h; cases h
theorem PairsAt.snoc {H : Hp} {ys : List V} {ls : List (Nat × List Nat)} {y : V} {il : Nat × List Nat} (h : PairsAt H ys ls) (hy : PairAt H y il) : PairsAt H (ys ++ [y]) (ls ++ [il]) := by
  refine ⟨by rw [List.length_append, List.length_append, h.1]; rfl, fun i z c h1 h2 => ?_⟩
  rcases Nat.lt_or_ge i ys.length with hi | hi
  · rw [List.getElem?_append_left hi] at h1
    rw [List.getElem?_append_left (by rw [← h.1]; exact hi)] at h2
    exact h.2 i z c h1 h2
  · rw [List.getElem?_append_right hi] at h1
    rw [List.getElem?_append_right (by rw [← h.1]; exact hi)] at h2
    rw [h.1] at h1
    rcases Nat.eq_zero_or_pos (i - ls.length) with w | w
    · rw [w] at h1 h2
      cases h1
      cases h2
      exact hy
    · rw [List.getElem?_eq_none (by show 1 ≤ _; omega)] at h1
      cases h1
theorem PairsAt.keep {H H' : Hp} {ys : List V} {ls : List (Nat × List Nat)} (h : PairsAt H ys ls) (s : Same H H') : PairsAt H' ys ls := ⟨h.1, fun i y il h1 h2 => (h.2 i y il h1 h2).keep s⟩
theorem PairsAt.but {H H' : Hp} {ys : List V} {ls : List (Nat × List Nat)} {D : Addr} {zs : List V} (hD : H D = some (.lst zs)) (s : ∀ b u, b ≠ D → H b = some u → H' b = some u) (h : PairsAt H ys ls) : PairsAt H' ys ls := ⟨h.1, fun i y il h1 h2 => (h.2 i y il h1 h2).but hD s⟩
def PairsT (H : Hp) (t : Addr) (ls : List (Nat × List Nat)) : Prop := ∃ ys, H t = some (.tup ys) ∧ PairsAt H ys ls
theorem PairsT.keep {H H' : Hp} {t : Addr} {ls : List (Nat × List Nat)} (h : PairsT H t ls) (s : Same H H') : PairsT H' t ls := by
  obtain ⟨ys, h1, h2⟩ := h
  exact ⟨ys, s _ _ h1, h2.keep s⟩
theorem PairsT.but {H H' : Hp} {t a : Addr} {ls : List (Nat × List Nat)} {zs : List V} (h : PairsT H t ls) (s : SameBut a H H') (ha : H a = some (.lst zs)) : PairsT H' t ls := by
  obtain ⟨ys, h1, h2⟩ := h
  exact ⟨ys, s _ _ (ne_of h1 ha (by intro z; cases z)) h1, h2.but ha fun b u nb z => s b u nb z⟩
def ItemsAt (H : Hp) (ys : List V) (bs : List (List Nat)) : Prop := ys.length = bs.length ∧ ∀ (i : Nat) (y : V) (b : List Nat), ys[i]? = some y → bs[i]? = some b → ∃ p, y = .ref p ∧ H p = some (.tup (nV b))
theorem ItemsAt.but {H H' : Hp} {ys : List V} {bs : List (List Nat)} {D : Addr} {zs : List V} (hD : H D = some (.lst zs)) (s : ∀ b u, b ≠ D → H b = some u → H' b = some u) (h : ItemsAt H ys bs) : ItemsAt H' ys bs :=
  ⟨h.1, fun i y b h1 h2 => by
    obtain ⟨p, e, hp⟩ := h.2 i y b h1 h2
    exact ⟨p, e, s _ _ (ne_of hp hD (by intro z; cases z)) hp⟩⟩
theorem ItemsAt.keep {H H' : Hp} {ys : List V} {bs : List (List Nat)} (s : Same H H') (h : ItemsAt H ys bs) : ItemsAt H' ys bs :=
  ⟨h.1, fun i y b h1 h2 => by
    obtain ⟨p, e, hp⟩ := h.2 i y b h1 h2
    exact ⟨p, e, s _ _ hp⟩⟩
theorem ItemsAt.snoc {H : Hp} {ys : List V} {bs : List (List Nat)} {p : Addr} {b : List Nat} (h : ItemsAt H ys bs) (hp : H p = some (.tup (nV b))) : ItemsAt H (ys ++ [.ref p]) (bs ++ [b]) := by
  refine ⟨by rw [List.length_append, List.length_append, h.1]; rfl, fun i y c h1 h2 => ?_⟩
  rcases Nat.lt_or_ge i ys.length with hi | hi
  · rw [List.getElem?_append_left hi] at h1
    rw [List.getElem?_append_left (by rw [← h.1]; exact hi)] at h2
    exact h.2 i y c h1 h2
  · rw [List.getElem?_append_right hi] at h1
    rw [List.getElem?_append_right (by rw [← h.1]; exact hi)] at h2
    rw [h.1] at h1
    rcases Nat.eq_zero_or_pos (i - bs.length) with z | z
    · rw [z] at h1 h2
      cases h1
      cases h2
      exact ⟨p, rfl, hp⟩
    · rw [List.getElem?_eq_none (by show 1 ≤ _; omega)] at h1
      cases h1
def leA (x y : Addr × List Nat) : Bool := decide (x.2.length ≤ y.2.length)
def upV (x : Addr × List Nat) : Addr × List V := (x.1, nV x.2)
theorem sort_up (l : List (Addr × List Nat)) : (l.map upV).mergeSort lenLe = (l.mergeSort leA).map upV := by
  refine (List.map_mergeSort fun a _ b _ => ?_).symm
  unfold leA lenLe upV
  dsimp only
  rw [nV_len, nV_len]
theorem sort_snd (l : List (Addr × List Nat)) : (l.mergeSort leA).map (·.2) = (l.map (·.2)).mergeSort lenLeN := List.map_mergeSort fun a _ b _ => rfl
theorem dp_pairs {K : PySem.W.Frag} {H : Hp} {t : Addr} {ls : List (Nat × List Nat)} (h : PairsT H t ls) : Dp K H (.ref t) (.tuple (ls.map pairD)) := by
  obtain ⟨ys, h3, hl, hp⟩ := h
  refine .tup (SqT.of h3) (dpAll_of pairD hl fun i y il e1 e2 => ?_)
  obtain ⟨p, r, rfl, a1, a2⟩ := hp i y il e1 e2
  exact .tup (SqT.of a1) (.cons (.int _) (.cons (dp_tupN (SqT.of a2)) .nil))
theorem okd_pairs (ls : List (Nat × List Nat)) : Okd 3 (.tuple (ls.map pairD)) := okd_tup (k := 2) fun e he => by
  obtain ⟨il, _, rfl⟩ := List.mem_map.mp he
  refine okd_tup (k := 1) fun z hz => ?_
  rcases List.mem_cons.mp hz with rfl | hz
  · exact (okd_int _).up (by decide)
  rcases List.mem_cons.mp hz with rfl | hz
  · exact okd_names _
  cases hz
def RowsL (H : Hp) (p : Addr) (hs : List (List Nat)) : Prop := ∃ xs, H p = some (.lst xs) ∧ xs.length = hs.length ∧ ∀ (i : Nat) (x : V) (b : List Nat), xs[i]? = some x → hs[i]? = some b → ∃ r, x = .ref r ∧ H r = some (.lst (nV b))
theorem RowsL.keep {H H' : Hp} {p : Addr} {hs : List (List Nat)} (h : RowsL H p hs) (s : Same H H') : RowsL H' p hs := by
  obtain ⟨xs, h1, h2, h3⟩ := h
  refine ⟨xs, s _ _ h1, h2, fun i x b e1 e2 => ?_⟩
  obtain ⟨r, e, hr⟩ := h3 i x b e1 e2
  exact ⟨r, e, s _ _ hr⟩
def namesL (l : List Nat) : PyData := .list ((l.map fun (c : Nat) => (c : Int)).map PyData.int)
theorem dp_rows {K : PySem.W.Frag} {H : Hp} {p : Addr} {hs : List (List Nat)} (h : RowsL H p hs) : Dp K H (.ref p) (.list (hs.map namesL)) := by
  obtain ⟨xs, h1, hl, hp⟩ := h
  refine .lst (SqL.of h1) (dpAll_of namesL hl fun i y b e1 e2 => ?_)
  obtain ⟨r, rfl, hr⟩ := hp i y b e1 e2
  exact dp_lstN (SqL.of hr)
theorem okd_rows (hs : List (List Nat)) : Okd 2 (.list (hs.map namesL)) := okd_lst fun d hd => by
  obtain ⟨b, _, rfl⟩ := List.mem_map.mp hd
  exact okd_lstN b
end K9
namespace K9
open PySem L2 Er K7M
/-- one step of a plain reading -/
local macro_rules | `(tactic| walk_at "step") => `(tactic| first
  | with_reducible refine r_seq ?_ | with_reducible refine r_nx ?_ | with_reducible refine r_asgN ?_ | with_reducible refine r_asgS ?_ | with_reducible refine r_asgT ?_ | with_reducible refine r_ifS ?_
  | with_reducible refine r_ret ?_ | with_reducible refine r_retN ?_ | with_reducible refine r_drop ?_ | with_reducible refine r_test ?_ | with_reducible refine r_B ?_ | with_reducible refine r_not ?_
  | with_reducible refine r_and ?_ | with_reducible refine r_or ?_ | with_reducible refine r_andV ?_ | with_reducible refine r_orV ?_ | with_reducible refine r_notV ?_
  | ((with_reducible refine' r_var ?e ?_); (case e => exact rfl)) | with_reducible refine r_c ?_ | with_reducible refine r_op ?_ | with_reducible refine r_un ?_
  | with_reducible refine r_I0 ?_ | with_reducible refine r_eqI ?_ | with_reducible refine r_neI ?_ | with_reducible refine r_bl ?_ | with_reducible refine r_nil ?_ | with_reducible refine r_cons ?_
  | with_reducible refine r_cb ?_ | with_reducible refine r_call ?_ | with_reducible refine r_tup ?_ | with_reducible refine r_lst ?_ | with_reducible refine r_fld ?_ | with_reducible refine r_bm ?_ | with_reducible refine r_bm0 ?_
  | with_reducible refine r_for ?_ | with_reducible refine r_rng ?_ | with_reducible refine r_rng2 ?_ | with_reducible refine r_lstI ?_ | with_reducible refine r_tupI ?_ | with_reducible refine r_lc ?_
  | with_reducible refine r_augS ?_ | with_reducible refine r_ipI ?_
  | with_reducible refine r_meth ?_ | with_reducible refine r_prop ?_ | with_reducible refine r_make ?_ | with_reducible refine r_din ?_ | with_reducible refine r_dnin ?_ | with_reducible refine r_dput ?_ | with_reducible refine r_dget ?_
  | with_reducible refine r_gN ?_ | with_reducible refine r_tsl ?_ | with_reducible refine r_noP ?_ | with_reducible refine r_part ?_ | with_reducible refine r_pI ?_ | with_reducible refine r_tif ?_ | with_reducible refine r_SL ?_ | with_reducible refine r_gC ?_ | with_reducible refine r_U ?_ | with_reducible refine r_sfld ?_ | with_reducible refine r_dnew ?_ | with_reducible refine r_keys ?_
  | with_reducible refine r_mkE ?_ | with_reducible refine iteT ?_ | with_reducible refine iteF ?_
  | with_reducible refine r_int ?_ | with_reducible refine r_min2 ?_ | with_reducible refine r_isN ?_ | with_reducible refine r_notN ?_)
/-- as far as it goes by itself -/
local macro_rules | `(tactic| walk_at "go") => `(tactic| ((repeat walk_at "step"); (try dsimp only)))

/-! a list or a tuple -/
section
variable {K : PySem.W.Frag} {σ : L2.St} {H H' : Hp} {Q : VK} {a : Addr} {xs : List V} {te : TE} {tt : TT}
theorem _root_.Er.SqX.keep (h : SqX K H a xs) (s : Same H H') : SqX K H' a xs := h.elim (fun h => .inl (s.seq h)) fun h => .inr (same_tup s h)
theorem _root_.Er.SqX.sm (h : SqX K H a xs) : ∃ tn, Sm K H (.ref a) tn ∧ (tn == "list" || tn == "tuple") = true := h.elim (fun h => ⟨_, .lst h, by decide +kernel⟩) fun h => ⟨_, .tup h, by decide +kernel⟩
theorem r_lenX (h : SqX K H a xs) (q : Q (.int xs.length) H) : Er.rLen K [.ref a] H Q := h.elim (fun h => r_lenL h q) fun h => r_lenT h q
theorem r_inX {c : Nat} {l : List Nat} (h : SqX K H a (nV l)) (q : Q (.bl (decide (c ∈ l))) H) : rIn K false (.int (c : Int)) (.ref a) H Q := ⟨a, nV l, rfl, h, rfl, flat_names l, by rw [inV_names]; exact q⟩
theorem r_ninX {c : Nat} {l : List Nat} (h : SqX K H a (nV l)) (q : Q (.bl (!decide (c ∈ l))) H) : rIn K true (.int (c : Int)) (.ref a) H Q := ⟨a, nV l, rfl, h, rfl, flat_names l, by rw [inV_names]; exact q⟩
theorem _root_.Er.SqX.L (h : H a = some (.lst xs)) : SqX K H a xs := .inl (SqL.of h)
theorem _root_.Er.SqX.T (h : H a = some (.tup xs)) : SqX K H a xs := .inr (SqT.of h)
theorem idx_z {α : Type} (zs : List α) (f : α → Bool) (hv : α → V) : ∀ n, n ≤ zs.length → (((List.range n).filter fun i => match zs[i]? with | some z => f z | none => false).map fun i => match zs[i]? with | some z => hv z | none => V.non) = ((zs.take n).filter f).map hv
  | 0, _ => by simp
  | n + 1, h => by
    have e : zs[n]? = some zs[n] := List.getElem?_eq_getElem (by omega)
    rw [List.range_succ, List.filter_append, List.map_append, idx_z zs f hv n (by omega), List.take_add_one, e]
    show _ = ((zs.take n ++ [zs[n]]).filter f).map hv
    rw [List.filter_append, List.map_append]
    congr 1
    cases hf : f zs[n] <;> simp [hf, e]
theorem r_lcZX {α : Type} {j : Nat} {vs : List Nat} (zs : List α) (g : α → V) (f : α → Bool) (hv : α → V) (hx : SqX K H a (zs.map g)) (hn : zs.length ≤ 100000) (hw : ∀ x, wipe ((wipe σ vs).set j (some x)) vs = wipe σ vs)
    (ht : ∀ z ∈ zs, ∀ H', Same H H' → ∀ QT : Bool → Hp → Prop, (∀ H2, Same H' H2 → QT (f z) H2) → tt ((wipe σ vs).set j (some (g z))) H' QT)
    (he : ∀ z ∈ zs, ∀ H', f z = true → Same H H' → ∀ Q : VK, (∀ H2, Same H' H2 → Q (hv z) H2) → te ((wipe σ vs).set j (some (g z))) H' Q)
    (q : ∀ p H', H p = none → Same H H' → H' p = some (.lst ((zs.filter f).map hv)) → Q (.ref p) H') : seqK K (.ref a) H (lcK (gName j) tt te vs σ Q) ∧ (∀ h : SqL K H a (zs.map g), lcK (gName j) tt te vs σ Q (Itl K a) H) ∧ ∀ h : SqT K H a (zs.map g), lcK (gName j) tt te vs σ Q (Itt K a) H := by
  have at_ : ∀ {i : Nat} {x : V}, (zs.map g)[i]? = some x → ∃ z, zs[i]? = some z ∧ x = g z ∧ z ∈ zs := fun {i x} h => by
    rw [List.getElem?_map] at h
    cases e : zs[i]? with
    | none => rw [e] at h; cases h
    | some z => rw [e] at h; exact ⟨z, rfl, (Option.some.inj h).symm, List.mem_of_getElem? e⟩
  have fin : ∀ p H', H p = none → Same H H' → H' p = some (.lst (((List.range (zs.map g).length).filter fun i => match zs[i]? with | some z => f z | none => false).map fun i => match zs[i]? with | some z => hv z | none => V.non)) → Q (.ref p) H' := fun p H' h1 h2 h3 => by
    rw [List.length_map, idx_z zs f hv _ (Nat.le_refl _), List.take_length] at h3
    exact q p H' h1 h2 h3
  have ht' : ∀ i x H', (zs.map g)[i]? = some x → Same H H' → ∀ QT : Bool → Hp → Prop, (∀ H2, Same H' H2 → QT (match zs[i]? with | some z => f z | none => false) H2) → tt ((wipe σ vs).set j (some x)) H' QT := fun i x H' hx' s QT k => by
    obtain ⟨z, hz, rfl, hm⟩ := at_ hx'
    refine ht z hm H' s QT fun H2 s2 => ?_
    have := k H2 s2
    rw [hz] at this
    exact this
  have he' : ∀ i x H', (zs.map g)[i]? = some x → (match zs[i]? with | some z => f z | none => false) = true → Same H H' → ∀ Q : VK, (∀ H2, Same H' H2 → Q (match zs[i]? with | some z => hv z | none => V.non) H2) → te ((wipe σ vs).set j (some x)) H' Q := fun i x H' hx' hf s Q k => by
    obtain ⟨z, hz, rfl, hm⟩ := at_ hx'
    rw [hz] at hf
    refine he z hm H' hf s Q fun H2 s2 => ?_
    have := k H2 s2
    rw [hz] at this
    exact this
  have hn' : (zs.map g).length ≤ 100000 := by rw [List.length_map]; exact hn
  have hL : ∀ h : SqL K H a (zs.map g), lcK (gName j) tt te vs σ Q (Itl K a) H := fun h => r_lcL _ _ hn' h hw ht' he' fin
  have hT : ∀ h : SqT K H a (zs.map g), lcK (gName j) tt te vs σ Q (Itt K a) H := fun h => r_lcT _ _ hn' h hw ht' he' fin
  exact ⟨hx.elim (fun h => r_seqL h (hL h)) fun h => r_seqT h (hT h), hL, hT⟩
theorem r_lcRl {lo : Int} {n : Nat} {j : Nat} {vs : List Nat} (f : Nat → Bool) (v : Nat → V) (hn : n ≤ 100000) (hw : ∀ x, wipe ((wipe σ vs).set j (some x)) vs = wipe σ vs)
    (ht : ∀ i H', i < n → Same H H' → ∀ QT : Bool → Hp → Prop, (∀ H2, Same H' H2 → QT (f i) H2) → tt ((wipe σ vs).set j (some (.int (lo + (i : Int))))) H' QT)
    (he : ∀ i H', i < n → f i = true → Same H H' → ∀ Q : VK, (∀ H2, Same H' H2 → Q (v i) H2) → te ((wipe σ vs).set j (some (.int (lo + (i : Int))))) H' Q)
    (q : ∀ p H', H p = none → Same H H' → H' p = some (.lst (((List.range n).filter f).map v)) → Q (.ref p) H') : lcK (gName j) tt te vs σ Q (Itr lo n) H := fun Dl hD =>
  lc_range (fun i H' => Same H H' ∧ H' Dl = some (.lst (((List.range i).filter f).map v))) ⟨fun b o z => by rw [upd_ne (ne_of_none z hD)]; exact z, upd_same⟩
    (fun i H' hi p => ⟨hw _, lc_turn hD p.1 p.2 (Nat.lt_of_lt_of_le hi hn) (fun QT k => ht i H' hi p.1 QT k) fun H2 hf s2 => he i H2 hi hf (p.1.trans s2)⟩) fun H' p => q Dl H' hD p.1 p.2
theorem r_forX {t : TS} {D : Ends} {H0 : Hp} {g : TG} (h : SqX K H0 a xs) (s : Same H0 H) (Pv : Nat → L2.St → Hp → Prop) (hp : Pv 0 σ H) (hl : ∀ i σ H, i ≤ xs.length → Pv i σ H → Same H0 H)
    (hs : ∀ i x σ' H', xs[i]? = some x → Pv i σ' H' → g x σ' H' fun σ2 H2 => t { D with nx := Pv (i + 1), ct := Pv (i + 1), bk := D.nx } σ2 H2) (hd : ∀ σ' H', Pv xs.length σ' H' → D.nx σ' H') : seqK K (.ref a) H (forK g t D σ) :=
  h.elim (fun h => r_seqL (s.seq h) (r_forL Pv hp (fun i σ H' hi p => (hl i σ H' hi p).seq h) hs hd)) fun h => r_seqT (same_tup s h) (r_forT Pv hp (fun i σ H' hi p => same_tup (hl i σ H' hi p) h) hs hd)
theorem map_bl {α : Type} (zs : List α) (b : α → Bool) : (zs.filter fun _ => true).map (fun z => V.bl (b z)) = (zs.map b).map V.bl := by
  rw [List.filter_eq_self.mpr fun _ _ => rfl, List.map_map]
  rfl
end
/-- a row of names -/
def RowAt (K : PySem.W.Frag) (H : Hp) (x : V) (l : List Nat) : Prop := ∃ r, x = .ref r ∧ SqX K H r (nV l)
theorem RowAt.keep {K : PySem.W.Frag} {H H' : Hp} {x : V} {l : List Nat} (h : RowAt K H x l) (s : Same H H') : RowAt K H' x l := by
  obtain ⟨r, e, q⟩ := h
  exact ⟨r, e, q.keep s⟩
def ascB (l : List Nat) : Bool := (List.range (l.length - 1)).all fun i => decide (l.getD i 0 < l.getD (i + 1) 0)
def natSetB (l : List Nat) : Bool := !l.isEmpty && ascB l
def liesB (a b : List Nat) : Bool := a.all fun c => decide (c ∈ b)
def lookB (c : Nat) (l names : List Nat) : Bool := natSetB l && (decide (c ∈ l) && liesB l names)
def nestB (Ls : List (List Nat)) : Bool := (List.range (Ls.length - 1)).all fun i => liesB ((Ls.mergeSort lenLeN).getD i []) ((Ls.mergeSort lenLeN).getD (i + 1) [])
def roundB (ls : List (Nat × List Nat)) : Bool := natSetB (ls.map (·.1)) && ((ls.all fun il => lookB il.1 il.2 (ls.map (·.1))) && nestB (ls.map (·.2)))
/-- a pair of a name and its look -/
structure RP where
  p : Addr
  c : Nat
  r : Addr
  l : List Nat
abbrev RP.v (t : RP) : V := .ref t.p
abbrev RP.k (t : RP) : Nat × List Nat := (t.c, t.l)
def RPAt (K : PySem.W.Frag) (H : Hp) (t : RP) : Prop := SqX K H t.p [.int (t.c : Int), .ref t.r] ∧ SqX K H t.r (nV t.l)
theorem RPAt.keep {K : PySem.W.Frag} {H H' : Hp} {t : RP} (h : RPAt K H t) (s : Same H H') : RPAt K H' t := ⟨h.1.keep s, h.2.keep s⟩
def RoundR (K : PySem.W.Frag) (H : Hp) (a : Addr) (rs : List RP) : Prop := SqX K H a (rs.map RP.v) ∧ ∀ t ∈ rs, RPAt K H t
theorem RoundR.keep {K : PySem.W.Frag} {H H' : Hp} {a : Addr} {rs : List RP} (h : RoundR K H a rs) (s : Same H H') : RoundR K H' a rs := ⟨h.1.keep s, fun t ht => (h.2 t ht).keep s⟩
def spRow (K : PySem.W.Frag) (n : Nat) (b : List Nat → Bool) : Sp := fun vs H Q _ => ∃ (x : V) (l : List Nat), vs = [x] ∧ RowAt K H x l ∧ l.length ≤ n ∧ ∀ H', Same H H' → Q (.bl (b l)) H'
def spPair (K : PySem.W.Frag) : Sp := fun vs H Q _ => ∃ (a : Addr) (xs : List V), vs = [.ref a] ∧ SqX K H a xs ∧ ∀ H', Same H H' → Q (.bl (decide (xs.length = 2))) H'
def spLies (K : PySem.W.Frag) : Sp := fun vs H Q _ => ∃ (x y : V) (l m : List Nat), vs = [x, y] ∧ RowAt K H x l ∧ RowAt K H y m ∧ l.length ≤ 1000 ∧ ∀ H', Same H H' → Q (.bl (liesB l m)) H'
def spLook (K : PySem.W.Frag) : Sp := fun vs H Q _ => ∃ (c : Nat) (x y : V) (l m : List Nat), vs = [.int (c : Int), x, y] ∧ RowAt K H x l ∧ RowAt K H y m ∧ l.length ≤ 1000 ∧ ∀ H', Same H H' → Q (.bl (lookB c l m)) H'
def spNest (K : PySem.W.Frag) : Sp := fun vs H Q _ => ∃ (a : Addr) (rs : List RP), vs = [.ref a] ∧ RoundR K H a rs ∧ rs.length ≤ 1000 ∧ (∀ t ∈ rs, t.l.length ≤ 1000) ∧ ∀ H', Same H H' → Q (.bl (nestB (rs.map RP.l))) H'
def spRound (K : PySem.W.Frag) : Sp := fun vs H Q _ => ∃ x, vs = [x] ∧ ((∃ tn, Sm K H x tn ∧ (tn == "list" || tn == "tuple") = false ∧ ∀ H', Same H H' → Q (.bl false) H') ∨
  (∃ (a b : Addr) (xs : List V), x = .ref a ∧ SqX K H a [.ref b] ∧ SqX K H b xs ∧ xs.length ≠ 2 ∧ ∀ H', Same H H' → Q (.bl false) H') ∨
  ∃ (a : Addr) (rs : List RP), x = .ref a ∧ RoundR K H a rs ∧ rs.length ≤ 1000 ∧ (∀ t ∈ rs, t.l.length ≤ 1000) ∧ ∀ H', Same H H' → Q (.bl (roundB (rs.map RP.k))) H')
section
variable {P : Program} {w : World} {K : PySem.W.Frag} {mg : Str → Option Value} {base : Heap}
theorem scPair : FnScope ["thing"] ["thing"] (defScope sIsPair) := ⟨rfl, rfl, rfl, by decide +kernel, rfl, by decide +kernel, by decide +kernel⟩
theorem ok_pair {f : Addr} {fd : FuncData} (F : Fun K "is_pair" "is_pair" sIsPair f fd) (m_len : mg "len" = none) (D_isrow : Fok P w K mg base 1 "is_row" ["thing"] (spThing K fun _ n => n == "list" || n == "tuple")) : FnOk P w K mg base (L2.CX P w) 2 f fd ["thing"] (spPair K) := by
  refine F.okX scPair (fun vs H Q E h => ?_) (fun cdv A outer s H vs Q E hr h => ?_)
  · obtain ⟨a, xs, rfl, _⟩ := h
    rfl
  obtain ⟨a, xs, rfl, ha, k⟩ := h
  refine ⟨_, (pss_one (ps_ret (pe_and (pe_f D_isrow (hr.mono (by decide)) (pa_cons (pv 0) pa_nil)) (pe_one (pe_cmpR op_eq (pe_callB (lenK K) (by rfl) m_len PySem.boot_len (pa_cons (pv 0) pa_nil)) pe_int (nomark _)))))), ?_⟩
  obtain ⟨tn, hS, hy⟩ := ha.sm
  walk_at "go"
  refine ⟨.ref a, tn, rfl, hS, fun H1 s1 => ?_⟩
  walk_at "go"
  rw [hy]
  refine iteT ?_
  walk_at "go"
  refine r_lenX (ha.keep s1) ?_
  walk_at "go"
  have e : decide (((xs.length : Nat) : Int) = 2) = decide (xs.length = 2) := decide_eq_decide.mpr (by omega)
  rw [e]
  exact k H1 s1
theorem scNatRow : FnScope ["thing", "entry"] ["thing"] (defScope sNatRow) := ⟨rfl, rfl, rfl, by decide +kernel, rfl, by decide +kernel, by decide +kernel⟩
theorem ok_natrow {f : Addr} {fd : FuncData} (F : Fun K "is_natural_row" "is_natural_row" sNatRow f fd) (m_all : mg "all" = none) (D_isrow : Fok P w K mg base 1 "is_row" ["thing"] (spThing K fun _ n => n == "list" || n == "tuple")) (D_isnat : Fok P w K mg base 2 "is_natural" ["thing"] (spThing K fun v _ => isN v)) :
    FnOk P w K mg base (L2.CX P w) 3 f fd ["thing"] (spRow K 1000 fun _ => true) := by
  refine F.okX scNatRow (fun vs H Q E h => ?_) (fun cdv A outer s H vs Q E hr h => ?_)
  · obtain ⟨x, l, rfl, _⟩ := h
    rfl
  obtain ⟨x, l, rfl, ⟨a, rfl, ha⟩, hl, k⟩ := h
  have sc := scNatRow
  refine ⟨_, (pss_one (ps_ret (pe_and (pe_f D_isrow (hr.mono (by decide)) (pa_cons (pv 0) pa_nil)) (pe_one (pe_callB (cr_all rfl) (by rfl) m_all (by decide +kernel) (pa_cons (pe_lc (own := [("entry", 1)]) (g := gName 1) (tt := tYes) rfl sc.nd (pi_seq (pv 0)) (blkOk_by (own := [("entry", 1)]) (N := ["thing", "entry"]) (sc := defScope sNatRow) (by decide +kernel)) (fun _ _ _ _ _ => pg_name (i := 1) sc.nd rfl (Or.inl rfl)) (fun _ _ _ _ _ => pts_nil) (fun _ _ _ _ _ => (pe_f D_isnat (hr.mono (by decide)) (pa_cons (pv 1) pa_nil)))) pa_nil)))))), ?_⟩
  obtain ⟨tn, hS, hy⟩ := ha.sm
  walk_at "go"
  refine ⟨.ref a, tn, rfl, hS, fun H1 s1 => ?_⟩
  walk_at "go"
  rw [hy]
  refine iteT ?_
  walk_at "go"
  refine r_seqI ?_
  walk_at "go"
  refine (r_lcZX l (fun (c : Nat) => V.int (c : Int)) (fun _ => true) (fun _ => .bl true) (ha.keep s1) (by omega) (fun _ => rfl) (fun c hc H2 s2 QT q => q H2 (Same.refl _)) (fun c hc H2 _ s2 Q q => ?_) fun p H2 hp s2 h2 => ?_).1
  · walk_at "go"
    refine ⟨.int (c : Int), "int", rfl, .int _, fun H3 s3 => ?_⟩
    have e : isN (.int (c : Int)) = true := by
      show decide ((0 : Int) ≤ (c : Int)) = true
      exact decide_eq_true (by omega)
    have q := q H3 s3
    rw [← e] at q
    exact q
  · walk_at "go"
    rw [map_bl l fun _ => true] at h2
    refine r_all (SqL.of h2) ?_
    have e : ((l.map fun _ => true).all id) = true := by simp
    rw [e]
    exact k H2 (s1.trans s2)
theorem scNatSet : FnScope ["thing", "place"] ["thing"] (defScope sNatSet) := ⟨rfl, rfl, rfl, by decide +kernel, rfl, by decide +kernel, by decide +kernel⟩
theorem nV_get {l : List Nat} {i : Nat} (h : i < l.length) : atI (nV l) (i : Int) = some (.int ((l.getD i 0 : Nat) : Int)) := by
  refine atI_nat (nV_at' ?_)
  simp [List.getD, h]
theorem ok_natset {f : Addr} {fd : FuncData} (F : Fun K "is_natural_set" "is_natural_set" sNatSet f fd) (m_all : mg "all" = none) (m_len : mg "len" = none) (m_range : mg "range" = none) (D_isnaturalrow : Fok P w K mg base 3 "is_natural_row" ["thing"] (spRow K 1000 fun _ => true)) :
    FnOk P w K mg base (L2.CX P w) 4 f fd ["thing"] (spRow K 1000 natSetB) := by
  refine F.okX scNatSet (fun vs H Q E h => ?_) (fun cdv A outer s H vs Q E hr h => ?_)
  · obtain ⟨x, l, rfl, _⟩ := h
    rfl
  obtain ⟨x, l, rfl, ⟨a, rfl, ha⟩, hl, k⟩ := h
  have sc := scNatSet
  refine ⟨_, (pss_cons (ps_if (PW.pt (pw_or (pt_not (pt_val (pe_f D_isnaturalrow (hr.mono (by decide)) (pa_cons (pv 0) pa_nil)))) (pw_or1 (pt_cmpR op_eq (pe_callB (lenK K) (by rfl) m_len PySem.boot_len (pa_cons (pv 0) pa_nil)) pe_int (nomark _))))) (pss_one (ps_ret pe_bl)) pss_nil)
      (pss_one (ps_ret (pe_callB (cr_all rfl) (by rfl) m_all (by decide +kernel) (pa_cons (pe_lc (own := [("place", 1)]) (g := gName 1) (tt := tYes) rfl sc.nd (pi_range2 (by rfl) m_range (pa_cons pe_int (pa_cons (pe_callB (lenK K) (by rfl) m_len PySem.boot_len (pa_cons (pv 0) pa_nil)) pa_nil))) (blkOk_by (own := [("place", 1)]) (N := ["thing", "place"]) (sc := defScope sNatSet) (by decide +kernel)) (fun _ _ _ _ _ => pg_name (i := 1) sc.nd rfl (Or.inl rfl)) (fun _ _ _ _ _ => pts_nil) (fun _ _ _ _ _ => (pe_cmpR op_lt (pe_ix (ixA K) (pv 0) (pe_op op_sub (pv 1) pe_int) (fun _ _ => rfl)) (pe_ix (ixA K) (pv 0) (pv 1) (fun _ _ => rfl)) (nomark _)))) pa_nil))))), ?_⟩
  walk_at "go"
  refine ⟨.ref a, l, rfl, ⟨a, rfl, ha⟩, hl, fun H1 s1 => ?_⟩
  walk_at "go"
  refine ite_no rfl ?_
  walk_at "go"
  have h1 := ha.keep s1
  refine r_lenX h1 ?_
  rw [nV_len]
  walk_at "go"
  refine iteB (fun e => ?_) fun e => ?_
  · have e := of_decide_eq_true e
    have : l = [] := List.length_eq_zero_iff.mp (by omega)
    subst this
    walk_at "go"
    exact k H1 s1
  · have e := of_decide_eq_false e
    have hpos : 0 < l.length := by omega
    walk_at "go"
    refine r_lenX h1 ?_
    rw [nV_len]
    walk_at "go"
    refine r_rngK2 (l.length - 1) (by omega) (by omega) ?_
    refine r_lcRl (fun _ => true) (fun i => .bl (decide (l.getD i 0 < l.getD (i + 1) 0))) (by omega) (fun _ => rfl) (fun i H2 hi s2 QT q => q H2 (Same.refl _)) (fun i H2 hi _ s2 Q q => ?_) fun p H2 hp s2 h2 => ?_
    · walk_at "go"
      have e1 : (1 + (i : Int)) - 1 = (i : Int) := by omega
      rw [e1]
      refine r_ixA (h1.keep s2) (nV_get (by omega)) ?_
      walk_at "go"
      have e2 : (1 + (i : Int)) = ((i + 1 : Nat) : Int) := by omega
      rw [e2]
      refine r_ixA (h1.keep s2) (nV_get (by omega)) ?_
      walk_at "go"
      have e3 : decide (((l.getD i 0 : Nat) : Int) < ((l.getD (i + 1) 0 : Nat) : Int)) = decide (l.getD i 0 < l.getD (i + 1) 0) := decide_eq_decide.mpr (by omega)
      rw [e3]
      exact q H2 (Same.refl _)
    · walk_at "go"
      rw [map_bl (List.range (l.length - 1)) fun i => decide (l.getD i 0 < l.getD (i + 1) 0)] at h2
      refine r_all (SqL.of h2) ?_
      have e4 : natSetB l = ((List.range (l.length - 1)).map fun i => decide (l.getD i 0 < l.getD (i + 1) 0)).all id := by
        unfold natSetB ascB
        rw [List.all_map]
        have : l.isEmpty = false := by
          cases l with
          | nil => simp at hpos
          | cons => rfl
        rw [this]
        rfl
      rw [← e4]
      exact k H2 (s1.trans s2)
theorem scLies : FnScope ["one", "other", "name"] ["one", "other"] (defScope sLies) := ⟨rfl, rfl, rfl, by decide +kernel, rfl, by decide +kernel, by decide +kernel⟩
theorem ok_lies {f : Addr} {fd : FuncData} (F : Fun K "lies_within" "lies_within" sLies f fd) (m_all : mg "all" = none) : FnOk P w K mg base (L2.CX P w) 1 f fd ["one", "other"] (spLies K) := by
  refine F.okX scLies (fun vs H Q E h => ?_) (fun cdv A outer s H vs Q E hr h => ?_)
  · obtain ⟨x, y, l, m, rfl, _⟩ := h
    rfl
  obtain ⟨x, y, l, m, rfl, ⟨a, rfl, ha⟩, ⟨b, rfl, hb⟩, hl, k⟩ := h
  have sc := scLies
  refine ⟨_, (pss_one (ps_ret (pe_callB (cr_all rfl) (by rfl) m_all (by decide +kernel) (pa_cons (pe_lc (own := [("name", 2)]) (g := gName 2) (tt := tYes) rfl sc.nd (pi_seq (pv 0)) (blkOk_by (own := [("name", 2)]) (N := ["one", "other", "name"]) (sc := defScope sLies) (by decide +kernel)) (fun _ _ _ _ _ => pg_name (i := 2) sc.nd rfl (Or.inl rfl)) (fun _ _ _ _ _ => pts_nil) (fun _ _ _ _ _ => (pe_cmpR (inK K) (pv 2) (pv 1) (by with_unfolding_all rfl)))) pa_nil)))), ?_⟩
  walk_at "go"
  refine r_seqI ?_
  walk_at "go"
  refine (r_lcZX l (fun (c : Nat) => V.int (c : Int)) (fun _ => true) (fun c => .bl (decide (c ∈ m))) ha (by omega) (fun _ => rfl) (fun c hc H2 s2 QT q => q H2 (Same.refl _)) (fun c hc H2 _ s2 Q q => ?_) fun p H2 hp s2 h2 => ?_).1
  · walk_at "go"
    refine r_inX (hb.keep s2) ?_
    exact q H2 (Same.refl _)
  · walk_at "go"
    rw [map_bl l fun c => decide (c ∈ m)] at h2
    refine r_all (SqL.of h2) ?_
    rw [List.all_map]
    exact k H2 s2
theorem scLook : FnScope ["name", "look", "names"] ["name", "look", "names"] (defScope sIsLook) := ⟨rfl, rfl, rfl, by decide +kernel, rfl, by decide +kernel, by decide +kernel⟩
theorem ok_look {f : Addr} {fd : FuncData} (F : Fun K "is_look" "is_look" sIsLook f fd) (D_isnaturalset : Fok P w K mg base 4 "is_natural_set" ["thing"] (spRow K 1000 natSetB)) (D_lieswithin : Fok P w K mg base 1 "lies_within" ["one", "other"] (spLies K)) :
    FnOk P w K mg base (L2.CX P w) 5 f fd ["name", "look", "names"] (spLook K) := by
  refine F.okX scLook (fun vs H Q E h => ?_) (fun cdv A outer s H vs Q E hr h => ?_)
  · obtain ⟨c, x, y, l, m, rfl, _⟩ := h
    rfl
  obtain ⟨c, x, y, l, m, rfl, ⟨a, rfl, ha⟩, ⟨b, rfl, hb⟩, hl, k⟩ := h
  have sc := scLook
  refine ⟨_, (pss_one (ps_ret (pe_and (pe_f D_isnaturalset (hr.mono (by decide)) (pa_cons (pv 1) pa_nil)) (pe_and (pe_cmpR (inK K) (pv 0) (pv 1) (by with_unfolding_all rfl)) (pe_one (pe_f D_lieswithin (hr.mono (by decide)) (pa_cons (pv 1) (pa_cons (pv 2) pa_nil)))))))), ?_⟩
  walk_at "go"
  refine ⟨.ref a, l, rfl, ⟨a, rfl, ha⟩, hl, fun H1 s1 => ?_⟩
  walk_at "go"
  refine iteB (fun e => ?_) fun e => ?_
  · walk_at "go"
    refine r_inX (ha.keep s1) ?_
    walk_at "go"
    refine iteB (fun e2 => ?_) fun e2 => ?_
    · walk_at "go"
      refine ⟨.ref a, .ref b, l, m, rfl, ⟨a, rfl, ha.keep s1⟩, ⟨b, rfl, hb.keep s1⟩, hl, fun H2 s2 => ?_⟩
      have e3 : lookB c l m = liesB l m := by unfold lookB; rw [e, e2]; rfl
      rw [← e3]
      exact k H2 (s1.trans s2)
    · have e3 : lookB c l m = false := by unfold lookB; rw [e, e2]; rfl
      rw [e3] at k
      walk_at "go"
      exact k H1 s1
  · have e3 : lookB c l m = false := by unfold lookB; rw [e]; rfl
    rw [e3] at k
    walk_at "go"
    exact k H1 s1
end
end K9
namespace K9
open PySem L2 Er K7M
/-- one step of a plain reading -/
local macro_rules | `(tactic| walk_at "step") => `(tactic| first
  | with_reducible refine r_seq ?_ | with_reducible refine r_nx ?_ | with_reducible refine r_asgN ?_ | with_reducible refine r_asgS ?_ | with_reducible refine r_asgT ?_ | with_reducible refine r_ifS ?_
  | with_reducible refine r_ret ?_ | with_reducible refine r_retN ?_ | with_reducible refine r_drop ?_ | with_reducible refine r_test ?_ | with_reducible refine r_B ?_ | with_reducible refine r_not ?_
  | with_reducible refine r_and ?_ | with_reducible refine r_or ?_ | with_reducible refine r_andV ?_ | with_reducible refine r_orV ?_ | with_reducible refine r_notV ?_
  | ((with_reducible refine' r_var ?e ?_); (case e => exact rfl)) | with_reducible refine r_c ?_ | with_reducible refine r_op ?_ | with_reducible refine r_un ?_
  | with_reducible refine r_I0 ?_ | with_reducible refine r_eqI ?_ | with_reducible refine r_neI ?_ | with_reducible refine r_bl ?_ | with_reducible refine r_nil ?_ | with_reducible refine r_cons ?_
  | with_reducible refine r_cb ?_ | with_reducible refine r_call ?_ | with_reducible refine r_tup ?_ | with_reducible refine r_lst ?_ | with_reducible refine r_fld ?_ | with_reducible refine r_bm ?_ | with_reducible refine r_bm0 ?_
  | with_reducible refine r_for ?_ | with_reducible refine r_rng ?_ | with_reducible refine r_rng2 ?_ | with_reducible refine r_lstI ?_ | with_reducible refine r_tupI ?_ | with_reducible refine r_lc ?_
  | with_reducible refine r_augS ?_ | with_reducible refine r_ipI ?_
  | with_reducible refine r_meth ?_ | with_reducible refine r_prop ?_ | with_reducible refine r_make ?_ | with_reducible refine r_din ?_ | with_reducible refine r_dnin ?_ | with_reducible refine r_dput ?_ | with_reducible refine r_dget ?_
  | with_reducible refine r_gN ?_ | with_reducible refine r_tsl ?_ | with_reducible refine r_noP ?_ | with_reducible refine r_part ?_ | with_reducible refine r_pI ?_ | with_reducible refine r_tif ?_ | with_reducible refine r_SL ?_ | with_reducible refine r_gC ?_ | with_reducible refine r_U ?_ | with_reducible refine r_sfld ?_ | with_reducible refine r_dnew ?_ | with_reducible refine r_keys ?_
  | with_reducible refine r_mkE ?_ | with_reducible refine iteT ?_ | with_reducible refine iteF ?_
  | with_reducible refine r_int ?_ | with_reducible refine r_min2 ?_ | with_reducible refine r_isN ?_ | with_reducible refine r_notN ?_)
/-- as far as it goes by itself -/
local macro_rules | `(tactic| walk_at "go") => `(tactic| ((repeat walk_at "step"); (try dsimp only)))

def waitsB (ls : List (Nat × List Nat)) : Bool := ls.all fun il => decide ((ls.length : Int) - (il.2.length : Int) ≤ 1)
/-- what is no round -/
def BadRd (K : PySem.W.Frag) (H : Hp) (x : V) : Prop := (∃ tn, Sm K H x tn ∧ (tn == "list" || tn == "tuple") = false) ∨ (∃ (a b : Addr) (xs : List V), x = .ref a ∧ SqX K H a [.ref b] ∧ SqX K H b xs ∧ xs.length ≠ 2) ∨
  ∃ (a : Addr) (rs : List RP), x = .ref a ∧ RoundR K H a rs ∧ rs.length ≤ 1000 ∧ (∀ t ∈ rs, t.l.length ≤ 1000) ∧ roundB (rs.map RP.k) = false
def GoodRd (K : PySem.W.Frag) (H : Hp) (a : Addr) (rs : List RP) : Prop := RoundR K H a rs ∧ rs.length ≤ 1000 ∧ (∀ t ∈ rs, t.l.length ≤ 1000) ∧ roundB (rs.map RP.k) = true
theorem GoodRd.keep {K : PySem.W.Frag} {H H' : Hp} {a : Addr} {rs : List RP} (h : GoodRd K H a rs) (s : Same H H') : GoodRd K H' a rs := ⟨h.1.keep s, h.2⟩
theorem BadRd.keep {K : PySem.W.Frag} {H H' : Hp} {x : V} (h : BadRd K H x) (s : Same H H') : BadRd K H' x := by
  rcases h with ⟨tn, h1, h2⟩ | ⟨a, b, xs, e, h1, h2, h3⟩ | ⟨a, rs, e, h1, h2⟩
  · exact .inl ⟨tn, sm_ext s h1, h2⟩
  · exact .inr (.inl ⟨a, b, xs, e, h1.keep s, h2.keep s, h3⟩)
  · exact .inr (.inr ⟨a, rs, e, h1.keep s, h2⟩)
theorem bad_round {K : PySem.W.Frag} {H : Hp} {x : V} {Q : VK} {E : XK} (h : BadRd K H x) (k : ∀ H', Same H H' → Q (.bl false) H') : spRound K [x] H Q E := by
  rcases h with ⟨tn, h1, h2⟩ | ⟨a, b, xs, e, h1, h2, h3⟩ | ⟨a, rs, e, h1, h2, h3, h4⟩
  · exact ⟨x, rfl, .inl ⟨tn, h1, h2, k⟩⟩
  · exact ⟨x, rfl, .inr (.inl ⟨a, b, xs, e, h1, h2, h3, k⟩)⟩
  · exact ⟨x, rfl, .inr (.inr ⟨a, rs, e, h1, h2, h3, by rw [h4]; exact k⟩)⟩
theorem good_round {K : PySem.W.Frag} {H : Hp} {a : Addr} {rs : List RP} {Q : VK} {E : XK} (h : GoodRd K H a rs) (k : ∀ H', Same H H' → Q (.bl true) H') : spRound K [.ref a] H Q E := ⟨_, rfl, .inr (.inr ⟨a, rs, rfl, h.1, h.2.1, h.2.2.1, by rw [h.2.2.2]; exact k⟩)⟩
def spWaits (K : PySem.W.Frag) (CR : Addr) : Sp := fun vs H Q E => ∃ x, vs = [x] ∧ ((BadRd K H x ∧ rsd CR "place" (.int (-1)) H E) ∨ ∃ (a : Addr) (rs : List RP), x = .ref a ∧ GoodRd K H a rs ∧ ∀ H', Same H H' → Q (.bl (waitsB (rs.map RP.k))) H')
/-- the classes of errors of this text -/
structure Errs (P : Program) (w : World) (K : PySem.W.Frag) (mg : Str → Option Value) (CN CR CM : Addr) : Prop where
  nm : ∃ fI, XC K CN fI "name" ∧ InitRun P w K mg CN fI "name" (fun _ => True)
  nr : ∃ fI, XC K CR fI "place" ∧ InitRun P w K mg CR fI "place" (fun _ => True)
  nw : ∃ fI, XC K CM fI "word" ∧ InitRun P w K mg CM fI "word" (fun u => ∃ x t, u = .str x t ∧ x.length ≤ 1000)
  gN : mg "BadName" = some (.ref CN)
  gR : mg "BadRound" = some (.ref CR)
  gM : mg "TooMany" = some (.ref CM)
section
variable {P : Program} {w : World} {K : PySem.W.Frag} {mg : Str → Option Value} {base : Heap} {CN CR CM : Addr}
theorem scNest : FnScope ["pairs", "looks", "pair", "place"] ["pairs"] (defScope sNest) := ⟨rfl, rfl, rfl, by decide +kernel, rfl, by decide +kernel, by decide +kernel⟩
theorem ok_nest {f : Addr} {fd : FuncData} (F : Fun K "looks_nest" "looks_nest" sNest f fd) (m_all : mg "all" = none) (m_len : mg "len" = none) (m_range : mg "range" = none) (m_sorted : mg "sorted" = none) (D_lieswithin : Fok P w K mg base 1 "lies_within" ["one", "other"] (spLies K)) :
    FnOk P w K mg base (L2.CX P w) 2 f fd ["pairs"] (spNest K) := by
  refine F.okX scNest (fun vs H Q E h => ?_) (fun cdv A outer s H vs Q E hr h => ?_)
  · obtain ⟨a, rs, rfl, _⟩ := h
    rfl
  obtain ⟨a, rs, rfl, ⟨ha, hrs⟩, hn, hl, k⟩ := h
  have sc := scNest
  refine ⟨_, (pss_cons (ps_set (i := 1) sc.nd rfl (Or.inr rfl) (pe_sortLenA hr.units (pa_cons (pe_lc (own := [("pair", 2)]) (g := gName 2) (tt := tYes) rfl sc.nd (pi_seq (pv 0)) (blkOk_by (own := [("pair", 2)]) (N := ["pairs", "looks", "pair", "place"]) (sc := defScope sNest) (by decide +kernel)) (fun _ _ _ _ _ => pg_name (i := 2) sc.nd rfl (Or.inl rfl)) (fun _ _ _ _ _ => pts_nil) (fun _ _ _ _ _ => (pe_ix (ixA K) (pv 2) pe_int (fun _ _ => rfl)))) pa_nil) (by rfl) m_sorted (by rfl) m_len))
      (pss_one (ps_ret (pe_callB (cr_all rfl) (by rfl) m_all (by decide +kernel) (pa_cons (pe_lc (own := [("place", 3)]) (g := gName 3) (tt := tYes) rfl sc.nd (pi_range2 (by rfl) m_range (pa_cons pe_int (pa_cons (pe_callB (lenK K) (by rfl) m_len PySem.boot_len (pa_cons (pv 1) pa_nil)) pa_nil))) (blkOk_by (own := [("place", 3)]) (N := ["pairs", "looks", "pair", "place"]) (sc := defScope sNest) (by decide +kernel)) (fun _ _ _ _ _ => pg_name (i := 3) sc.nd rfl (Or.inl rfl)) (fun _ _ _ _ _ => pts_nil) (fun _ _ _ _ _ => (pe_f D_lieswithin (hr.mono (by decide)) (pa_cons (pe_ix (ixL K) (pv 1) (pe_op op_sub (pv 3) pe_int) (fun _ _ => rfl)) (pa_cons (pe_ix (ixL K) (pv 1) (pv 3) (fun _ _ => rfl)) pa_nil))))) pa_nil))))), ?_⟩
  walk_at "go"
  refine r_SLA ?_
  walk_at "go"
  refine r_seqI ?_
  walk_at "go"
  refine (r_lcZX rs RP.v (fun _ => true) (fun t => .ref t.r) ha (by omega) (fun _ => rfl) (fun t ht H2 s2 QT q => q H2 (Same.refl _)) (fun t ht H2 _ s2 Q q => ?_) fun p H2 hp s2 h2 => ?_).1
  · walk_at "go"
    refine r_ixA (v := .ref t.r) ((hrs t ht).1.keep s2) rfl ?_
    exact q H2 (Same.refl _)
  walk_at "go"
  have e1 : (rs.filter fun _ => true).map (fun t => V.ref t.r) = refsOf ((rs.map fun t => (t.r, t.l)).map upV) := by
    rw [List.filter_eq_self.mpr fun _ _ => rfl]
    unfold refsOf upV
    rw [List.map_map, List.map_map]
    rfl
  rw [e1] at h2
  refine ⟨p, _, rfl, SqL.of h2, fun u hu => ?_, by rw [List.length_map, List.length_map]; exact hn, fun q hq => ?_⟩
  · obtain ⟨v, hv, rfl⟩ := List.mem_map.mp hu
    obtain ⟨t, ht, rfl⟩ := List.mem_map.mp hv
    exact (hrs t ht).2.keep s2
  rw [sort_up]
  have hat : ∀ u ∈ (rs.map fun t => (t.r, t.l)).mergeSort leA, u.2.length ≤ 1000 ∧ SqX K H2 u.1 (nV u.2) := fun u hu => by
    have hu := (List.mergeSort_perm _ _).mem_iff.mp hu
    obtain ⟨t, ht, rfl⟩ := List.mem_map.mp hu
    exact ⟨hl t ht, (hrs t ht).2.keep s2⟩
  have elen : ((rs.map fun t => (t.r, t.l)).mergeSort leA).length = rs.length := by rw [List.length_mergeSort, List.length_map]
  have esnd : ((rs.map fun t => (t.r, t.l)).mergeSort leA).map (·.2) = (rs.map RP.l).mergeSort lenLeN := by rw [sort_snd, List.map_map]; rfl
  generalize (rs.map fun t => (t.r, t.l)).mergeSort leA = S at hat elen esnd ⊢
  have s3 := s2.trans (same_new (o := .lst (refsOf (S.map upV))) hq)
  have hat3 : ∀ u ∈ S, u.2.length ≤ 1000 ∧ SqX K (upd H2 q (.lst (refsOf (S.map upV)))) u.1 (nV u.2) := fun u hu => ⟨(hat u hu).1, (hat u hu).2.keep (same_new hq)⟩
  have e3 : refsOf (S.map upV) = S.map fun u => V.ref u.1 := by
    unfold refsOf
    rw [List.map_map]
    rfl
  have h3 : (upd H2 q (.lst (refsOf (S.map upV)))) q = some (.lst (S.map fun u => V.ref u.1)) := by rw [upd_same, e3]
  generalize upd H2 q (.lst (refsOf (S.map upV))) = H3 at s3 h3 hat3 ⊢
  walk_at "go"
  refine r_lenX (.L h3) ?_
  rw [List.length_map, elen]
  walk_at "go"
  have at_ : ∀ {i : Nat}, (hi : i < rs.length) → ∃ u ∈ S, (S.map fun u => V.ref u.1)[i]? = some (.ref u.1) ∧ ((rs.map RP.l).mergeSort lenLeN).getD i [] = u.2 := fun {i} hi => by
    have hiS : i < S.length := by omega
    refine ⟨S[i], List.getElem_mem hiS, ?_, ?_⟩
    · rw [List.getElem?_map, List.getElem?_eq_getElem hiS]
      rfl
    · rw [← esnd]
      simp [List.getD, hiS]
  refine r_rngK2 (rs.length - 1) (by omega) (by omega) ?_
  refine r_lcRl (fun _ => true) (fun i => .bl (liesB (((rs.map RP.l).mergeSort lenLeN).getD i []) (((rs.map RP.l).mergeSort lenLeN).getD (i + 1) []))) (by omega) (fun _ => rfl) (fun i H4 hi s4 QT q => q H4 (Same.refl _)) (fun i H4 hi _ s4 Q q => ?_) fun p4 H4 hp4 s4 h4 => ?_
  · obtain ⟨u, hu, hu1, hu2⟩ := at_ (i := i) (by omega)
    obtain ⟨v, hv, hv1, hv2⟩ := at_ (i := i + 1) (by omega)
    walk_at "go"
    have e4 : (1 + (i : Int)) - 1 = (i : Int) := by omega
    rw [e4]
    refine r_ixL (SqL.of (s4 _ _ h3)) (atI_nat hu1) ?_
    walk_at "go"
    have e5 : (1 + (i : Int)) = ((i + 1 : Nat) : Int) := by omega
    rw [e5]
    refine r_ixL (SqL.of (s4 _ _ h3)) (atI_nat hv1) ?_
    walk_at "go"
    refine ⟨.ref u.1, .ref v.1, u.2, v.2, rfl, ⟨u.1, rfl, (hat3 u hu).2.keep s4⟩, ⟨v.1, rfl, (hat3 v hv).2.keep s4⟩, (hat3 u hu).1, fun H5 s5 => ?_⟩
    rw [hu2, hv2] at q
    exact q H5 s5
  · walk_at "go"
    rw [map_bl (List.range (rs.length - 1)) fun i => liesB (((rs.map RP.l).mergeSort lenLeN).getD i []) (((rs.map RP.l).mergeSort lenLeN).getD (i + 1) [])] at h4
    refine r_all (SqL.of h4) ?_
    have e6 : nestB (rs.map RP.l) = ((List.range (rs.length - 1)).map fun i => liesB (((rs.map RP.l).mergeSort lenLeN).getD i []) (((rs.map RP.l).mergeSort lenLeN).getD (i + 1) [])).all id := by
      unfold nestB
      rw [List.all_map, List.length_map]
      rfl
    rw [← e6]
    exact k H4 (s3.trans s4)
theorem scRound : FnScope ["thing", "names", "entry"] ["thing"] (defScope sIsRound) := ⟨rfl, rfl, rfl, by decide +kernel, rfl, by decide +kernel, by decide +kernel⟩
theorem ok_round {f : Addr} {fd : FuncData} (F : Fun K "is_round" "is_round" sIsRound f fd) (m_all : mg "all" = none) (D_isrow : Fok P w K mg base 1 "is_row" ["thing"] (spThing K fun _ n => n == "list" || n == "tuple")) (D_ispair : Fok P w K mg base 2 "is_pair" ["thing"] (spPair K))
    (D_isnaturalset : Fok P w K mg base 4 "is_natural_set" ["thing"] (spRow K 1000 natSetB)) (D_islook : Fok P w K mg base 5 "is_look" ["name", "look", "names"] (spLook K)) (D_looksnest : Fok P w K mg base 2 "looks_nest" ["pairs"] (spNest K)) :
    FnOk P w K mg base (L2.CX P w) 6 f fd ["thing"] (spRound K) := by
  refine F.okX scRound (fun vs H Q E h => ?_) (fun cdv A outer s H vs Q E hr h => ?_)
  · obtain ⟨x, rfl, _⟩ := h
    rfl
  obtain ⟨x, rfl, h⟩ := h
  have sc := scRound
  refine ⟨_, (pss_cons (ps_if (PW.pt (pw_or (pt_not (pt_val (pe_f D_isrow (hr.mono (by decide)) (pa_cons (pv 0) pa_nil)))) (pw_or1 (pt_not (pt_val (pe_callB (cr_all rfl) (by rfl) m_all (by decide +kernel) (pa_cons (pe_lc (own := [("entry", 2)]) (g := gName 2) (tt := tYes) rfl sc.nd (pi_seq (pv 0)) (blkOk_by (own := [("entry", 2)]) (N := ["thing", "names", "entry"]) (sc := defScope sIsRound) (by decide +kernel)) (fun _ _ _ _ _ => pg_name (i := 2) sc.nd rfl (Or.inl rfl)) (fun _ _ _ _ _ => pts_nil) (fun _ _ _ _ _ => (pe_f D_ispair (hr.mono (by decide)) (pa_cons (pv 2) pa_nil)))) pa_nil))))))) (pss_one (ps_ret pe_bl)) pss_nil)
      (pss_cons (ps_set (i := 1) sc.nd rfl (Or.inr rfl) (pe_lc (own := [("entry", 2)]) (g := gName 2) (tt := tYes) rfl sc.nd (pi_seq (pv 0)) (blkOk_by (own := [("entry", 2)]) (N := ["thing", "names", "entry"]) (sc := defScope sIsRound) (by decide +kernel)) (fun _ _ _ _ _ => pg_name (i := 2) sc.nd rfl (Or.inl rfl)) (fun _ _ _ _ _ => pts_nil) (fun _ _ _ _ _ => (pe_ix (ixA K) (pv 2) pe_int (fun _ _ => rfl)))))
      (pss_cons (ps_if (pt_not (pt_val (pe_f D_isnaturalset (hr.mono (by decide)) (pa_cons (pv 1) pa_nil)))) (pss_one (ps_ret pe_bl)) pss_nil)
      (pss_one (ps_ret (pe_and (pe_callB (cr_all rfl) (by rfl) m_all (by decide +kernel) (pa_cons (pe_lc (own := [("entry", 2)]) (g := gName 2) (tt := tYes) rfl sc.nd (pi_seq (pv 0)) (blkOk_by (own := [("entry", 2)]) (N := ["thing", "names", "entry"]) (sc := defScope sIsRound) (by decide +kernel)) (fun _ _ _ _ _ => pg_name (i := 2) sc.nd rfl (Or.inl rfl)) (fun _ _ _ _ _ => pts_nil) (fun _ _ _ _ _ => (pe_f D_islook (hr.mono (by decide)) (pa_cons (pe_ix (ixA K) (pv 2) pe_int (fun _ _ => rfl)) (pa_cons (pe_ix (ixA K) (pv 2) pe_int (fun _ _ => rfl)) (pa_cons (pv 1) pa_nil)))))) pa_nil)) (pe_one (pe_f D_looksnest (hr.mono (by decide)) (pa_cons (pv 0) pa_nil))))))))), ?_⟩
  walk_at "go"
  rcases h with ⟨tn, hS, hno, k⟩ | ⟨a, b, xs, rfl, ha, hb, hx2, k⟩ | ⟨a, rs, rfl, ⟨ha, hrs⟩, hn, hl, k⟩
  · refine ⟨x, tn, rfl, hS, fun H1 s1 => ?_⟩
    walk_at "go"
    rw [hno]
    refine iteT ?_
    walk_at "go"
    exact k H1 s1
  · obtain ⟨tn, hS, hy⟩ := ha.sm
    refine ⟨.ref a, tn, rfl, hS, fun H1 s1 => ?_⟩
    walk_at "go"
    rw [hy]
    refine iteF ?_
    walk_at "go"
    refine r_seqI ?_
    walk_at "go"
    refine (r_lcZX [b] V.ref (fun _ => true) (fun _ => .bl false) (ha.keep s1) (by simp) (fun _ => rfl) (fun t ht H2 s2 QT q => q H2 (Same.refl _)) (fun t ht H2 _ s2 Q q => ?_) fun p H2 hp s2 h2 => ?_).1
    · rw [List.mem_singleton.mp ht]
      walk_at "go"
      refine ⟨b, xs, rfl, hb.keep (s1.trans s2), fun H3 s3 => ?_⟩
      rw [decide_eq_false hx2]
      exact q H3 s3
    · walk_at "go"
      rw [map_bl [b] fun _ => false] at h2
      refine r_all (SqL.of h2) ?_
      walk_at "go"
      refine ite_yes rfl ?_
      walk_at "go"
      exact k H2 (s1.trans s2)
  · obtain ⟨tn, hS, hy⟩ := ha.sm
    refine ⟨.ref a, tn, rfl, hS, fun H1 s1 => ?_⟩
    walk_at "go"
    rw [hy]
    refine iteF ?_
    walk_at "go"
    refine r_seqI ?_
    walk_at "go"
    refine (r_lcZX rs RP.v (fun _ => true) (fun _ => .bl true) (ha.keep s1) (by omega) (fun _ => rfl) (fun t ht H2 s2 QT q => q H2 (Same.refl _)) (fun t ht H2 _ s2 Q q => ?_) fun p H2 hp s2 h2 => ?_).1
    · walk_at "go"
      refine ⟨t.p, _, rfl, (hrs t ht).1.keep (s1.trans s2), fun H3 s3 => ?_⟩
      exact q H3 s3
    walk_at "go"
    rw [map_bl rs fun _ => true] at h2
    refine r_all (SqL.of h2) ?_
    walk_at "go"
    refine ite_no (by simp) ?_
    have s12 := s1.trans s2
    walk_at "go"
    refine r_seqI ?_
    walk_at "go"
    refine (r_lcZX rs RP.v (fun _ => true) (fun t => .int (t.c : Int)) (ha.keep s12) (by omega) (fun _ => rfl) (fun t ht H3 s3 QT q => q H3 (Same.refl _)) (fun t ht H3 _ s3 Q q => ?_) fun q H3 hq s3 h3 => ?_).1
    · walk_at "go"
      refine r_ixA (v := .int (t.c : Int)) ((hrs t ht).1.keep (s12.trans s3)) rfl ?_
      exact q H3 (Same.refl _)
    have e3 : (rs.filter fun _ => true).map (fun t => V.int (t.c : Int)) = nV (rs.map RP.c) := by
      rw [List.filter_eq_self.mpr fun _ _ => rfl]
      unfold nV
      rw [List.map_map]
      rfl
    rw [e3] at h3
    have s13 := s12.trans s3
    have enames : (rs.map RP.k).map (·.1) = rs.map RP.c := by rw [List.map_map]; rfl
    have elooks : (rs.map RP.k).map (·.2) = rs.map RP.l := by rw [List.map_map]; rfl
    walk_at "go"
    refine ⟨.ref q, rs.map RP.c, rfl, ⟨q, rfl, .L h3⟩, by rw [List.length_map]; exact hn, fun H4 s4 => ?_⟩
    have s14 := s13.trans s4
    walk_at "go"
    refine iteB (fun e => ?_) fun e => ?_
    · have e5 : roundB (rs.map RP.k) = false := by
        have e : natSetB (rs.map RP.c) = false := by simpa using e
        unfold roundB
        rw [enames, e]
        rfl
      rw [e5] at k
      walk_at "go"
      exact k H4 s14
    · have e : natSetB (rs.map RP.c) = true := by simpa using e
      walk_at "go"
      refine r_seqI ?_
      walk_at "go"
      refine (r_lcZX rs RP.v (fun _ => true) (fun t => .bl (lookB t.c t.l (rs.map RP.c))) (ha.keep s14) (by omega) (fun _ => rfl) (fun t ht H5 s5 QT q => q H5 (Same.refl _)) (fun t ht H5 _ s5 Q y => ?_) fun p5 H5 hp5 s5 h5 => ?_).1
      · have s15 := s14.trans s5
        walk_at "go"
        refine r_ixA (v := .int (t.c : Int)) ((hrs t ht).1.keep s15) rfl ?_
        walk_at "go"
        refine r_ixA (v := .ref t.r) ((hrs t ht).1.keep s15) rfl ?_
        walk_at "go"
        refine ⟨t.c, .ref t.r, .ref q, t.l, rs.map RP.c, rfl, ⟨t.r, rfl, (hrs t ht).2.keep s15⟩, ⟨q, rfl, .L (s5 _ _ (s4 _ _ h3))⟩, hl t ht, fun H6 s6 => ?_⟩
        exact y H6 s6
      walk_at "go"
      rw [map_bl rs fun t => lookB t.c t.l (rs.map RP.c)] at h5
      refine r_all (SqL.of h5) ?_
      have e6 : ((rs.map RP.k).all fun il => lookB il.1 il.2 (rs.map RP.c)) = ((rs.map fun t => lookB t.c t.l (rs.map RP.c)).all id) := by
        rw [List.all_map, List.all_map]
        rfl
      have e7 : roundB (rs.map RP.k) = (((rs.map fun t => lookB t.c t.l (rs.map RP.c)).all id) && nestB (rs.map RP.l)) := by
        unfold roundB
        rw [enames, elooks, e, Bool.true_and, e6]
      rw [e7] at k
      generalize ((rs.map fun t => lookB t.c t.l (rs.map RP.c)).all id) = b8 at k ⊢
      have s15 := s14.trans s5
      walk_at "go"
      cases b8 with
      | true =>
        refine iteT ?_
        walk_at "go"
        refine ⟨a, rs, rfl, ⟨ha.keep s15, fun t ht => (hrs t ht).keep s15⟩, hn, hl, fun H6 s6 => ?_⟩
        exact k H6 (s15.trans s6)
      | false =>
        refine iteF ?_
        exact k H5 s15
theorem scWaits : FnScope ["row", "pair"] ["row"] (defScope sWaits) := ⟨rfl, rfl, rfl, by decide +kernel, rfl, by decide +kernel, by decide +kernel⟩
theorem ok_waits {f : Addr} {fd : FuncData} (F : Fun K "waits" "waits" sWaits f fd) (T : Errs P w K mg CN CR CM) (m_all : mg "all" = none) (m_len : mg "len" = none) (D_isround : Fok P w K mg base 6 "is_round" ["thing"] (spRound K)) :
    FnOk P w K mg base (L2.CX P w) 7 f fd ["row"] (spWaits K CR) := by
  refine F.okX scWaits (fun vs H Q E h => ?_) (fun cdv A outer s H vs Q E hr h => ?_)
  · obtain ⟨x, rfl, _⟩ := h
    rfl
  obtain ⟨x, rfl, h⟩ := h
  obtain ⟨fI, TR, RR⟩ := T.nr
  have sc := scWaits
  refine ⟨_, (pss_cons (ps_if (pt_not (pt_val (pe_f D_isround (hr.mono (by decide)) (pa_cons (pv 0) pa_nil)))) (pss_one (ps_raise rfl (takes_of rfl rfl rfl rfl) (pmk_er (k := 0) (okV := fun _ => True) TR RR (fun _ _ _ _ => trivial) (hr.mono (by decide)) (by rfl) T.gR (pa_cons (pe_un un_neg pe_int) pa_nil)))) pss_nil)
      (pss_one (ps_ret (pe_callB (cr_all rfl) (by rfl) m_all (by decide +kernel) (pa_cons (pe_lc (own := [("pair", 1)]) (g := gName 1) (tt := tYes) rfl sc.nd (pi_seq (pv 0)) (blkOk_by (own := [("pair", 1)]) (N := ["row", "pair"]) (sc := defScope sWaits) (by decide +kernel)) (fun _ _ _ _ _ => pg_name (i := 1) sc.nd rfl (Or.inl rfl)) (fun _ _ _ _ _ => pts_nil) (fun _ _ _ _ _ => (pe_cmpR op_le (pe_op op_sub (pe_callB (lenK K) (by rfl) m_len PySem.boot_len (pa_cons (pv 0) pa_nil)) (pe_callB (lenK K) (by rfl) m_len PySem.boot_len (pa_cons (pe_ix (ixA K) (pv 1) pe_int (fun _ _ => rfl)) pa_nil))) pe_int (nomark _)))) pa_nil))))), ?_⟩
  walk_at "go"
  rcases h with ⟨hb, hr9⟩ | ⟨a, rs, rfl, hg, k⟩
  · refine bad_round hb fun H1 s1 => ?_
    walk_at "go"
    refine iteT ?_
    walk_at "go"
    exact r_mkK (okV := fun _ => True) trivial fun d hd => rsd_new hr9 s1 hd
  · refine good_round hg fun H1 s1 => ?_
    walk_at "go"
    refine iteF ?_
    obtain ⟨⟨ha, hrs⟩, hn, hl, _⟩ := hg.keep s1
    walk_at "go"
    refine r_seqI ?_
    walk_at "go"
    refine (r_lcZX rs RP.v (fun _ => true) (fun t => .bl (decide ((rs.length : Int) - (t.l.length : Int) ≤ 1))) ha (by omega) (fun _ => rfl) (fun t ht H2 s2 QT q => q H2 (Same.refl _)) (fun t ht H2 _ s2 Q y => ?_) fun p2 H2 hp2 s2 h2 => ?_).1
    · walk_at "go"
      refine r_lenX (ha.keep s2) ?_
      rw [List.length_map]
      walk_at "go"
      refine r_ixA (v := .ref t.r) ((hrs t ht).1.keep s2) rfl ?_
      walk_at "go"
      refine r_lenX ((hrs t ht).2.keep s2) ?_
      rw [nV_len]
      walk_at "go"
      exact y H2 (Same.refl _)
    · walk_at "go"
      rw [map_bl rs fun t => decide ((rs.length : Int) - (t.l.length : Int) ≤ 1)] at h2
      refine r_all (SqL.of h2) ?_
      have e : waitsB (rs.map RP.k) = (rs.map fun t => decide ((rs.length : Int) - (t.l.length : Int) ≤ 1)).all id := by
        unfold waitsB
        rw [List.all_map, List.all_map, List.length_map]
        rfl
      rw [← e]
      exact k H2 (s1.trans s2)
end
end K9
namespace K9
open PySem L2 Er
open K7M
/-- one step of a plain reading -/
local macro_rules | `(tactic| walk_at "step") => `(tactic| first
  | with_reducible refine r_seq ?_ | with_reducible refine r_nx ?_ | with_reducible refine r_asgN ?_ | with_reducible refine r_asgS ?_ | with_reducible refine r_asgT ?_ | with_reducible refine r_ifS ?_
  | with_reducible refine r_ret ?_ | with_reducible refine r_retN ?_ | with_reducible refine r_drop ?_ | with_reducible refine r_test ?_ | with_reducible refine r_B ?_ | with_reducible refine r_not ?_
  | with_reducible refine r_and ?_ | with_reducible refine r_or ?_ | with_reducible refine r_andV ?_ | with_reducible refine r_orV ?_ | with_reducible refine r_notV ?_
  | ((with_reducible refine' r_var ?e ?_); (case e => exact rfl)) | with_reducible refine r_c ?_ | with_reducible refine r_op ?_ | with_reducible refine r_un ?_
  | with_reducible refine r_I0 ?_ | with_reducible refine r_eqI ?_ | with_reducible refine r_neI ?_ | with_reducible refine r_bl ?_ | with_reducible refine r_nil ?_ | with_reducible refine r_cons ?_
  | with_reducible refine r_cb ?_ | with_reducible refine r_call ?_ | with_reducible refine r_tup ?_ | with_reducible refine r_lst ?_ | with_reducible refine r_fld ?_ | with_reducible refine r_bm ?_ | with_reducible refine r_bm0 ?_
  | with_reducible refine r_for ?_ | with_reducible refine r_rng ?_ | with_reducible refine r_rng2 ?_ | with_reducible refine r_lstI ?_ | with_reducible refine r_tupI ?_ | with_reducible refine r_lc ?_
  | with_reducible refine r_augS ?_ | with_reducible refine r_ipI ?_
  | with_reducible refine r_meth ?_ | with_reducible refine r_prop ?_ | with_reducible refine r_make ?_ | with_reducible refine r_din ?_ | with_reducible refine r_dnin ?_ | with_reducible refine r_dput ?_ | with_reducible refine r_dget ?_
  | with_reducible refine r_gN ?_ | with_reducible refine r_tsl ?_ | with_reducible refine r_noP ?_ | with_reducible refine r_part ?_ | with_reducible refine r_pI ?_ | with_reducible refine r_tif ?_ | with_reducible refine r_SL ?_ | with_reducible refine r_gC ?_ | with_reducible refine r_U ?_ | with_reducible refine r_sfld ?_ | with_reducible refine r_dnew ?_ | with_reducible refine r_keys ?_
  | with_reducible refine r_mkE ?_ | with_reducible refine iteT ?_ | with_reducible refine iteF ?_
  | with_reducible refine r_int ?_ | with_reducible refine r_min2 ?_ | with_reducible refine r_isN ?_ | with_reducible refine r_notN ?_)
/-- as far as it goes by itself -/
local macro_rules | `(tactic| walk_at "go") => `(tactic| ((repeat walk_at "step"); (try dsimp only)))

abbrev kvOf (gone : List Nat) (ks : Nat → Addr) : List (Key × V) := gone.map fun (j : Nat) => ((Sum.inl (j : Int) : Key), V.ref (ks j))
theorem val_in {ks : Nat → Addr} {i : Nat} : ∀ {gone : List Nat}, i ∈ gone → valV (kvOf gone ks) (Sum.inl (i : Int)) = some (.ref (ks i))
  | [], h => by cases h
  | j :: g, h => by
    unfold valV kvOf
    rw [List.map_cons, List.find?_cons]
    by_cases e : j = i
    · subst e
      simp
    · have : decide ((Sum.inl (j : Int) : Key) = Sum.inl (i : Int)) = false := decide_eq_false fun z => e (by have := Sum.inl.inj z; omega)
      dsimp only
      rw [this]
      rcases List.mem_cons.mp h with h | h
      · exact absurd h.symm e
      · exact val_in h
theorem val_out {ks : Nat → Addr} {i : Nat} : ∀ {gone : List Nat}, i ∉ gone → valV (kvOf gone ks) (Sum.inl (i : Int)) = none
  | [], _ => rfl
  | j :: g, h => by
    unfold valV kvOf
    rw [List.map_cons, List.find?_cons]
    have e : j ≠ i := fun z => h (z ▸ List.mem_cons_self ..)
    have : decide ((Sum.inl (j : Int) : Key) = Sum.inl (i : Int)) = false := decide_eq_false fun z => e (by have := Sum.inl.inj z; omega)
    dsimp only
    rw [this]
    exact val_out fun z => h (List.mem_cons_of_mem _ z)
def DictAt (H : Hp) (d : Addr) (g : List Nat) (f : Nat → List Nat) : Prop := ∃ ls : Nat → Addr, H d = some (.dK (kvOf g ls)) ∧ ∀ j ∈ g, H (ls j) = some (.tup (nV (f j)))
theorem dict_put {H : Hp} {d : Addr} {g : List Nat} {f : Nat → List Nat} {ls : Nat → Addr} {i : Nat} {t : Addr} (h1 : H d = some (.dK (kvOf g ls))) (h2 : ∀ j ∈ g, H (ls j) = some (.tup (nV (f j)))) (hi : i ∉ g) (ht : H t = some (.tup (nV (f i)))) :
    DictAt (upd H d (.dK (kvOf g ls ++ [(Sum.inl (i : Int), V.ref t)]))) d (g ++ [i]) f := by
  have ne : ∀ {b xs}, H b = some (.tup xs) → b ≠ d := fun {b xs} z => ne_of z h1 (by intro y; cases y)
  refine ⟨fun j => if j = i then t else ls j, ?_, fun j hj => ?_⟩
  · show _ = some (HO.dK (List.map _ (g ++ [i])))
    rw [upd_same, List.map_append]
    congr 3
    · refine List.map_congr_left fun j hj => ?_
      have h : j ≠ i := fun z => hi (z ▸ hj)
      show _ = ((Sum.inl (j : Int) : Key), V.ref (if j = i then t else ls j))
      rw [if_neg h]
    · show _ = [((Sum.inl (i : Int) : Key), V.ref (if i = i then t else ls i))]
      rw [if_pos rfl]
  · show upd H d _ (if j = i then t else ls j) = _
    by_cases h : j = i
    · subst h
      rw [if_pos rfl, upd_ne (ne ht)]
      exact ht
    · rw [if_neg h]
      have hj : j ∈ g := by
        rcases List.mem_append.mp hj with hj | hj
        · exact hj
        · exact absurd (List.mem_singleton.mp hj) h
      rw [upd_ne (ne (h2 j hj))]
      exact h2 j hj
def RunAt (H : Hp) (t : Addr) (ws : List Nat) (ls : List (Nat × List Nat)) : Prop := ∃ tw tl ys, H t = some (.tup [.ref tw, .ref tl]) ∧ H tw = some (.tup (nV ws)) ∧ H tl = some (.tup ys) ∧ PairsAt H ys ls
abbrev kvT (g : List Nat) : List (Key × V) := g.map fun (j : Nat) => ((Sum.inl (j : Int) : Key), V.bl true)
theorem kvT_val (c : Nat) : ∀ g : List Nat, (valV (kvT g) (Sum.inl (c : Int))).isSome = decide (c ∈ g)
  | [] => by simp [valV]
  | d :: g => by
    have ih := kvT_val c g
    unfold valV kvT at ih ⊢
    rw [List.map_cons, List.find?_cons]
    by_cases e : d = c
    · subst e
      simp
    · have h1 : decide ((Sum.inl (d : Int) : Key) = Sum.inl (c : Int)) = false := decide_eq_false fun z => e (by have := Sum.inl.inj z; omega)
      dsimp only
      rw [h1]
      have h2 : decide (c ∈ d :: g) = decide (c ∈ g) := decide_eq_decide.mpr ⟨fun z => (List.mem_cons.mp z).resolve_left (Ne.symm e), fun z => List.mem_cons_of_mem _ z⟩
      rw [h2]
      exact ih
theorem kvT_snoc (g : List Nat) (c : Nat) : kvT (g ++ [c]) = kvT g ++ [((Sum.inl (c : Int) : Key), V.bl true)] := by
  unfold kvT
  rw [List.map_append]
  rfl
theorem take_flat {α : Type} (bs : List (List α)) (i : Nat) : ((bs.take i).flatten).Sublist bs.flatten := by
  have e : bs.flatten = (bs.take i).flatten ++ (bs.drop i).flatten := by rw [← List.flatten_append, List.take_append_drop]
  rw [e]
  exact List.sublist_append_left _ _
def runD (ws : List Nat) (ls : List (Nat × List Nat)) : PyData := .tuple [namesD ws, .tuple (ls.map pairD)]
theorem okd_run (ws : List Nat) (ls : List (Nat × List Nat)) : Okd 4 (runD ws ls) := okd_tup fun d hd => by
  rcases List.mem_cons.mp hd with rfl | hd
  · exact (okd_names ws).up (by decide)
  rcases List.mem_cons.mp hd with rfl | hd
  · refine okd_tup (k := 2) fun e he => ?_
    obtain ⟨il, _, rfl⟩ := List.mem_map.mp he
    refine okd_tup (k := 1) fun z hz => ?_
    rcases List.mem_cons.mp hz with rfl | hz
    · exact (okd_int _).up (by decide)
    rcases List.mem_cons.mp hz with rfl | hz
    · exact okd_names _
    cases hz
  cases hd
theorem dp_run {K : PySem.W.Frag} {H : Hp} {t : Addr} {ws : List Nat} {ls : List (Nat × List Nat)} (h : RunAt H t ws ls) : Dp K H (.ref t) (runD ws ls) := by
  obtain ⟨tw, tl, ys, h1, h2, h3, hl, hp⟩ := h
  refine .tup (SqT.of h1) (.cons (dp_tupN (SqT.of h2)) (.cons (.tup (SqT.of h3) (dpAll_of pairD hl fun i y il e1 e2 => ?_)) .nil))
  obtain ⟨p, r, rfl, a1, a2⟩ := hp i y il e1 e2
  exact .tup (SqT.of a1) (.cons (.int _) (.cons (dp_tupN (SqT.of a2)) .nil))
theorem RunAt.keep {H H' : Hp} {t : Addr} {ws : List Nat} {ls : List (Nat × List Nat)} (h : RunAt H t ws ls) (s : Same H H') : RunAt H' t ws ls := by
  obtain ⟨tw, tl, ys, h1, h2, h3, hl, hp⟩ := h
  exact ⟨tw, tl, ys, s _ _ h1, s _ _ h2, s _ _ h3, hl, fun i y il e1 e2 => (hp i y il e1 e2).keep s⟩
end K9
namespace K9
open PySem L2 Er K7M
/-- one step of a plain reading -/
local macro_rules | `(tactic| walk_at "step") => `(tactic| first
  | with_reducible refine r_seq ?_ | with_reducible refine r_nx ?_ | with_reducible refine r_asgN ?_ | with_reducible refine r_asgS ?_ | with_reducible refine r_asgT ?_ | with_reducible refine r_ifS ?_
  | with_reducible refine r_ret ?_ | with_reducible refine r_retN ?_ | with_reducible refine r_drop ?_ | with_reducible refine r_test ?_ | with_reducible refine r_B ?_ | with_reducible refine r_not ?_
  | with_reducible refine r_and ?_ | with_reducible refine r_or ?_ | with_reducible refine r_andV ?_ | with_reducible refine r_orV ?_ | with_reducible refine r_notV ?_
  | ((with_reducible refine' r_var ?e ?_); (case e => exact rfl)) | with_reducible refine r_c ?_ | with_reducible refine r_op ?_ | with_reducible refine r_un ?_
  | with_reducible refine r_I0 ?_ | with_reducible refine r_eqI ?_ | with_reducible refine r_neI ?_ | with_reducible refine r_bl ?_ | with_reducible refine r_nil ?_ | with_reducible refine r_cons ?_
  | with_reducible refine r_cb ?_ | with_reducible refine r_call ?_ | with_reducible refine r_tup ?_ | with_reducible refine r_lst ?_ | with_reducible refine r_fld ?_ | with_reducible refine r_bm ?_ | with_reducible refine r_bm0 ?_
  | with_reducible refine r_for ?_ | with_reducible refine r_rng ?_ | with_reducible refine r_rng2 ?_ | with_reducible refine r_lstI ?_ | with_reducible refine r_tupI ?_ | with_reducible refine r_lc ?_
  | with_reducible refine r_augS ?_ | with_reducible refine r_ipI ?_
  | with_reducible refine r_meth ?_ | with_reducible refine r_prop ?_ | with_reducible refine r_make ?_ | with_reducible refine r_din ?_ | with_reducible refine r_dnin ?_ | with_reducible refine r_dput ?_ | with_reducible refine r_dget ?_
  | with_reducible refine r_gN ?_ | with_reducible refine r_tsl ?_ | with_reducible refine r_noP ?_ | with_reducible refine r_part ?_ | with_reducible refine r_pI ?_ | with_reducible refine r_tif ?_ | with_reducible refine r_SL ?_ | with_reducible refine r_gC ?_ | with_reducible refine r_U ?_ | with_reducible refine r_sfld ?_ | with_reducible refine r_dnew ?_ | with_reducible refine r_keys ?_
  | with_reducible refine r_mkE ?_ | with_reducible refine iteT ?_ | with_reducible refine iteF ?_
  | with_reducible refine r_int ?_ | with_reducible refine r_min2 ?_ | with_reducible refine r_isN ?_ | with_reducible refine r_notN ?_)
/-- as far as it goes by itself -/
local macro_rules | `(tactic| walk_at "go") => `(tactic| ((repeat walk_at "step"); (try dsimp only)))

/-- who wrote, who looked, what they saw -/
structure LR where
  wr : List Nat
  g : List Nat
  f : Nat → List Nat
def lrS (n : Nat) (p : LR) (c : Nat) : LR := if c ∈ p.wr then (if c ∈ p.g then p else ⟨p.wr, p.g ++ [c], fun j => if j = c then inOrder n p.wr else p.f j⟩) else ⟨p.wr ++ [c], p.g, p.f⟩
def lr (n : Nat) (ks : List Nat) : LR := ks.foldl (lrS n) ⟨[], [], fun _ => []⟩
def lrLooks (n : Nat) (R : LR) : List (Nat × List Nat) := (inOrder n R.g).map fun c => (c, R.f c)
structure LrOk (n : Nat) (p : LR) : Prop where
  nw : p.wr.Nodup
  ng : p.g.Nodup
  sub : ∀ c ∈ p.g, c ∈ p.wr
  lt : ∀ c ∈ p.wr, c < n
theorem lrS_ok {n c : Nat} {p : LR} (h : LrOk n p) (hc : c < n) : LrOk n (lrS n p c) := by
  unfold lrS
  by_cases h1 : c ∈ p.wr
  · rw [if_pos h1]
    by_cases h2 : c ∈ p.g
    · rw [if_pos h2]; exact h
    · rw [if_neg h2]
      refine ⟨h.nw, ?_, fun d hd => ?_, h.lt⟩
      · refine List.nodup_append.mpr ⟨h.ng, by simp, fun a ha b hb e => ?_⟩
        rw [List.mem_singleton.mp hb] at e
        exact h2 (e ▸ ha)
      · rcases List.mem_append.mp hd with hd | hd
        · exact h.sub d hd
        · rw [List.mem_singleton.mp hd]; exact h1
  · rw [if_neg h1]
    refine ⟨?_, h.ng, fun d hd => List.mem_append_left _ (h.sub d hd), fun d hd => ?_⟩
    · refine List.nodup_append.mpr ⟨h.nw, by simp, fun a ha b hb e => ?_⟩
      rw [List.mem_singleton.mp hb] at e
      exact h1 (e ▸ ha)
    · rcases List.mem_append.mp hd with hd | hd
      · exact h.lt d hd
      · rw [List.mem_singleton.mp hd]; exact hc
theorem lr_foldok {n : Nat} : ∀ (ks : List Nat) (p : LR), (∀ c ∈ ks, c < n) → LrOk n p → LrOk n (ks.foldl (lrS n) p)
  | [], _, _, h => h
  | c :: ks, p, hk, h => lr_foldok ks _ (fun d hd => hk d (List.mem_cons_of_mem _ hd)) (lrS_ok h (hk c (List.mem_cons_self ..)))
theorem lr_ok {n : Nat} {ks : List Nat} (h : ∀ c ∈ ks, c < n) : LrOk n (lr n ks) := lr_foldok ks _ h ⟨List.nodup_nil, List.nodup_nil, fun c hc => (by cases hc), fun c hc => by cases hc⟩
theorem lr_take {n : Nat} {ks : List Nat} {i c : Nat} (h : ks[i]? = some c) : lr n (ks.take (i + 1)) = lrS n (lr n (ks.take i)) c := by
  have : ks.take (i + 1) = ks.take i ++ [c] := by rw [List.take_add_one, h]; rfl
  unfold lr
  rw [this, List.foldl_append]
  rfl
def LRunBad (K : PySem.W.Frag) (H : Hp) (x : V) (v : V) : Prop := (∃ tn, Sm K H x tn ∧ (tn == "list" || tn == "tuple") = false ∧ v = .int (-1)) ∨ ∃ (a : Addr) (ks : List Nat) (tn : String) (rest : List V), x = .ref a ∧ SqX K H a (nV ks ++ v :: rest) ∧ Sm K H v tn ∧ isN v = false
theorem LRunBad.keep {K : PySem.W.Frag} {H H' : Hp} {x v : V} (h : LRunBad K H x v) (s : Same H H') : LRunBad K H' x v := by
  rcases h with ⟨tn, h1, h2⟩ | ⟨a, ks, tn, rest, e, h1, h2, h3⟩
  · exact .inl ⟨tn, sm_ext s h1, h2⟩
  · exact .inr ⟨a, ks, tn, rest, e, h1.keep s, sm_ext s h2, h3⟩
def spLRun (K : PySem.W.Frag) (CN : Addr) : Sp := fun vs H Q E => ∃ x, vs = [x] ∧ ((∃ v, LRunBad K H x v ∧ rsd CN "name" v H E) ∨
  ∃ (a : Addr) (n : Nat) (ks : List Nat), x = .ref a ∧ SqX K H a (nV ks) ∧ (∀ c ∈ ks, c < n) ∧ n ≤ 60 ∧ ∀ t H', Same H H' → RunAt H' t (inOrder n (lr n ks).wr) (lrLooks n (lr n ks)) → Q (.ref t) H')
def spOwn (K : PySem.W.Frag) : Sp := fun vs H Q _ => ∃ (a : Addr) (n : Nat) (ks : List Nat), vs = [.ref a] ∧ SqX K H a (nV ks) ∧ (∀ c ∈ ks, c < n) ∧ n ≤ 60 ∧ ∀ t H', Same H H' → RunAt H' t (inOrder n (lr n ks).wr) (lrLooks n (lr n ks)) → Q (.ref t) H'
theorem isN_nat (c : Nat) : isN (.int (c : Int)) = true := by
  show decide ((0 : Int) ≤ (c : Int)) = true
  exact decide_eq_true (by omega)
section
variable {P : Program} {w : World} {K : PySem.W.Frag} {mg : Str → Option Value} {base : Heap} {CN CR CM : Addr}
theorem scLRun : FnScope ["schedule", "entry", "wrote", "looks", "name"] ["schedule"] (defScope sLookRun) := ⟨rfl, rfl, rfl, by decide +kernel, rfl, by decide +kernel, by decide +kernel⟩
theorem ok_lookrun {f : Addr} {fd : FuncData} (F : Fun K "look_run" "look_run" sLookRun f fd) (T : Errs P w K mg CN CR CM) (m_tuple : mg "tuple" = none) (m_sorted : mg "sorted" = none) (D_isrow : Fok P w K mg base 1 "is_row" ["thing"] (spThing K fun _ n => n == "list" || n == "tuple")) (D_isnat : Fok P w K mg base 2 "is_natural" ["thing"] (spThing K fun v _ => isN v)) :
    FnOk P w K mg base (L2.CX P w) 3 f fd ["schedule"] (spLRun K CN) := by
  refine F.okX scLRun (fun vs H Q E h => ?_) (fun cdv A outer s H vs Q E hr h => ?_)
  · obtain ⟨x, rfl, _⟩ := h
    rfl
  obtain ⟨x, rfl, h⟩ := h
  obtain ⟨fI, TN, RN⟩ := T.nm
  have sc := scLRun
  have hu := hu_of hr
  refine ⟨_, (pss_cons (ps_if (pt_not (pt_val (pe_f D_isrow (hr.mono (by decide)) (pa_cons (pv 0) pa_nil)))) (pss_one (ps_raise rfl (takes_of rfl rfl rfl rfl) (pmk_er (k := 0) (okV := fun _ => True) TN RN (fun _ _ _ _ => trivial) (hr.mono (by decide)) (by rfl) T.gN (pa_cons (pe_un un_neg pe_int) pa_nil)))) pss_nil)
      (pss_cons (ps_for (passes_of rfl) rfl (pi_seq (pv 0)) (pg_name (i := 1) sc.nd rfl (Or.inl rfl)) (pss_one (ps_if (pt_not (pt_val (pe_f D_isnat (hr.mono (by decide)) (pa_cons (pv 1) pa_nil)))) (pss_one (ps_raise rfl (takes_of rfl rfl rfl rfl) (pmk_er (k := 0) (okV := fun _ => True) TN RN (fun _ _ _ _ => trivial) (hr.mono (by decide)) (by rfl) T.gN (pa_cons (pv 1) pa_nil)))) pss_nil)))
      (pss_cons (ps_set (i := 2) sc.nd rfl (Or.inl rfl) pe_dnewK)
      (pss_cons (ps_set (i := 3) sc.nd rfl (Or.inr rfl) pe_dnewK)
      (pss_cons (ps_for (passes_of rfl) rfl (pi_seq (pv 0)) (pg_name (i := 4) sc.nd rfl (Or.inl rfl)) (pss_one (ps_if (pt_cmp (pc_dnotin hu (pv 4) (pv 2))) (pss_one (ps_dput hu (pv 2) (pv 4) pe_bl rfl)) (pss_one (ps_if (pt_cmp (pc_dnotin hu (pv 4) (pv 3))) (pss_one (ps_dput hu (pv 3) (pv 4) (pe_callTy (tupOK K) (by rfl) m_tuple (by decide +kernel) (pa_cons (pe_callB (c_sortDI rfl) (by rfl) m_sorted (by decide +kernel) (pa_cons (pv 2) pa_nil)) pa_nil)) rfl)) pss_nil)))))
      (pss_one (ps_ret (pe_tup (pa_cons (pe_callTy (tupOK K) (by rfl) m_tuple (by decide +kernel) (pa_cons (pe_callB (c_sortDI rfl) (by rfl) m_sorted (by decide +kernel) (pa_cons (pv 2) pa_nil)) pa_nil)) (pa_cons (pe_callTy (tupOK K) (by rfl) m_tuple (by decide +kernel) (pa_cons (pe_lc (own := [("name", 4)]) (g := gName 4) (tt := tYes) rfl sc.nd (pi_list (pe_callB (c_sortDI rfl) (by rfl) m_sorted (by decide +kernel) (pa_cons (pv 3) pa_nil))) (blkOk_by (own := [("name", 4)]) (N := ["schedule", "entry", "wrote", "looks", "name"]) (sc := defScope sLookRun) (by decide +kernel)) (fun _ _ _ _ _ => pg_name (i := 4) sc.nd rfl (Or.inl rfl)) (fun _ _ _ _ _ => pts_nil) (fun _ _ _ _ _ => (pe_tup (pa_cons (pv 4) (pa_cons (pe_dget hu (pv 3) (pv 4) (fun _ _ => rfl)) pa_nil))))) pa_nil)) pa_nil)))))))))), ?_⟩
  walk_at "go"
  rcases h with ⟨v, ⟨tn, hS, hno, rfl⟩ | ⟨a, ks, tn, rest, rfl, ha, hv, hvb⟩, hr9⟩ | ⟨a, n, ks, rfl, ha, hks, n60, k⟩
  · refine ⟨x, tn, rfl, hS, fun H1 s1 => ?_⟩
    walk_at "go"
    rw [hno]
    refine iteT ?_
    walk_at "go"
    exact r_mkK (okV := fun _ => True) trivial fun d hd => rsd_new hr9 s1 hd
  · obtain ⟨tn2, hS, hy⟩ := ha.sm
    refine ⟨.ref a, tn2, rfl, hS, fun H1 s1 => ?_⟩
    walk_at "go"
    rw [hy]
    refine iteF ?_
    walk_at "go"
    refine r_seqI ?_
    walk_at "go"
    refine r_forX ha s1 (fun i σ H' => ∃ v1, σ = [some (.ref a), v1, none, none, none] ∧ Same H H' ∧ i ≤ ks.length) ⟨none, rfl, s1, Nat.zero_le _⟩ (fun i σ H' hi p => p.choose_spec.2.1) ?_ ?_
    · rintro i y σ H2 hy2 ⟨v1, rfl, s2, hi⟩
      walk_at "go"
      rcases Nat.lt_or_ge i ks.length with hlt | hge
      · rw [List.getElem?_append_left (by rw [nV_len]; exact hlt)] at hy2
        obtain ⟨c, hc, rfl⟩ := nV_at hy2
        refine ⟨.int (c : Int), "int", rfl, .int _, fun H3 s3 => ?_⟩
        walk_at "go"
        rw [isN_nat]
        refine iteF ?_
        walk_at "go"
        exact ⟨_, rfl, s2.trans s3, hlt⟩
      · have ei : i = ks.length := by omega
        subst ei
        rw [List.getElem?_append_right (by rw [nV_len]; exact Nat.le_refl _), nV_len, Nat.sub_self] at hy2
        have hy2 : v = y := Option.some.inj hy2
        subst hy2
        refine ⟨v, tn, rfl, sm_ext s2 hv, fun H3 s3 => ?_⟩
        walk_at "go"
        rw [hvb]
        refine iteT ?_
        walk_at "go"
        exact r_mkK (okV := fun _ => True) trivial fun d hd => rsd_new hr9 (s2.trans s3) hd
    · rintro σ H2 ⟨v1, rfl, s2, hi⟩
      exfalso
      rw [List.length_append, nV_len, List.length_cons] at hi
      omega
  · obtain ⟨tn2, hS, hy⟩ := ha.sm
    refine ⟨.ref a, tn2, rfl, hS, fun H1 s1 => ?_⟩
    walk_at "go"
    rw [hy]
    refine iteF ?_
    walk_at "go"
    refine r_seqI ?_
    walk_at "go"
    refine r_forX ha s1 (fun i σ H' => ∃ v1, σ = [some (.ref a), v1, none, none, none] ∧ Same H H') ⟨none, rfl, s1⟩ (fun i σ H' hi p => p.choose_spec.2) ?_ ?_
    · rintro i y σ H2 hy2 ⟨v1, rfl, s2⟩
      obtain ⟨c, hc, rfl⟩ := nV_at hy2
      walk_at "go"
      refine ⟨.int (c : Int), "int", rfl, .int _, fun H3 s3 => ?_⟩
      walk_at "go"
      rw [isN_nat]
      refine iteF ?_
      walk_at "go"
      exact ⟨_, rfl, s2.trans s3⟩
    · rintro σ H2 ⟨v1, rfl, s2⟩
      walk_at "go"
      intro D hD
      have sD := same_new (o := .dK []) hD
      walk_at "go"
      intro d hd
      have hD0 : H D = none := none_of_same s2 hD
      have hd0 : H d = none := none_of_same (s2.trans sD) hd
      have s3 := (s2.trans sD).trans (same_new (o := .dK []) hd)
      have dD : d ≠ D := fun z => by rw [z, upd_same] at hd; cases hd
      have h3D : (upd (upd H2 D (.dK [])) d (.dK [])) D = some (.dK (kvT [])) := (same_new hd) _ _ upd_same
      have h3d : DictAt (upd (upd H2 D (.dK [])) d (.dK [])) d [] (fun _ => []) := ⟨fun _ => 0, upd_same, fun j hj => by cases hj⟩
      generalize upd (upd H2 D (.dK [])) d (.dK []) = H3 at s3 h3D h3d ⊢
      clear sD hD hd
      walk_at "go"
      refine r_seqI ?_
      walk_at "go"
      refine r_forX ha s3 (fun i σ H' => ∃ v4, σ = [some (.ref a), v1, some (.ref D), some (.ref d), v4] ∧ Same H H' ∧ H' D = some (.dK (kvT (lr n (ks.take i)).wr)) ∧ DictAt H' d (lr n (ks.take i)).g (lr n (ks.take i)).f) ⟨none, rfl, s3, h3D, h3d⟩ (fun i σ H' hi p => p.choose_spec.2.1) ?_ ?_
      · rintro i y σ H4 hy4 ⟨v4, rfl, s4, h4D, ls, hd1, hd2⟩
        obtain ⟨c, hc, rfl⟩ := nV_at hy4
        have hcn := hks c (List.mem_of_getElem? hc)
        rw [lr_take hc]
        have G := lr_ok (n := n) (ks := ks.take i) fun c hc => hks c (List.mem_of_mem_take hc)
        generalize lr n (ks.take i) = R at h4D hd1 hd2 G ⊢
        have hlen : R.wr.length ≤ n := by
          have := (perm_inOrder G.nw G.lt).length_eq
          have := len_inOrder n R.wr
          omega
        have hleng : R.g.length ≤ n := by
          have := (perm_inOrder G.ng fun c hc => G.lt c (G.sub c hc)).length_eq
          have := len_inOrder n R.g
          omega
        walk_at "go"
        refine r_dninK (.inl h4D) ?_
        walk_at "go"
        rw [kvT_val]
        by_cases hw : c ∈ R.wr
        · refine ite_no (by rw [decide_eq_true hw]; rfl) ?_
          walk_at "go"
          refine r_dninK (.inl hd1) ?_
          walk_at "go"
          by_cases hg : c ∈ R.g
          · refine ite_no (by rw [val_in hg]; rfl) ?_
            walk_at "go"
            have e : lrS n R c = R := by unfold lrS; rw [if_pos hw, if_pos hg]
            rw [e]
            exact ⟨_, rfl, s4, h4D, ls, hd1, hd2⟩
          · refine ite_yes (by rw [val_out hg]; rfl) ?_
            walk_at "go"
            have pm := perm_inOrder G.nw G.lt
            refine r_sortDI (ks := R.wr.map fun (i : Nat) => (i : Int)) (ss := (inOrder n R.wr).map fun (i : Nat) => (i : Int)) (.inl h4D) ?_ ?_ (pm.map _) (range_up _ _) fun p5 hp5 => ?_
            · rw [List.map_map, List.map_map]
              rfl
            · rw [List.length_map]
              omega
            rw [← ints_nV]
            walk_at "go"
            refine r_tupL (SqL.of upd_same) fun t ht => ?_
            have s5 := (same_new (o := .lst (nV (inOrder n R.wr))) hp5).trans (same_new (o := .tup (nV (inOrder n R.wr))) ht)
            have h5t : (upd (upd H4 p5 (.lst (nV (inOrder n R.wr)))) t (.tup (nV (inOrder n R.wr)))) t = some (.tup (nV (inOrder n R.wr))) := upd_same
            generalize upd (upd H4 p5 _) t _ = H5 at s5 h5t ⊢
            have s45 := s4.trans s5
            walk_at "go"
            refine r_dputK (s5 _ _ hd1) (Nat.lt_of_le_of_lt (m := 60) (by rw [List.length_map]; omega) (by decide)) ?_
            rw [putK_new _ (val_out hg)]
            have e : lrS n R c = ⟨R.wr, R.g ++ [c], fun j => if j = c then inOrder n R.wr else R.f j⟩ := by unfold lrS; rw [if_pos hw, if_neg hg]
            rw [e]
            refine ⟨_, rfl, Same.upd2 s45 hd0, by rw [upd_ne (Ne.symm dD)]; exact s5 _ _ h4D, ?_⟩
            refine dict_put (f := fun j => if j = c then inOrder n R.wr else R.f j) (s5 _ _ hd1) (fun j hj => ?_) hg ?_
            · have hjc : j ≠ c := fun z => hg (z ▸ hj)
              try dsimp only
              rw [if_neg hjc]
              exact s5 _ _ (hd2 j hj)
            · try dsimp only
              rw [if_pos rfl]
              exact h5t
        · refine ite_yes (by rw [decide_eq_false hw]; rfl) ?_
          walk_at "go"
          have hval : valV (kvT R.wr) (Sum.inl (c : Int)) = none := by
            have := kvT_val c R.wr
            rw [decide_eq_false hw] at this
            cases e2 : valV (kvT R.wr) (Sum.inl (c : Int)) with
            | none => rfl
            | some v => rw [e2] at this; cases this
          refine r_dputK h4D (Nat.lt_of_le_of_lt (m := 60) (by rw [List.length_map]; omega) (by decide)) ?_
          rw [putK_new _ hval, ← kvT_snoc]
          have e : lrS n R c = ⟨R.wr ++ [c], R.g, R.f⟩ := by unfold lrS; rw [if_neg hw]
          rw [e]
          refine ⟨_, rfl, Same.upd2 s4 hD0, upd_same, ls, by rw [upd_ne dD]; exact hd1, fun j hj => ?_⟩
          rw [upd_ne (ne_of (hd2 j hj) h4D (by intro z; cases z))]
          exact hd2 j hj
      · rintro σ H4 ⟨v4, rfl, s4, h4D, ls, hd1, hd2⟩
        rw [nV_len, List.take_length] at h4D hd1 hd2
        have G := lr_ok (n := n) (ks := ks) hks
        generalize lr n ks = R at h4D hd1 hd2 G k ⊢
        have pmw := perm_inOrder G.nw G.lt
        have pm := perm_inOrder G.ng fun c hc => G.lt c (G.sub c hc)
        have lw := len_inOrder n R.wr
        have lg := len_inOrder n R.g
        walk_at "go"
        refine r_sortDI (ks := R.wr.map fun (i : Nat) => (i : Int)) (ss := (inOrder n R.wr).map fun (i : Nat) => (i : Int)) (.inl h4D) ?_ ?_ (pmw.map _) (range_up _ _) fun p5 hp5 => ?_
        · rw [List.map_map, List.map_map]
          rfl
        · rw [List.length_map]
          have := pmw.length_eq
          omega
        rw [← ints_nV]
        walk_at "go"
        refine r_tupL (SqL.of upd_same) fun tw htw => ?_
        have s5 := (same_new (o := .lst (nV (inOrder n R.wr))) hp5).trans (same_new (o := .tup (nV (inOrder n R.wr))) htw)
        have hw : (upd (upd H4 p5 (.lst (nV (inOrder n R.wr)))) tw (.tup (nV (inOrder n R.wr)))) tw = some (.tup (nV (inOrder n R.wr))) := upd_same
        generalize upd (upd H4 p5 _) tw _ = H5 at s5 hw ⊢
        walk_at "go"
        refine r_sortDI (ks := R.g.map fun (i : Nat) => (i : Int)) (ss := (inOrder n R.g).map fun (i : Nat) => (i : Int)) (.inl (s5 _ _ hd1)) ?_ ?_ (pm.map _) (range_up _ _) fun p6 hp6 => ?_
        · rw [List.map_map, List.map_map]
          rfl
        · rw [List.length_map]
          have := pm.length_eq
          omega
        rw [← ints_nV]
        have s6 := same_new (o := .lst (nV (inOrder n R.g))) hp6
        have h6 : upd H5 p6 (.lst (nV (inOrder n R.g))) p6 = some (.lst (nV (inOrder n R.g))) := upd_same
        generalize upd H5 p6 (.lst (nV (inOrder n R.g))) = H6 at s6 h6 ⊢
        have s46 := s5.trans s6
        walk_at "go"
        refine r_lstK (SqL.of h6) ?_
        refine r_lcLm (fun i y H => ∃ c, (inOrder n R.g)[i]? = some c ∧ PairAt H y (c, R.f c)) (fun i v Dl zs H H' hD p s => ?_) (fun i v H H' s p => ?_) (by rw [nV_len]; have := len_inOrder n R.g; omega) (SqL.of h6) (fun _ => rfl) (fun i x H7 hx s7 Q q => ?_) fun pl ys H7 hpl s7 hys hlen hpairs => ?_
        · obtain ⟨c, hc, hpr⟩ := p
          exact ⟨c, hc, hpr.but hD s⟩
        · obtain ⟨c, hc, hpr⟩ := p
          exact ⟨c, hc, hpr.keep s⟩
        · obtain ⟨c, hc, rfl⟩ := nV_at hx
          have hcg : c ∈ R.g := pm.mem_iff.mp (List.mem_of_getElem? hc)
          walk_at "go"
          refine r_dgetK (.inl (s7 _ _ (s46 _ _ hd1))) (val_in hcg) ?_
          walk_at "go"
          refine ⟨by show 2 ≤ sizeLine; decide, fun q9 hq9 => ?_⟩
          exact q _ _ (same_new hq9) ⟨c, hc, q9, ls c, rfl, upd_same, (same_new hq9) _ _ (s7 _ _ (s46 _ _ (hd2 c hcg)))⟩
        · walk_at "go"
          refine r_tupL (SqL.of hys) fun tl htl => ?_
          walk_at "go"
          refine ⟨by show 2 ≤ sizeLine; decide, fun t ht => ?_⟩
          have s89 := same_new (o := .tup [.ref tw, .ref tl]) ht
          have s79 := (same_new (o := .tup ys) htl).trans s89
          have s69 := s7.trans s79
          refine k t _ (s4.trans (s46.trans s69)) ⟨tw, tl, ys, upd_same, s69 _ _ (s6 _ _ hw), s89 _ _ upd_same, ?_⟩
          refine ⟨by rw [hlen, nV_len]; unfold lrLooks; rw [List.length_map], fun i y il hy hil => ?_⟩
          obtain ⟨c, hc, hpr⟩ := hpairs i y hy
          unfold lrLooks at hil
          rw [List.getElem?_map, hc] at hil
          cases hil
          exact hpr.keep s79
theorem scOwn : FnScope ["_law_schedule", "_law_wrote", "_law_looks_here", "_law_name"] ["_law_schedule"] (defScope sOwn) := ⟨rfl, rfl, rfl, by decide +kernel, rfl, by decide +kernel, by decide +kernel⟩
theorem ok_own {f : Addr} {fd : FuncData} (F : Fun K "_law_own_run" "_law_own_run" sOwn f fd) (m_tuple : mg "tuple" = none) (m_sorted : mg "sorted" = none) (m_list : mg "list" = none) : FnOk P w K mg base (L2.CX P w) 1 f fd ["_law_schedule"] (spOwn K) := by
  refine F.okX scOwn (fun vs H Q E h => ?_) (fun cdv A outer s H vs Q E hr h => ?_)
  · obtain ⟨a, n, ks, rfl, _⟩ := h
    rfl
  obtain ⟨a, n, ks, rfl, ha, hks, n60, k⟩ := h
  have sc := scOwn
  have hu := hu_of hr
  refine ⟨_, (pss_cons (ps_set (i := 1) sc.nd rfl (Or.inl rfl) (pe_lst pa_nil))
      (pss_cons (ps_set (i := 2) sc.nd rfl (Or.inr rfl) pe_dnewK)
      (pss_cons (ps_for (passes_of rfl) rfl (pi_seq (pv 0)) (pg_name (i := 3) sc.nd rfl (Or.inl rfl)) (pss_one (ps_if (pt_cmpR (ninK K) (pv 3) (pv 1) (by with_unfolding_all rfl)) (pss_one (ps_expr (pe_bm PySem.F.plainAttrs_list PySem.F.slot_list_append PySem.F.type_list_append mt_append (pv 1) (pa_cons (pv 3) pa_nil)))) (pss_one (ps_if (pt_cmp (pc_dnotin hu (pv 3) (pv 2))) (pss_one (ps_dput hu (pv 2) (pv 3) (pe_callTy (tupOK K) (by rfl) m_tuple (by decide +kernel) (pa_cons (pe_callB cr_sorted (by rfl) m_sorted (by decide +kernel) (pa_cons (pv 1) pa_nil)) pa_nil)) rfl)) pss_nil)))))
      (pss_one (ps_ret (pe_tup (pa_cons (pe_callTy (tupOK K) (by rfl) m_tuple (by decide +kernel) (pa_cons (pe_callB cr_sorted (by rfl) m_sorted (by decide +kernel) (pa_cons (pv 1) pa_nil)) pa_nil)) (pa_cons (pe_callTy (tupOK K) (by rfl) m_tuple (by decide +kernel) (pa_cons (pe_lc (own := [("_law_name", 3)]) (g := gName 3) (tt := tYes) rfl sc.nd (pi_list (pe_callB cr_sorted (by rfl) m_sorted (by decide +kernel) (pa_cons (pe_callTy (c_listD rfl) (by rfl) m_list (by decide +kernel) (pa_cons (pv 2) pa_nil)) pa_nil))) (blkOk_by (own := [("_law_name", 3)]) (N := ["_law_schedule", "_law_wrote", "_law_looks_here", "_law_name"]) (sc := defScope sOwn) (by decide +kernel)) (fun _ _ _ _ _ => pg_name (i := 3) sc.nd rfl (Or.inl rfl)) (fun _ _ _ _ _ => pts_nil) (fun _ _ _ _ _ => (pe_tup (pa_cons (pv 3) (pa_cons (pe_dget hu (pv 2) (pv 3) (fun _ _ => rfl)) pa_nil))))) pa_nil)) pa_nil)))))))), ?_⟩
  walk_at "go"
  refine ⟨by show 0 ≤ sizeLine; decide, fun D hD => ?_⟩
  have sD := same_new (o := .lst []) hD
  walk_at "go"
  intro d hd
  have hd0 : H d = none := none_of_same sD hd
  have s3 := sD.trans (same_new (o := .dK []) hd)
  have dD : d ≠ D := fun z => by rw [z, upd_same] at hd; cases hd
  have h3D : (upd (upd H D (.lst [])) d (.dK [])) D = some (.lst (nV [])) := (same_new hd) _ _ upd_same
  have h3d : DictAt (upd (upd H D (.lst [])) d (.dK [])) d [] (fun _ => []) := ⟨fun _ => 0, upd_same, fun j hj => by cases hj⟩
  generalize upd (upd H D (.lst [])) d (.dK []) = H3 at s3 h3D h3d ⊢
  clear sD hd
  walk_at "go"
  refine r_seqI ?_
  walk_at "go"
  refine r_forX ha s3 (fun i σ H' => ∃ v4, σ = [some (.ref a), some (.ref D), some (.ref d), v4] ∧ Same H H' ∧ H' D = some (.lst (nV (lr n (ks.take i)).wr)) ∧ DictAt H' d (lr n (ks.take i)).g (lr n (ks.take i)).f) ⟨none, rfl, s3, h3D, h3d⟩ (fun i σ H' hi p => p.choose_spec.2.1) ?_ ?_
  · rintro i y σ H4 hy4 ⟨v4, rfl, s4, h4D, ls, hd1, hd2⟩
    obtain ⟨c, hc, rfl⟩ := nV_at hy4
    have hcn := hks c (List.mem_of_getElem? hc)
    rw [lr_take hc]
    have G := lr_ok (n := n) (ks := ks.take i) fun c hc => hks c (List.mem_of_mem_take hc)
    generalize lr n (ks.take i) = R at h4D hd1 hd2 G ⊢
    have hlen : R.wr.length ≤ n := by
      have := (perm_inOrder G.nw G.lt).length_eq
      have := len_inOrder n R.wr
      omega
    have hleng : R.g.length ≤ n := by
      have := (perm_inOrder G.ng fun c hc => G.lt c (G.sub c hc)).length_eq
      have := len_inOrder n R.g
      omega
    walk_at "go"
    refine r_ninX (.L h4D) ?_
    walk_at "go"
    by_cases hw : c ∈ R.wr
    · refine ite_no (by rw [decide_eq_true hw]; rfl) ?_
      walk_at "go"
      refine r_dninK (.inl hd1) ?_
      walk_at "go"
      by_cases hg : c ∈ R.g
      · refine ite_no (by rw [val_in hg]; rfl) ?_
        walk_at "go"
        have e : lrS n R c = R := by unfold lrS; rw [if_pos hw, if_pos hg]
        rw [e]
        exact ⟨_, rfl, s4, h4D, ls, hd1, hd2⟩
      · refine ite_yes (by rw [val_out hg]; rfl) ?_
        walk_at "go"
        have pm := perm_inOrder G.nw G.lt
        rw [ints_nV] at h4D
        refine r_sorted (ks := R.wr.map fun (i : Nat) => (i : Int)) (ss := (inOrder n R.wr).map fun (i : Nat) => (i : Int)) (SqL.of h4D) (by rw [List.length_map]; omega) (pm.map _) (range_up _ _) fun p5 hp5 => ?_
        rw [← ints_nV] at h4D ⊢
        walk_at "go"
        refine r_tupL (SqL.of upd_same) fun t ht => ?_
        have s5 := (same_new (o := .lst (nV (inOrder n R.wr))) hp5).trans (same_new (o := .tup (nV (inOrder n R.wr))) ht)
        have h5t : (upd (upd H4 p5 (.lst (nV (inOrder n R.wr)))) t (.tup (nV (inOrder n R.wr)))) t = some (.tup (nV (inOrder n R.wr))) := upd_same
        generalize upd (upd H4 p5 _) t _ = H5 at s5 h5t ⊢
        have s45 := s4.trans s5
        walk_at "go"
        refine r_dputK (s5 _ _ hd1) (Nat.lt_of_le_of_lt (m := 60) (by rw [List.length_map]; omega) (by decide)) ?_
        rw [putK_new _ (val_out hg)]
        have e : lrS n R c = ⟨R.wr, R.g ++ [c], fun j => if j = c then inOrder n R.wr else R.f j⟩ := by unfold lrS; rw [if_pos hw, if_neg hg]
        rw [e]
        refine ⟨_, rfl, Same.upd2 s45 hd0, by rw [upd_ne (Ne.symm dD)]; exact s5 _ _ h4D, ?_⟩
        refine dict_put (f := fun j => if j = c then inOrder n R.wr else R.f j) (s5 _ _ hd1) (fun j hj => ?_) hg ?_
        · have hjc : j ≠ c := fun z => hg (z ▸ hj)
          try dsimp only
          rw [if_neg hjc]
          exact s5 _ _ (hd2 j hj)
        · try dsimp only
          rw [if_pos rfl]
          exact h5t
    · refine ite_yes (by rw [decide_eq_false hw]; rfl) ?_
      walk_at "go"
      refine r_tyL (SqL.of h4D) ?_
      walk_at "go"
      refine r_app h4D (Nat.lt_of_le_of_lt (m := 60) (by rw [nV_len]; omega) (by decide)) ?_
      have e1 : nV R.wr ++ [V.int (c : Int)] = nV (R.wr ++ [c]) := by rw [nV_append]; rfl
      rw [e1]
      have e : lrS n R c = ⟨R.wr ++ [c], R.g, R.f⟩ := by unfold lrS; rw [if_neg hw]
      rw [e]
      refine ⟨_, rfl, Same.upd2 s4 hD, upd_same, ls, by rw [upd_ne dD]; exact hd1, fun j hj => ?_⟩
      rw [upd_ne (ne_of (hd2 j hj) h4D (by intro z; cases z))]
      exact hd2 j hj
  · rintro σ H4 ⟨v4, rfl, s4, h4D, ls, hd1, hd2⟩
    rw [nV_len, List.take_length] at h4D hd1 hd2
    have G := lr_ok (n := n) (ks := ks) hks
    generalize lr n ks = R at h4D hd1 hd2 G k ⊢
    have pmw := perm_inOrder G.nw G.lt
    have pm := perm_inOrder G.ng fun c hc => G.lt c (G.sub c hc)
    have lw := len_inOrder n R.wr
    have lg := len_inOrder n R.g
    walk_at "go"
    rw [ints_nV] at h4D
    refine r_sorted (ks := R.wr.map fun (i : Nat) => (i : Int)) (ss := (inOrder n R.wr).map fun (i : Nat) => (i : Int)) (SqL.of h4D) (by
      rw [List.length_map]
      have := pmw.length_eq
      omega) (pmw.map _) (range_up _ _) fun p5 hp5 => ?_
    rw [← ints_nV] at h4D ⊢
    walk_at "go"
    refine r_tupL (SqL.of upd_same) fun tw htw => ?_
    have s5 := (same_new (o := .lst (nV (inOrder n R.wr))) hp5).trans (same_new (o := .tup (nV (inOrder n R.wr))) htw)
    have hw : (upd (upd H4 p5 (.lst (nV (inOrder n R.wr)))) tw (.tup (nV (inOrder n R.wr)))) tw = some (.tup (nV (inOrder n R.wr))) := upd_same
    generalize upd (upd H4 p5 _) tw _ = H5 at s5 hw ⊢
    walk_at "go"
    refine r_listDK (.inl (s5 _ _ hd1)) fun pl hpl => ?_
    have el : (kvOf R.g ls).map (fun kv => kV kv.1) = (R.g.map fun (i : Nat) => (i : Int)).map V.int := by
      rw [List.map_map, List.map_map]
      rfl
    rw [el]
    walk_at "go"
    refine r_sorted (ks := R.g.map fun (i : Nat) => (i : Int)) (ss := (inOrder n R.g).map fun (i : Nat) => (i : Int)) (SqL.of upd_same) (by
      rw [List.length_map]
      have := pm.length_eq
      omega) (pm.map _) (range_up _ _) fun p6 hp6 => ?_
    have s5 := s5.trans (same_new (o := .lst ((R.g.map fun (i : Nat) => (i : Int)).map V.int)) hpl)
    have hw := (same_new (o := .lst ((R.g.map fun (i : Nat) => (i : Int)).map V.int)) hpl) _ _ hw
    generalize upd H5 pl (.lst ((R.g.map fun (i : Nat) => (i : Int)).map V.int)) = H5b at s5 hw hp6 ⊢
    rw [← ints_nV]
    have s6 := same_new (o := .lst (nV (inOrder n R.g))) hp6
    have h6 : upd H5b p6 (.lst (nV (inOrder n R.g))) p6 = some (.lst (nV (inOrder n R.g))) := upd_same
    generalize upd H5b p6 (.lst (nV (inOrder n R.g))) = H6 at s6 h6 ⊢
    have s46 := s5.trans s6
    walk_at "go"
    refine r_lstK (SqL.of h6) ?_
    refine r_lcLm (fun i y H => ∃ c, (inOrder n R.g)[i]? = some c ∧ PairAt H y (c, R.f c)) (fun i v Dl zs H H' hD p s => ?_) (fun i v H H' s p => ?_) (by rw [nV_len]; have := len_inOrder n R.g; omega) (SqL.of h6) (fun _ => rfl) (fun i x H7 hx s7 Q q => ?_) fun pl ys H7 hpl s7 hys hlen hpairs => ?_
    · obtain ⟨c, hc, hpr⟩ := p
      exact ⟨c, hc, hpr.but hD s⟩
    · obtain ⟨c, hc, hpr⟩ := p
      exact ⟨c, hc, hpr.keep s⟩
    · obtain ⟨c, hc, rfl⟩ := nV_at hx
      have hcg : c ∈ R.g := pm.mem_iff.mp (List.mem_of_getElem? hc)
      walk_at "go"
      refine r_dgetK (.inl (s7 _ _ (s46 _ _ hd1))) (val_in hcg) ?_
      walk_at "go"
      refine ⟨by show 2 ≤ sizeLine; decide, fun q9 hq9 => ?_⟩
      exact q _ _ (same_new hq9) ⟨c, hc, q9, ls c, rfl, upd_same, (same_new hq9) _ _ (s7 _ _ (s46 _ _ (hd2 c hcg)))⟩
    · walk_at "go"
      refine r_tupL (SqL.of hys) fun tl htl => ?_
      walk_at "go"
      refine ⟨by show 2 ≤ sizeLine; decide, fun t ht => ?_⟩
      have s89 := same_new (o := .tup [.ref tw, .ref tl]) ht
      have s79 := (same_new (o := .tup ys) htl).trans s89
      have s69 := s7.trans s79
      refine k t _ (s4.trans (s46.trans s69)) ⟨tw, tl, ys, upd_same, s69 _ _ (s6 _ _ hw), s89 _ _ upd_same, ?_⟩
      refine ⟨by rw [hlen, nV_len]; unfold lrLooks; rw [List.length_map], fun i y il hy hil => ?_⟩
      obtain ⟨c, hc, hpr⟩ := hpairs i y hy
      unfold lrLooks at hil
      rw [List.getElem?_map, hc] at hil
      cases hil
      exact hpr.keep s79
end
end K9
namespace K9
open PySem L2 Er K7M
/-- a round over names below n -/
structure Rnd (n : Nat) (ls : List (Nat × List Nat)) : Prop where
  asc : (ls.map (·.1)).Pairwise (· < ·)
  lt : ∀ il ∈ ls, il.1 < n
  self : ∀ il ∈ ls, il.1 ∈ il.2
  look : ∀ il ∈ ls, inOrder n il.2 = il.2
  sub : ∀ il ∈ ls, ∀ c ∈ il.2, c ∈ ls.map (·.1)
  nest : ∀ a ∈ ls, ∀ b ∈ ls, a.2.length ≤ b.2.length → ∀ c ∈ a.2, c ∈ b.2
theorem order_lt (n : Nat) (l : List Nat) : (inOrder n l).Pairwise (· < ·) := List.pairwise_lt_range.filter _
theorem order_mem {n c : Nat} {l : List Nat} : c ∈ inOrder n l ↔ c < n ∧ c ∈ l := by
  unfold inOrder
  rw [List.mem_filter, List.mem_range, decide_eq_true_iff]
theorem order_congr {n : Nat} {a b : List Nat} (h : ∀ c, c < n → (c ∈ a ↔ c ∈ b)) : inOrder n a = inOrder n b := List.filter_congr fun c hc => decide_eq_decide.mpr (h c (List.mem_range.mp hc))
theorem asc_unique {a b : List Nat} (ha : a.Pairwise (· < ·)) (hb : b.Pairwise (· < ·)) (h : ∀ c, c ∈ a ↔ c ∈ b) : a = b := by
  have na : a.Nodup := ha.imp fun h => Nat.ne_of_lt h
  have nb : b.Nodup := hb.imp fun h => Nat.ne_of_lt h
  exact List.Perm.eq_of_pairwise (fun x y _ _ h1 h2 => Nat.le_antisymm h1 h2) (ha.imp fun h => Nat.le_of_lt h) (hb.imp fun h => Nat.le_of_lt h) ((List.perm_ext_iff_of_nodup na nb).mpr h)
theorem order_self {n : Nat} {l : List Nat} (h : l.Pairwise (· < ·)) (lt : ∀ c ∈ l, c < n) : inOrder n l = l := asc_unique (order_lt n l) h fun c => by
  rw [order_mem]
  exact ⟨fun z => z.2, fun z => ⟨lt c z, z⟩⟩
theorem asc_getD {l : List Nat} (h : l.Pairwise (· < ·)) {i : Nat} (hi : i + 1 < l.length) : l.getD i 0 < l.getD (i + 1) 0 := by
  have e1 : l.getD i 0 = l[i]'(by omega) := by simp [List.getD, show i < l.length by omega]
  have e2 : l.getD (i + 1) 0 = l[i + 1] := by simp [List.getD, hi]
  rw [e1, e2]
  exact List.pairwise_iff_getElem.mp h i (i + 1) (by omega) hi (Nat.lt_succ_self i)
theorem asc_B {l : List Nat} (h : l.Pairwise (· < ·)) : ascB l = true := by
  unfold ascB
  rw [List.all_eq_true]
  intro i hi
  exact decide_eq_true (asc_getD h (by have := List.mem_range.mp hi; omega))
theorem natSet_of {l : List Nat} (h : l.Pairwise (· < ·)) (ne : l ≠ []) : natSetB l = true := by
  unfold natSetB
  rw [asc_B h]
  cases l with
  | nil => exact absurd rfl ne
  | cons => rfl
theorem lies_of {a b : List Nat} (h : ∀ c ∈ a, c ∈ b) : liesB a b = true := by
  unfold liesB
  rw [List.all_eq_true]
  exact fun c hc => decide_eq_true (h c hc)
theorem Rnd.lookAsc {n : Nat} {ls : List (Nat × List Nat)} (R : Rnd n ls) {il : Nat × List Nat} (h : il ∈ ls) : il.2.Pairwise (· < ·) := by
  rw [← R.look il h]
  exact order_lt n _
theorem nest_of {Ls : List (List Nat)} (h : ∀ a ∈ Ls, ∀ b ∈ Ls, a.length ≤ b.length → ∀ c ∈ a, c ∈ b) : nestB Ls = true := by
  unfold nestB
  rw [List.all_eq_true]
  intro i hi
  have hi : i + 1 < Ls.length := by have := List.mem_range.mp hi; omega
  have up : (Ls.mergeSort lenLeN).Pairwise fun a b => lenLeN a b = true := List.pairwise_mergeSort (le := lenLeN) (fun a b c h1 h2 => by
    unfold lenLeN at *
    have h1 := of_decide_eq_true h1
    have h2 := of_decide_eq_true h2
    exact decide_eq_true (by omega)) (fun a b => by
    unfold lenLeN
    rcases Nat.le_total a.length b.length with z | z
    · rw [decide_eq_true z]; rfl
    · rw [decide_eq_true z, Bool.or_true]) Ls
  have pm := List.mergeSort_perm Ls lenLeN
  generalize Ls.mergeSort lenLeN = S at up pm ⊢
  have hl := pm.length_eq
  have e1 : S.getD i [] = S[i]'(by omega) := by simp [List.getD, show i < S.length by omega]
  have e2 : S.getD (i + 1) [] = S[i + 1]'(by omega) := by simp [List.getD, show i + 1 < S.length by omega]
  rw [e1, e2]
  refine lies_of (h _ (pm.mem_iff.mp (List.getElem_mem _)) _ (pm.mem_iff.mp (List.getElem_mem _)) ?_)
  exact of_decide_eq_true (List.pairwise_iff_getElem.mp up i (i + 1) (by omega) (by omega) (Nat.lt_succ_self i))
theorem Rnd.round {n : Nat} {ls : List (Nat × List Nat)} (R : Rnd n ls) (ne : ls ≠ []) : roundB ls = true := by
  unfold roundB
  rw [natSet_of R.asc (by simpa using ne), Bool.true_and]
  have h1 : (ls.all fun il => lookB il.1 il.2 (ls.map (·.1))) = true := by
    rw [List.all_eq_true]
    intro il hil
    unfold lookB
    have := R.self il hil
    rw [natSet_of (R.lookAsc hil) (fun z => by rw [z] at this; cases this), decide_eq_true this, lies_of (R.sub il hil)]
    rfl
  rw [h1, Bool.true_and]
  refine nest_of fun a ha b hb hab => ?_
  obtain ⟨x, hx, rfl⟩ := List.mem_map.mp ha
  obtain ⟨y, hy, rfl⟩ := List.mem_map.mp hb
  exact R.nest x hx y hy hab
/-- the order of the pairs in look_schedule -/
def encK (il : Nat × List Nat) : PyData := .tuple [.int (il.2.length : Int), .int (il.1 : Int), .tuple ((il.2.map fun (c : Nat) => (c : Int)).map PyData.int)]
def leK : Nat × List Nat → Nat × List Nat → Bool := PySem.W.dataLe false encK
def schS (s : List Nat) (il : Nat × List Nat) : List Nat := s ++ (il.2.filter fun c => !decide (c ∈ s)) ++ [il.1]
def schF (L : List (Nat × List Nat)) : List Nat := L.foldl schS []
def schedOf (ls : List (Nat × List Nat)) : List Nat := schF (ls.mergeSort leK)
theorem leK_len {x y : Nat × List Nat} (h : leK x y = true) : x.2.length ≤ y.2.length := by
  have h : (!PySem.W.dataLt (encK y) (encK x)) = true := h
  rcases Nat.lt_or_ge y.2.length x.2.length with hl | hl
  · exfalso
    have e : PySem.W.dataLt (encK y) (encK x) = true := by
      unfold encK
      rw [PySem.W.dataLt_tuple, PySem.W.dataLt_cons (by simp [PySem.W.alike])]
      have e2 : PyData.eqv (.int (y.2.length : Int)) (.int (x.2.length : Int)) = false := by
        simp only [PyData.eqv, beq_eq_false_iff_ne, ne_eq]
        omega
      rw [e2, if_neg Bool.false_ne_true, PySem.W.dataLt_int]
      exact decide_eq_true (by omega)
    rw [e] at h
    cases h
  · exact hl
theorem sched_up (ls : List (Nat × List Nat)) : (ls.mergeSort leK).Pairwise fun x y => x.2.length ≤ y.2.length := by
  have h : (ls.mergeSort (PySem.W.dataLe false encK)).Pairwise fun a b => PySem.W.dataLe false encK a b = true := PySem.W.sort_pairwise (PySem.W.sortLe_total _ _ _) ls
  exact h.imp fun {x y} h => leK_len h
/-- what look_schedule tells, as it is run -/
structure SchI (n : Nat) (s : List Nat) (done : List (Nat × List Nat)) : Prop where
  wr : ∀ c, c ∈ (lr n s).wr ↔ ∃ il ∈ done, c ∈ il.2
  sw : ∀ c, c ∈ s ↔ c ∈ (lr n s).wr
  g : (lr n s).g = done.map (·.1)
  f : ∀ il ∈ done, (lr n s).f il.1 = il.2
  cnt : ∀ c, s.count c = (if c ∈ (lr n s).wr then 1 else 0) + (if c ∈ done.map (·.1) then 1 else 0)
theorem cnt_one {c : Nat} : ∀ {l : List Nat}, l.Nodup → c ∈ l → l.count c = 1
  | [], _, h => by cases h
  | a :: l, nd, h => by
    obtain ⟨n1, n2⟩ := List.nodup_cons.mp nd
    rw [List.count_cons]
    by_cases e : a = c
    · subst e
      rw [List.count_eq_zero.mpr n1]
      simp
    · have h2 : c ∈ l := (List.mem_cons.mp h).resolve_left (Ne.symm e)
      rw [cnt_one n2 h2]
      simp [e]
theorem lr_app (n : Nat) (a b : List Nat) : lr n (a ++ b) = b.foldl (lrS n) (lr n a) := by
  unfold lr
  rw [List.foldl_append]
theorem lr_new {n : Nat} : ∀ (b : List Nat) (p : LR), b.Nodup → (∀ c ∈ b, c ∉ p.wr) → b.foldl (lrS n) p = ⟨p.wr ++ b, p.g, p.f⟩
  | [], p, _, _ => by simp
  | c :: b, p, nd, h => by
    obtain ⟨n1, n2⟩ := List.nodup_cons.mp nd
    have e : lrS n p c = ⟨p.wr ++ [c], p.g, p.f⟩ := if_neg (h c (List.mem_cons_self ..))
    rw [List.foldl_cons, e, lr_new b _ n2 fun d hd z => ?_]
    · simp
    · rcases List.mem_append.mp z with z | z
      · exact h d (List.mem_cons_of_mem _ hd) z
      · exact n1 (by rw [← List.mem_singleton.mp z]; exact hd)
theorem count_filter_new (l s : List Nat) (nd : l.Nodup) (c : Nat) : (l.filter fun c => !decide (c ∈ s)).count c = if c ∈ l ∧ c ∉ s then 1 else 0 := by
  have nd2 : (l.filter fun c => !decide (c ∈ s)).Nodup := nd.filter _
  by_cases h : c ∈ l ∧ c ∉ s
  · rw [if_pos h]
    exact cnt_one nd2 (List.mem_filter.mpr ⟨h.1, by simp [h.2]⟩)
  · rw [if_neg h]
    refine List.count_eq_zero.mpr fun z => h ?_
    obtain ⟨z1, z2⟩ := List.mem_filter.mp z
    exact ⟨z1, by simpa using z2⟩
theorem sch_step {n : Nat} {s : List Nat} {done : List (Nat × List Nat)} {il : Nat × List Nat} (I : SchI n s done) (hself : il.1 ∈ il.2) (hlook : inOrder n il.2 = il.2) (hnew : il.1 ∉ done.map (·.1)) (hsub : ∀ a ∈ done, ∀ c ∈ a.2, c ∈ il.2) : SchI n (schS s il) (done ++ [il]) := by
  have nd : il.2.Nodup := by rw [← hlook]; exact (order_lt n _).imp fun h => Nat.ne_of_lt h
  have e1 : lr n (s ++ il.2.filter fun c => !decide (c ∈ s)) = ⟨(lr n s).wr ++ il.2.filter fun c => !decide (c ∈ s), (lr n s).g, (lr n s).f⟩ := by
    rw [lr_app, lr_new _ _ (nd.filter _) fun c hc z => ?_]
    have := (List.mem_filter.mp hc).2
    simp [(I.sw c).mpr z] at this
  have hmem : ∀ c, c ∈ (lr n s).wr ++ (il.2.filter fun c => !decide (c ∈ s)) ↔ c ∈ il.2 := fun c => by
    rw [List.mem_append, List.mem_filter]
    constructor
    · rintro (h | h)
      · obtain ⟨a, ha, hc⟩ := (I.wr c).mp h
        exact hsub a ha c hc
      · exact h.1
    · intro h
      by_cases z : c ∈ (lr n s).wr
      · exact .inl z
      · exact .inr ⟨h, by simpa using fun y => z ((I.sw c).mp y)⟩
  have e2 : lr n (schS s il) = ⟨(lr n s).wr ++ (il.2.filter fun c => !decide (c ∈ s)), (lr n s).g ++ [il.1], fun j => if j = il.1 then il.2 else (lr n s).f j⟩ := by
    unfold schS
    rw [lr_app, e1, List.foldl_cons, List.foldl_nil]
    unfold lrS
    rw [if_pos ((hmem il.1).mpr hself), if_neg (by rw [I.g]; exact hnew)]
    have e3 : inOrder n ((lr n s).wr ++ (il.2.filter fun c => !decide (c ∈ s))) = il.2 := by
      conv => rhs; rw [← hlook]
      exact order_congr fun c _ => hmem c
    rw [e3]
  have hall : ∀ c, c ∈ (lr n (schS s il)).wr ↔ c ∈ il.2 := fun c => by rw [e2]; exact hmem c
  refine ⟨fun c => ?_, fun c => ?_, by rw [e2, I.g, List.map_append]; rfl, fun a ha => ?_, fun c => ?_⟩
  · rw [hall c]
    constructor
    · intro h
      exact ⟨il, List.mem_append_right _ (List.mem_singleton.mpr rfl), h⟩
    · rintro ⟨a, ha, hc⟩
      rcases List.mem_append.mp ha with ha | ha
      · exact hsub a ha c hc
      · rw [List.mem_singleton.mp ha] at hc; exact hc
  · rw [hall c]
    unfold schS
    rw [List.mem_append, List.mem_append, List.mem_singleton, List.mem_filter]
    constructor
    · rintro ((h | h) | h)
      · obtain ⟨a, ha, hc⟩ := (I.wr c).mp ((I.sw c).mp h)
        exact hsub a ha c hc
      · exact h.1
      · rw [h]; exact hself
    · intro h
      by_cases z : c ∈ s
      · exact .inl (.inl z)
      · exact .inl (.inr ⟨h, by simpa using z⟩)
  · rw [e2]
    dsimp only
    rcases List.mem_append.mp ha with ha | ha
    · rw [if_neg fun z => hnew (by rw [← z]; exact List.mem_map.mpr ⟨a, ha, rfl⟩)]
      exact I.f a ha
    · rw [List.mem_singleton.mp ha, if_pos rfl]
  · have hc := I.cnt c
    have h1 := hall c
    have e4 : (if c ∈ (lr n (schS s il)).wr then 1 else 0) = if c ∈ il.2 then 1 else 0 := by
      by_cases z : c ∈ il.2
      · rw [if_pos z, if_pos (h1.mpr z)]
      · rw [if_neg z, if_neg fun y => z (h1.mp y)]
    rw [e4, List.map_append]
    unfold schS
    rw [List.count_append, List.count_append, count_filter_new _ _ nd, hc]
    have hs : c ∈ (lr n s).wr → c ∈ il.2 := fun z => (hmem c).mp (List.mem_append_left _ z)
    have hsw := I.sw c
    have e5 : [il.1].count c = if c = il.1 then 1 else 0 := by
      by_cases z : c = il.1
      · subst z; simp
      · rw [if_neg z]; exact List.count_eq_zero.mpr fun y => z (List.mem_singleton.mp y)
    rw [e5]
    by_cases z1 : c ∈ (lr n s).wr
    · have z2 := hs z1
      have z3 : ¬ (c ∈ il.2 ∧ c ∉ s) := fun y => y.2 (hsw.mpr z1)
      rw [if_pos z1, if_pos z2, if_neg z3]
      by_cases z4 : c = il.1
      · subst z4
        rw [if_neg hnew, if_pos rfl, if_pos (by simp)]
      · rw [if_neg z4]
        by_cases z5 : c ∈ done.map (·.1)
        · rw [if_pos z5, if_pos (List.mem_append_left _ z5)]
        · rw [if_neg z5, if_neg fun y => ?_]
          rcases List.mem_append.mp y with y | y
          · exact z5 y
          · exact z4 (by simpa using y)
    · have z5 : c ∉ done.map (·.1) ∨ c ∈ done.map (·.1) := (Classical.em _).symm
      have hs2 : c ∉ s := fun y => z1 (hsw.mp y)
      have hz : s.count c = 0 := List.count_eq_zero.mpr hs2
      rw [hz, if_neg z1] at hc
      have z6 : c ∉ done.map (·.1) := fun y => by rw [if_pos y] at hc; omega
      rw [if_neg z1, if_neg z6]
      by_cases z2 : c ∈ il.2
      · rw [if_pos z2, if_pos ⟨z2, hs2⟩]
        by_cases z4 : c = il.1
        · subst z4
          rw [if_pos rfl, if_pos (by simp)]
        · rw [if_neg z4, if_neg fun y => ?_]
          rcases List.mem_append.mp y with y | y
          · exact z6 y
          · exact z4 (by simpa using y)
      · rw [if_neg z2, if_neg fun y => z2 y.1]
        have z4 : c ≠ il.1 := fun y => z2 (y ▸ hself)
        rw [if_neg z4, if_neg fun y => ?_]
        rcases List.mem_append.mp y with y | y
        · exact z6 y
        · exact z4 (by simpa using y)
theorem sch_all {n : Nat} : ∀ (L : List (Nat × List Nat)) (s : List Nat) (done : List (Nat × List Nat)), SchI n s done → (∀ il ∈ L, il.1 ∈ il.2 ∧ inOrder n il.2 = il.2) → ((done ++ L).map (·.1)).Nodup → L.Pairwise (fun x y => ∀ c ∈ x.2, c ∈ y.2) → (∀ a ∈ done, ∀ b ∈ L, ∀ c ∈ a.2, c ∈ b.2) → SchI n (L.foldl schS s) (done ++ L)
  | [], s, done, I, _, _, _, _ => by rw [List.append_nil]; exact I
  | il :: L, s, done, I, h1, nd, pw, hd => by
    obtain ⟨p1, p2⟩ := List.pairwise_cons.mp pw
    have hnew : il.1 ∉ done.map (·.1) := fun z => by
      rw [List.map_append] at nd
      exact (List.nodup_append.mp nd).2.2 _ z il.1 (by simp) rfl
    have st := sch_step I (h1 il (List.mem_cons_self ..)).1 (h1 il (List.mem_cons_self ..)).2 hnew fun a ha => hd a ha il (List.mem_cons_self ..)
    have e : done ++ il :: L = (done ++ [il]) ++ L := by simp
    rw [e] at nd ⊢
    refine sch_all L _ _ st (fun x hx => h1 x (List.mem_cons_of_mem _ hx)) nd p2 fun a ha b hb => ?_
    rcases List.mem_append.mp ha with ha | ha
    · exact hd a ha b (List.mem_cons_of_mem _ hb)
    · rw [List.mem_singleton.mp ha]
      exact p1 b hb
/-- the schedule of a round gives the round -/
theorem sched_run {n : Nat} {ls : List (Nat × List Nat)} (R : Rnd n ls) : inOrder n (lr n (schedOf ls)).wr = ls.map (·.1) ∧ lrLooks n (lr n (schedOf ls)) = ls ∧ (∀ c ∈ schedOf ls, c < n) ∧ (schedOf ls).Perm (ls.map (·.1) ++ ls.map (·.1)) := by
  have pm := List.mergeSort_perm ls leK
  have up := sched_up ls
  have nd : (ls.map (·.1)).Nodup := R.asc.imp fun h => Nat.ne_of_lt h
  have nest : (ls.mergeSort leK).Pairwise fun x y => ∀ c ∈ x.2, c ∈ y.2 := List.Pairwise.imp_of_mem (fun {a b} ha hb h => R.nest a (pm.mem_iff.mp ha) b (pm.mem_iff.mp hb) h) up
  have I0 : SchI n [] [] := ⟨fun c => ⟨fun h => (by cases h), fun ⟨il, h, _⟩ => (by cases h)⟩, fun c => Iff.rfl, rfl, fun il h => (by cases h), fun c => rfl⟩
  have I : SchI n (schedOf ls) (ls.mergeSort leK) := by
    have := sch_all (ls.mergeSort leK) [] [] I0 (fun il hil => ⟨R.self il (pm.mem_iff.mp hil), R.look il (pm.mem_iff.mp hil)⟩) ((pm.map (·.1)).nodup_iff.mpr nd) nest fun a ha => by cases ha
    exact this
  have hw : ∀ c, c ∈ (lr n (schedOf ls)).wr ↔ c ∈ ls.map (·.1) := fun c => by
    rw [I.wr c]
    constructor
    · rintro ⟨il, hil, hc⟩
      exact R.sub il (pm.mem_iff.mp hil) c hc
    · intro h
      obtain ⟨il, hil, rfl⟩ := List.mem_map.mp h
      exact ⟨il, pm.mem_iff.mpr hil, R.self il hil⟩
  have hlt : ∀ c ∈ ls.map (·.1), c < n := fun c hc => by
    obtain ⟨il, hil, rfl⟩ := List.mem_map.mp hc
    exact R.lt il hil
  have hg : ∀ c, c ∈ (lr n (schedOf ls)).g ↔ c ∈ ls.map (·.1) := fun c => by rw [I.g]; exact (pm.map (·.1)).mem_iff
  have eg : inOrder n (lr n (schedOf ls)).g = ls.map (·.1) := asc_unique (order_lt n _) R.asc fun c => by
    rw [order_mem, hg c]
    exact ⟨fun z => z.2, fun z => ⟨hlt c z, z⟩⟩
  refine ⟨asc_unique (order_lt n _) R.asc fun c => ?_, ?_, fun c hc => hlt c ((hw c).mp ((I.sw c).mp hc)), ?_⟩
  · rw [order_mem, hw c]
    exact ⟨fun z => z.2, fun z => ⟨hlt c z, z⟩⟩
  · unfold lrLooks
    rw [eg, List.map_map]
    conv => rhs; rw [← List.map_id ls]
    refine List.map_congr_left fun il hil => ?_
    show (il.1, (lr n (schedOf ls)).f il.1) = il
    rw [I.f il (pm.mem_iff.mpr hil)]
  · refine List.perm_iff_count.mpr fun c => ?_
    rw [I.cnt c, List.count_append]
    have e1 : (if c ∈ (lr n (schedOf ls)).wr then 1 else 0) = (ls.map (·.1)).count c := by
      by_cases z : c ∈ ls.map (·.1)
      · rw [if_pos ((hw c).mpr z), cnt_one nd z]
      · rw [if_neg fun y => z ((hw c).mp y), List.count_eq_zero.mpr z]
    have e2 : (if c ∈ (ls.mergeSort leK).map (·.1) then 1 else 0) = (ls.map (·.1)).count c := by
      have hm := (pm.map (·.1)).mem_iff (a := c)
      by_cases z : c ∈ ls.map (·.1)
      · rw [if_pos (hm.mpr z), cnt_one nd z]
      · rw [if_neg fun y => z (hm.mp y), List.count_eq_zero.mpr z]
    rw [e1, e2]
end K9
namespace K9
open PySem L2 Er K7M
section
variable {K : PySem.W.Frag} {σ : L2.St} {H : Hp} {Q : VK} {ta tb : TS} {te : TE}
theorem r_truT {p : Addr} {xs : List V} {B : Bool → Prop} (h : SqT K H p xs) (q : B (!xs.isEmpty)) : ∃ k, TruV K (.ref p) H k ∧ B k := ⟨_, .inr (.inl ⟨xs, h, rfl⟩), q⟩
theorem r_gT {n : Nat} {t : TGs} {a : Addr} {xs : List V} {k : L2.St → Hp → Prop} (h : SqT K H a xs) (l : xs.length = n) (q : t xs σ H k) : gTup K n t (.ref a) σ H k := ⟨a, xs, rfl, h, l, q⟩
theorem r_gC {t : TG} {u : TGs} {v : V} {vs : List V} {k : L2.St → Hp → Prop} (q : t v σ H fun σ1 H1 => u vs σ1 H1 k) : gCons t u (v :: vs) σ H k := ⟨v, vs, rfl, q⟩
theorem r_catL {l b : Addr} {xs zs : List V} (h1 : H l = some (.lst xs)) (h2 : H b = some (.lst zs)) (hz : xs.length + zs.length ≤ 100000) (q : ∀ p, H p = none → Q (.ref p) (upd H p (.lst (xs ++ zs)))) : rCat (.ref l) (.ref b) H Q := ⟨l, b, xs, zs, rfl, rfl, h1, h2, Nat.le_trans hz (by decide), q⟩
end
/-- one step of a plain reading -/
local macro_rules | `(tactic| walk_at "step") => `(tactic| first
  | with_reducible refine r_seq ?_ | with_reducible refine r_nx ?_ | with_reducible refine r_asgN ?_ | with_reducible refine r_asgS ?_ | with_reducible refine r_asgT ?_ | with_reducible refine r_ifS ?_
  | with_reducible refine r_ret ?_ | with_reducible refine r_retN ?_ | with_reducible refine r_drop ?_ | with_reducible refine r_test ?_ | with_reducible refine r_B ?_ | with_reducible refine r_not ?_
  | with_reducible refine r_and ?_ | with_reducible refine r_or ?_ | with_reducible refine r_andV ?_ | with_reducible refine r_orV ?_ | with_reducible refine r_notV ?_
  | ((with_reducible refine' r_var ?e ?_); (case e => exact rfl)) | with_reducible refine r_c ?_ | with_reducible refine r_op ?_ | with_reducible refine r_un ?_
  | with_reducible refine r_I0 ?_ | with_reducible refine r_eqI ?_ | with_reducible refine r_neI ?_ | with_reducible refine r_bl ?_ | with_reducible refine r_nil ?_ | with_reducible refine r_cons ?_
  | with_reducible refine r_cb ?_ | with_reducible refine r_call ?_ | with_reducible refine r_tup ?_ | with_reducible refine r_lst ?_ | with_reducible refine r_fld ?_ | with_reducible refine r_bm ?_ | with_reducible refine r_bm0 ?_
  | with_reducible refine r_for ?_ | with_reducible refine r_rng ?_ | with_reducible refine r_rng2 ?_ | with_reducible refine r_lstI ?_ | with_reducible refine r_tupI ?_ | with_reducible refine r_lc ?_
  | with_reducible refine r_augS ?_ | with_reducible refine r_ipI ?_
  | with_reducible refine r_meth ?_ | with_reducible refine r_prop ?_ | with_reducible refine r_make ?_ | with_reducible refine r_din ?_ | with_reducible refine r_dnin ?_ | with_reducible refine r_dput ?_ | with_reducible refine r_dget ?_
  | with_reducible refine r_gN ?_ | with_reducible refine r_tsl ?_ | with_reducible refine r_noP ?_ | with_reducible refine r_part ?_ | with_reducible refine r_pI ?_ | with_reducible refine r_tif ?_ | with_reducible refine r_SL ?_ | with_reducible refine r_gC ?_ | with_reducible refine r_U ?_ | with_reducible refine r_sfld ?_ | with_reducible refine r_dnew ?_ | with_reducible refine r_keys ?_
  | with_reducible refine r_mkE ?_ | with_reducible refine iteT ?_ | with_reducible refine iteF ?_
  | with_reducible refine r_int ?_ | with_reducible refine r_min2 ?_ | with_reducible refine r_isN ?_ | with_reducible refine r_notN ?_)
/-- as far as it goes by itself -/
local macro_rules | `(tactic| walk_at "go") => `(tactic| ((repeat walk_at "step"); (try dsimp only)))

theorem collect {α β γ : Type} {ka : α → γ} {kb : β → γ} {vb : β → V} {At : β → Prop} : ∀ (rs : List α) (ys : List V), ys.length = rs.length → (∀ (i : Nat) (t : α) (y : V), rs[i]? = some t → ys[i]? = some y → ∃ b, y = vb b ∧ kb b = ka t ∧ At b) → ∃ bs : List β, ys = bs.map vb ∧ bs.map kb = rs.map ka ∧ ∀ b ∈ bs, At b
  | [], [], _, _ => ⟨[], rfl, rfl, fun b h => by cases h⟩
  | [], _ :: _, h, _ => by cases h
  | _ :: _, [], h, _ => by cases h
  | t :: rs, y :: ys, h, g => by
    obtain ⟨b, e1, e2, e3⟩ := g 0 t y rfl rfl
    obtain ⟨bs, f1, f2, f3⟩ := collect (ka := ka) (kb := kb) (vb := vb) (At := At) rs ys (Nat.succ.inj h) fun i t' y' h1 h2 => g (i + 1) t' y' h1 h2
    refine ⟨b :: bs, by rw [List.map_cons, ← e1, ← f1], by rw [List.map_cons, List.map_cons, e2, f2], fun b' hb => ?_⟩
    rcases List.mem_cons.mp hb with rfl | hb
    · exact e3
    · exact f3 b' hb
section
variable {K : PySem.W.Frag} {σ : L2.St} {H : Hp} {Q : VK} {te : TE}
/-- [e for x, y in xs], e made anew each time -/
theorem r_lcPm {α : Type} {g : TG} {vs : List Nat} {a : Addr} (rs : List α) (gv : α → V) (σt : α → L2.St) (Rl : α → V → Hp → Prop) (away : ∀ t v Dl zs H H', H Dl = some (.lst zs) → Rl t v H → (∀ b u, b ≠ Dl → H b = some u → H' b = some u) → Rl t v H') (st : ∀ t v H H', Same H H' → Rl t v H → Rl t v H')
    (hn : rs.length ≤ 100000) (hx : SqX K H a (rs.map gv)) (hg : ∀ t ∈ rs, ∀ H', Same H H' → ∀ k : L2.St → Hp → Prop, k (σt t) H' → g (gv t) (wipe σ vs) H' k) (hw : ∀ t, wipe (σt t) vs = wipe σ vs)
    (he : ∀ t ∈ rs, ∀ H', Same H H' → ∀ Q : VK, (∀ y H2, Same H' H2 → Rl t y H2 → Q y H2) → te (σt t) H' Q)
    (q : ∀ p ys H', H p = none → Same H H' → H' p = some (.lst ys) → ys.length = rs.length → (∀ (i : Nat) (t : α) (y : V), rs[i]? = some t → ys[i]? = some y → Rl t y H') → Q (.ref p) H') :
    seqK K (.ref a) H (lcK g tYes te vs σ Q) ∧ (∀ h : SqL K H a (rs.map gv), lcK g tYes te vs σ Q (Itl K a) H) ∧ ∀ h : SqT K H a (rs.map gv), lcK g tYes te vs σ Q (Itt K a) H := by
  have at_ : ∀ {i : Nat} {x : V}, (rs.map gv)[i]? = some x → ∃ z, rs[i]? = some z ∧ x = gv z ∧ z ∈ rs := fun {i x} h => by
    rw [List.getElem?_map] at h
    cases e : rs[i]? with
    | none => rw [e] at h; cases h
    | some z => rw [e] at h; exact ⟨z, rfl, (Option.some.inj h).symm, List.mem_of_getElem? e⟩
  have turn : ∀ (Dl : Addr), H Dl = none → ∀ (i : Nat) (x : V) (H' : Hp), (rs.map gv)[i]? = some x → (Same H H' ∧ ∃ acc, H' Dl = some (.lst acc) ∧ acc.length = i ∧ ∀ (j : Nat) (y : V), acc[j]? = some y → ∃ t, rs[j]? = some t ∧ Rl t y H') →
      g x (wipe σ vs) H' fun σ2 H2 => wipe σ2 vs = wipe σ vs ∧ tYes σ2 H2 fun b H3 => if b = true then te σ2 H3 fun y H4 => ∃ acc, H4 Dl = some (.lst acc) ∧ acc.length < sizeLine ∧ (Same H (upd H4 Dl (.lst (acc ++ [y]))) ∧ ∃ ac, (upd H4 Dl (.lst (acc ++ [y]))) Dl = some (.lst ac) ∧ ac.length = i + 1 ∧ ∀ (j : Nat) (y' : V), ac[j]? = some y' → ∃ t, rs[j]? = some t ∧ Rl t y' (upd H4 Dl (.lst (acc ++ [y]))))
        else (Same H H3 ∧ ∃ acc, H3 Dl = some (.lst acc) ∧ acc.length = i + 1 ∧ ∀ (j : Nat) (y : V), acc[j]? = some y → ∃ t, rs[j]? = some t ∧ Rl t y H3) := fun Dl hD i x H' hi p => by
    obtain ⟨s, acc, hl, la, ha⟩ := p
    obtain ⟨t, ht, rfl, hm⟩ := at_ hi
    refine hg t hm H' s _ ⟨hw t, ?_⟩
    refine r_tYes ?_
    refine iteT ?_
    refine lcm_core (n := rs.length) (Rl := fun i v H => ∃ t, rs[i]? = some t ∧ Rl t v H) (fun i v H H' s p => ?_) hD s hl la ha (Nat.lt_of_lt_of_le (List.getElem?_eq_some_iff.mp ht).1 hn) (fun j y H H' h1 h2 h3 => ?_) fun Q k => ?_
    · obtain ⟨t, h1, h2⟩ := p
      exact ⟨t, h1, st t v H H' s h2⟩
    · obtain ⟨t, e1, e2⟩ := h2
      exact ⟨t, e1, away t y Dl acc H H' h1 e2 h3⟩
    · exact he t hm H' s Q fun y H2 s2 r => k y H2 s2 ⟨t, ht, r⟩
  have fin : ∀ (Dl : Addr), H Dl = none → ∀ H', (Same H H' ∧ ∃ acc, H' Dl = some (.lst acc) ∧ acc.length = (rs.map gv).length ∧ ∀ (j : Nat) (y : V), acc[j]? = some y → ∃ t, rs[j]? = some t ∧ Rl t y H') → Q (.ref Dl) H' := fun Dl hD H' p => by
    obtain ⟨s, acc, hl, la, ha⟩ := p
    rw [List.length_map] at la
    refine q Dl acc H' hD s hl la fun i t y h1 h2 => ?_
    obtain ⟨t', h3, h4⟩ := ha i y h2
    rw [h1] at h3
    cases h3
    exact h4
  have h0 : ∀ (Dl : Addr), H Dl = none → (Same H (upd H Dl (.lst [])) ∧ ∃ acc, (upd H Dl (.lst [])) Dl = some (.lst acc) ∧ acc.length = 0 ∧ ∀ (j : Nat) (y : V), acc[j]? = some y → ∃ t, rs[j]? = some t ∧ Rl t y (upd H Dl (.lst []))) := fun Dl hD => ⟨fun b o z => by rw [upd_ne (ne_of_none z hD)]; exact z, [], upd_same, rfl, fun j y h => by simp at h⟩
  have hL : ∀ h : SqL K H a (rs.map gv), lcK g tYes te vs σ Q (Itl K a) H := fun h Dl hD =>
    lc_list (xs := rs.map gv) (fun i H' => Same H H' ∧ ∃ acc, H' Dl = some (.lst acc) ∧ acc.length = i ∧ ∀ (j : Nat) (y : V), acc[j]? = some y → ∃ t, rs[j]? = some t ∧ Rl t y H') (h0 Dl hD) (fun i H' _ p => p.1.seq h) (fun i x H' hi p => turn Dl hD i x H' hi p) fun H' p => fin Dl hD H' p
  have hT : ∀ h : SqT K H a (rs.map gv), lcK g tYes te vs σ Q (Itt K a) H := fun h Dl hD =>
    lc_tup (xs := rs.map gv) (fun i H' => Same H H' ∧ ∃ acc, H' Dl = some (.lst acc) ∧ acc.length = i ∧ ∀ (j : Nat) (y : V), acc[j]? = some y → ∃ t, rs[j]? = some t ∧ Rl t y H') (h0 Dl hD) (fun i H' _ p => same_tup p.1 h) (fun i x H' hi p => turn Dl hD i x H' hi p) fun H' p => fin Dl hD H' p
  exact ⟨hx.elim (fun h => r_seqL h (hL h)) fun h => r_seqT h (hT h), hL, hT⟩
end
theorem sqt_but {K : PySem.W.Frag} {H H' : Hp} {a Dl : Addr} {xs zs : List V} (h : SqT K H a xs) (h1 : H Dl = some (.lst zs)) (h3 : ∀ b u, b ≠ Dl → H b = some u → H' b = some u) : SqT K H' a xs := by
  rcases h with (h | ⟨o, h⟩) | h
  · exact .inl (.inl (h3 _ _ (ne_of h h1 (by intro z; cases z)) h))
  · exact .inl (.inr ⟨o, h3 _ _ (ne_of h h1 (by intro z; cases z)) h⟩)
  · exact .inr h
/-- a triple: length, name, look -/
structure TQ where
  p : Addr
  c : Nat
  r : Addr
  l : List Nat
abbrev TQ.v (t : TQ) : V := .ref t.p
abbrev TQ.k (t : TQ) : Nat × List Nat := (t.c, t.l)
def TRT (K : PySem.W.Frag) (H : Hp) (t : TQ) : Prop := H t.p = some (.tup [.int (t.l.length : Int), .int (t.c : Int), .ref t.r]) ∧ SqT K H t.r (nV t.l)
theorem tr_dp {K : PySem.W.Frag} {H : Hp} {t : TQ} (h : TRT K H t) : Dp K H (.ref t.p) (encK t.k) := .tup (SqT.of h.1) (.cons (.int _) (.cons (.int _) (.cons (dp_tupN h.2) .nil)))
theorem alike_encK (x y : Nat × List Nat) : PySem.W.alike (encK x) (encK y) = true := by
  simp [encK, PySem.W.alike, PySem.W.alikeAll, alike_ints, -List.map_map]
theorem depth_encK (x : Nat × List Nat) : (encK x).depth ≤ 16 := by
  have : Okd 2 (encK x) := okd_tup fun d hd => by
    rcases List.mem_cons.mp hd with rfl | hd
    · exact (okd_int _).up (by decide)
    rcases List.mem_cons.mp hd with rfl | hd
    · exact (okd_int _).up (by decide)
    rcases List.mem_cons.mp hd with rfl | hd
    · exact okd_tup (okd_ints _)
    cases hd
  have := this.2
  omega
def leB (a b : TQ) : Bool := leK a.k b.k
theorem sort_tr (bs : List TQ) : refsD ((bs.map fun b => (b.p, encK b.k)).mergeSort datLe) = (bs.mergeSort leB).map TQ.v ∧ (bs.mergeSort leB).map TQ.k = (bs.map TQ.k).mergeSort leK := by
  constructor
  · have e : (bs.mergeSort leB).map (fun b => (b.p, encK b.k)) = (bs.map fun b => (b.p, encK b.k)).mergeSort datLe := List.map_mergeSort fun a _ b _ => rfl
    rw [← e]
    unfold refsD
    rw [List.map_map]
    rfl
  · exact List.map_mergeSort fun a _ b _ => rfl
def spSched (K : PySem.W.Frag) (CR : Addr) : Sp := fun vs H Q E => ∃ x, vs = [x] ∧ ((BadRd K H x ∧ rsd CR "place" (.int (-1)) H E) ∨ ∃ (a : Addr) (rs : List RP), x = .ref a ∧ GoodRd K H a rs ∧ rs.length ≤ 10 ∧ (∀ t ∈ rs, t.l.length ≤ 10) ∧ ∀ t H', Same H H' → H' t = some (.tup (nV (schedOf (rs.map RP.k)))) → Q (.ref t) H')
section
variable {P : Program} {w : World} {K : PySem.W.Frag} {mg : Str → Option Value} {base : Heap} {CN CR CM : Addr}
theorem scSched : FnScope ["row", "schedule", "_", "name", "look", "seen", "entry", "other"] ["row"] (defScope sLookSched) := ⟨rfl, rfl, rfl, by decide +kernel, rfl, by decide +kernel, by decide +kernel⟩
theorem ok_sched {f : Addr} {fd : FuncData} (F : Fun K "look_schedule" "look_schedule" sLookSched f fd) (T : Errs P w K mg CN CR CM) (m_len : mg "len" = none) (m_tuple : mg "tuple" = none) (m_sorted : mg "sorted" = none) (D_isround : Fok P w K mg base 6 "is_round" ["thing"] (spRound K)) :
    FnOk P w K mg base (L2.CX P w) 7 f fd ["row"] (spSched K CR) := by
  refine F.okX scSched (fun vs H Q E h => ?_) (fun cdv A outer s H vs Q E hr h => ?_)
  · obtain ⟨x, rfl, _⟩ := h
    rfl
  obtain ⟨x, rfl, h⟩ := h
  obtain ⟨fI, TR, RR⟩ := T.nr
  have sc := scSched
  refine ⟨_, (pss_cons (ps_if (pt_not (pt_val (pe_f D_isround (hr.mono (by decide)) (pa_cons (pv 0) pa_nil)))) (pss_one (ps_raise rfl (takes_of rfl rfl rfl rfl) (pmk_er (k := 0) (okV := fun _ => True) TR RR (fun _ _ _ _ => trivial) (hr.mono (by decide)) (by rfl) T.gR (pa_cons (pe_un un_neg pe_int) pa_nil)))) pss_nil)
      (pss_cons (ps_set (i := 1) sc.nd rfl (Or.inr rfl) (pe_lst pa_nil))
      (pss_cons (ps_for (passes_of rfl) rfl (pi_list (pe_callB (c_sortDat hr.units) (by rfl) m_sorted (by decide +kernel) (pa_cons (pe_lc (own := [("entry", 6), ("seen", 5)]) (g := gAny K 2 (gCons (gName 6) (gCons (gName 5) gNil))) (tt := tYes) rfl sc.nd (pi_seq (pv 0)) (blkOk_by (own := [("entry", 6), ("seen", 5)]) (N := ["row", "schedule", "_", "name", "look", "seen", "entry", "other"]) (sc := defScope sLookSched) (by decide +kernel)) (fun _ _ _ _ _ => pg_any (by rfl) (pgs_cons (pg_name (i := 6) sc.nd rfl (Or.inl rfl)) (pgs_cons (pg_name (i := 5) sc.nd rfl (Or.inl rfl)) pgs_nil))) (fun _ _ _ _ _ => pts_nil) (fun _ _ _ _ _ => (pe_tup (pa_cons (pe_callB (lenK K) (by rfl) m_len PySem.boot_len (pa_cons (pv 5) pa_nil)) (pa_cons (pv 6) (pa_cons (pe_callTy (tupOK K) (by rfl) m_tuple (by decide +kernel) (pa_cons (pv 5) pa_nil)) pa_nil)))))) pa_nil))) (pg_tup (by rfl) (pgs_cons (pg_name (i := 2) sc.nd rfl (Or.inl rfl)) (pgs_cons (pg_name (i := 3) sc.nd rfl (Or.inl rfl)) (pgs_cons (pg_name (i := 4) sc.nd rfl (Or.inl rfl)) pgs_nil)))) (pss_one (ps_set (i := 1) sc.nd rfl (Or.inr rfl) (pe_op op_cat (pe_op op_cat (pv 1) (pe_lc (own := [("other", 7)]) (g := gName 7)  rfl sc.nd (pi_tup (pv 4)) (blkOk_by (own := [("other", 7)]) (N := ["row", "schedule", "_", "name", "look", "seen", "entry", "other"]) (sc := defScope sLookSched) (by decide +kernel)) (fun _ _ _ _ _ => pg_name (i := 7) sc.nd rfl (Or.inl rfl)) (fun _ _ _ _ _ => (pts_one (pt_cmpR (ninK K) (pv 7) (pv 1) (by with_unfolding_all rfl)))) (fun _ _ _ _ _ => (pv 7)))) (pe_lst (pa_cons (pv 3) pa_nil))))))
      (pss_one (ps_ret (pe_callTy (tupOK K) (by rfl) m_tuple (by decide +kernel) (pa_cons (pv 1) pa_nil))))))), ?_⟩
  walk_at "go"
  rcases h with ⟨hb, hr9⟩ | ⟨a, rs, rfl, hg, hn10, hl10, k⟩
  · refine bad_round hb fun H1 s1 => ?_
    walk_at "go"
    refine iteT ?_
    walk_at "go"
    exact r_mkK (okV := fun _ => True) trivial fun d hd => rsd_new hr9 s1 hd
  · refine good_round hg fun H1 s1 => ?_
    walk_at "go"
    refine iteF ?_
    walk_at "go"
    refine ⟨by show 0 ≤ sizeLine; decide, fun p0 hp0 => ?_⟩
    have s2 := s1.trans (same_new (o := .lst []) hp0)
    have h0 : (upd H1 p0 (.lst [])) p0 = some (.lst (nV [])) := upd_same
    generalize upd H1 p0 (.lst []) = H2 at s2 h0 ⊢
    obtain ⟨⟨ha, hrs⟩, hn, hl, _⟩ := hg.keep s2
    walk_at "go"
    refine r_seqI ?_
    walk_at "go"
    refine (r_lcPm rs RP.v (fun t => [some (.ref a), some (.ref p0), none, none, none, some (.ref t.r), some (.int (t.c : Int)), none]) (fun t y H => ∃ b : TQ, y = b.v ∧ b.k = t.k ∧ TRT K H b) (fun t v Dl zs H H' h1 h2 h3 => ?_) (fun t v H H' s h => ?_) (by omega) ha (fun t ht H3 s3 k2 hk2 => ?_) (fun t => rfl) (fun t ht H3 s3 Q y => ?_) fun p ys H3 hp s3 hys hlen hat => ?_).1
    · obtain ⟨b, e1, e2, e3, e4⟩ := h2
      exact ⟨b, e1, e2, h3 _ _ (ne_of e3 h1 (by intro z; cases z)) e3, sqt_but e4 h1 h3⟩
    · obtain ⟨b, e1, e2, e3, e4⟩ := h
      exact ⟨b, e1, e2, s _ _ e3, same_tup s e4⟩
    · refine r_gA ((hrs t ht).1.keep s3) rfl ?_
      walk_at "go"
      exact ⟨rfl, hk2⟩
    · have hr3 := (hrs t ht).2.keep s3
      walk_at "go"
      refine r_lenX hr3 ?_
      rw [nV_len]
      walk_at "go"
      have fin : ∀ r9 H4, Same H3 H4 → SqT K H4 r9 (nV t.l) → (∀ p, H4 p = none → Q (.ref p) (upd H4 p (.tup [.int (t.l.length : Int), .int (t.c : Int), .ref r9]))) := fun r9 H4 s4 h4 p hp => y _ _ (s4.trans (same_new hp)) ⟨⟨p, t.c, r9, t.l⟩, rfl, rfl, upd_same, same_tup (same_new hp) h4⟩
      rcases hr3 with hr3 | hr3
      · refine r_tupL hr3 fun r9 hr9 => ?_
        walk_at "go"
        exact ⟨by show 3 ≤ sizeLine; decide, fin r9 _ (same_new hr9) (SqT.of upd_same)⟩
      · refine r_tupT hr3 ?_
        walk_at "go"
        exact ⟨by show 3 ≤ sizeLine; decide, fin t.r H3 (Same.refl _) hr3⟩
    walk_at "go"
    obtain ⟨bs, rfl, ekb, hbs⟩ := collect (ka := RP.k) (kb := TQ.k) (vb := TQ.v) (At := fun b => TRT K H3 b) rs ys hlen hat
    have elen : bs.length = rs.length := by have := congrArg List.length ekb; rwa [List.length_map, List.length_map] at this
    have erefs : bs.map TQ.v = refsD (bs.map fun b => (b.p, encK b.k)) := by
      unfold refsD
      rw [List.map_map]
      rfl
    rw [erefs] at hys
    refine ⟨p, _, rfl, SqL.of hys, fun u hu => ?_, fun d hd d' hd' => ?_, fun u hu => ?_, fun u hu => ?_, by rw [List.length_map]; omega, fun q hq => ?_⟩
    · obtain ⟨b, hb, rfl⟩ := List.mem_map.mp hu
      exact tr_dp (hbs b hb)
    · rw [List.map_map] at hd hd'
      obtain ⟨b, hb, rfl⟩ := List.mem_map.mp hd
      obtain ⟨b', hb', rfl⟩ := List.mem_map.mp hd'
      exact alike_encK _ _
    · obtain ⟨b, hb, rfl⟩ := List.mem_map.mp hu
      exact ⟨_, _, rfl⟩
    · obtain ⟨b, hb, rfl⟩ := List.mem_map.mp hu
      exact depth_encK _
    obtain ⟨es1, es2⟩ := sort_tr bs
    have hS : ∀ b ∈ bs.mergeSort leB, TRT K H3 b := fun b hb => hbs b ((List.mergeSort_perm _ _).mem_iff.mp hb)
    have hS10 : ∀ il ∈ (bs.mergeSort leB).map TQ.k, il.2.length ≤ 10 := fun il hil => by
      rw [es2] at hil
      have hil := (List.mergeSort_perm _ _).mem_iff.mp hil
      rw [ekb] at hil
      obtain ⟨t, ht, rfl⟩ := List.mem_map.mp hil
      exact hl10 t ht
    have hSl : (bs.mergeSort leB).length = rs.length := by rw [List.length_mergeSort, elen]
    rw [es1, ekb] at *
    generalize bs.mergeSort leB = S at es2 hS hS10 hSl ⊢
    have h4 : (upd H3 q (.lst (S.map TQ.v))) q = some (.lst (S.map TQ.v)) := upd_same
    have s34 := same_new (o := .lst (S.map TQ.v)) hq
    have hS4 : ∀ b ∈ S, TRT K (upd H3 q (.lst (S.map TQ.v))) b := fun b hb => ⟨s34 _ _ (hS b hb).1, same_tup s34 (hS b hb).2⟩
    have s4 := (s2.trans s3).trans s34
    have h40 := s34 _ _ (s3 _ _ h0)
    generalize upd H3 q (.lst (S.map TQ.v)) = H4 at h4 hS4 s4 h40 ⊢
    refine r_lstK (SqL.of h4) ?_
    refine r_forL (xs := S.map TQ.v) (fun i σ H' => ∃ v2 v3 v4 p1, σ = [some (.ref a), some (.ref p1), v2, v3, v4, none, none, none] ∧ Same H4 H' ∧ H' p1 = some (.lst (nV (schF ((S.take i).map TQ.k)))) ∧ (schF ((S.take i).map TQ.k)).length ≤ i * 11) ⟨none, none, none, p0, rfl, Same.refl _, h40, Nat.zero_le _⟩ (fun i σ H' hi p => p.choose_spec.choose_spec.choose_spec.choose_spec.2.1.seq (SqL.of h4)) ?_ ?_
    · rintro i x σ H5 hx ⟨v2, v3, v4, p1, rfl, s5, h5, l5⟩
      have hiS : i < S.length := by have := (List.getElem?_eq_some_iff.mp hx).1; rwa [List.length_map] at this
      rw [List.getElem?_map, List.getElem?_eq_getElem hiS] at hx
      cases hx
      have hb := hS4 S[i] (List.getElem_mem hiS)
      have hb10 : S[i].l.length ≤ 10 := hS10 S[i].k (List.mem_map.mpr ⟨S[i], List.getElem_mem hiS, rfl⟩)
      have etk : (S.take (i + 1)).map TQ.k = (S.take i).map TQ.k ++ [S[i].k] := by
        rw [List.take_add_one, List.getElem?_eq_getElem hiS, List.map_append]
        rfl
      have esch : schF ((S.take (i + 1)).map TQ.k) = schS (schF ((S.take i).map TQ.k)) S[i].k := by
        rw [etk]
        unfold schF
        rw [List.foldl_append]
        rfl
      rw [esch]
      generalize schF ((S.take i).map TQ.k) = sc9 at h5 l5 ⊢
      generalize S[i] = b at hb hb10 ⊢
      refine r_gT (SqT.of (s5 _ _ hb.1)) rfl ?_
      walk_at "go"
      refine ⟨rfl, ?_⟩
      walk_at "go"
      refine r_tupK (same_tup s5 hb.2) ?_
      refine (r_lcZX b.l (fun (c : Nat) => V.int (c : Int)) (fun c => !decide (c ∈ sc9)) (fun (c : Nat) => V.int (c : Int)) (.inr (same_tup s5 hb.2)) (by omega) (fun _ => rfl) (fun c hc H6 s6 QT y => ?_) (fun c hc H6 _ s6 Q y => ?_) fun p6 H6 hp6 s6 h6 => ?_).2.2 (same_tup s5 hb.2)
      · walk_at "go"
        refine r_ninX (.L (s6 _ _ h5)) ?_
        exact ⟨_, rfl, y H6 (Same.refl _)⟩
      · walk_at "go"
        exact y H6 (Same.refl _)
      have h6 : H6 p6 = some (.lst (nV (b.l.filter fun c => !decide (c ∈ sc9)))) := h6
      have lf : (b.l.filter fun c => !decide (c ∈ sc9)).length ≤ 10 := Nat.le_trans (List.length_filter_le _ _) hb10
      have i10 : i * 11 ≤ 110 := Nat.mul_le_mul_right 11 (show i ≤ 10 by omega)
      walk_at "go"
      refine r_catL (s6 _ _ h5) h6 (by rw [nV_len, nV_len]; omega) fun p7 hp7 => ?_
      walk_at "go"
      refine ⟨by show 1 ≤ sizeLine; decide, fun p8 hp8 => ?_⟩
      walk_at "go"
      refine r_catL ((same_new hp8) _ _ upd_same) upd_same (by rw [List.length_append, nV_len, nV_len, List.length_singleton]; omega) fun p9 hp9 => ?_
      refine ⟨_, _, _, p9, rfl, s5.trans (s6.trans (((same_new hp7).trans (same_new hp8)).trans (same_new hp9))), ?_, ?_⟩
      · rw [upd_same]
        unfold schS
        rw [nV_append, nV_append]
        rfl
      · unfold schS
        rw [List.length_append, List.length_append, List.length_singleton]
        show _ + (b.l.filter fun c => !decide (c ∈ sc9)).length + 1 ≤ _
        omega
    · rintro σ H5 ⟨v2, v3, v4, p1, rfl, s5, h5, l5⟩
      rw [List.length_map, List.take_length, es2] at h5
      walk_at "go"
      refine r_tupL (SqL.of h5) fun t ht => ?_
      exact k t _ (s4.trans (s5.trans (same_new ht))) upd_same
end
end K9
namespace K9
open PySem L2 Er K7M
section
variable {K : PySem.W.Frag} {σ : L2.St} {H : Hp} {Q : VK} {te : TE} {tl th : TO}
theorem r_tsl {r : V → Option Int → Option Int → Hp → VK → Prop} (h : te σ H fun x H1 => tl σ H1 fun l H2 => th σ H2 fun u H3 => r x l u H3 Q) : tSl r te tl th σ H Q := h
theorem r_noP {QO : Option Int → Hp → Prop} (q : QO none H) : tNoPart σ H QO := q
theorem r_part {QO : Option Int → Hp → Prop} (h : te σ H fun x H1 => ∃ i, x = .int i ∧ QO (some i) H1) : tPart te σ H QO := h
theorem r_pI {i : Int} {B : Int → Prop} (q : B i) : ∃ i', V.int i = .int i' ∧ B i' := ⟨i, rfl, q⟩
end
/-- one step of a plain reading -/
local macro_rules | `(tactic| walk_at "step") => `(tactic| first
  | with_reducible refine r_seq ?_ | with_reducible refine r_nx ?_ | with_reducible refine r_asgN ?_ | with_reducible refine r_asgS ?_ | with_reducible refine r_asgT ?_ | with_reducible refine r_ifS ?_
  | with_reducible refine r_ret ?_ | with_reducible refine r_retN ?_ | with_reducible refine r_drop ?_ | with_reducible refine r_test ?_ | with_reducible refine r_B ?_ | with_reducible refine r_not ?_
  | with_reducible refine r_and ?_ | with_reducible refine r_or ?_ | with_reducible refine r_andV ?_ | with_reducible refine r_orV ?_ | with_reducible refine r_notV ?_
  | ((with_reducible refine' r_var ?e ?_); (case e => exact rfl)) | with_reducible refine r_c ?_ | with_reducible refine r_op ?_ | with_reducible refine r_un ?_
  | with_reducible refine r_I0 ?_ | with_reducible refine r_eqI ?_ | with_reducible refine r_neI ?_ | with_reducible refine r_bl ?_ | with_reducible refine r_nil ?_ | with_reducible refine r_cons ?_
  | with_reducible refine r_cb ?_ | with_reducible refine r_call ?_ | with_reducible refine r_tup ?_ | with_reducible refine r_lst ?_ | with_reducible refine r_fld ?_ | with_reducible refine r_bm ?_ | with_reducible refine r_bm0 ?_
  | with_reducible refine r_for ?_ | with_reducible refine r_rng ?_ | with_reducible refine r_rng2 ?_ | with_reducible refine r_lstI ?_ | with_reducible refine r_tupI ?_ | with_reducible refine r_lc ?_
  | with_reducible refine r_augS ?_ | with_reducible refine r_ipI ?_
  | with_reducible refine r_meth ?_ | with_reducible refine r_prop ?_ | with_reducible refine r_make ?_ | with_reducible refine r_din ?_ | with_reducible refine r_dnin ?_ | with_reducible refine r_dput ?_ | with_reducible refine r_dget ?_
  | with_reducible refine r_gN ?_ | with_reducible refine r_tsl ?_ | with_reducible refine r_noP ?_ | with_reducible refine r_part ?_ | with_reducible refine r_pI ?_ | with_reducible refine r_tif ?_ | with_reducible refine r_SL ?_ | with_reducible refine r_gC ?_ | with_reducible refine r_U ?_ | with_reducible refine r_sfld ?_ | with_reducible refine r_dnew ?_ | with_reducible refine r_keys ?_
  | with_reducible refine r_mkE ?_ | with_reducible refine iteT ?_ | with_reducible refine iteF ?_
  | with_reducible refine r_int ?_ | with_reducible refine r_min2 ?_ | with_reducible refine r_isN ?_ | with_reducible refine r_notN ?_)
/-- as far as it goes by itself -/
local macro_rules | `(tactic| walk_at "go") => `(tactic| ((repeat walk_at "step"); (try dsimp only)))

theorem catA {X : Cx} (K : PySem.W.Frag) (e : X.K = K := by rfl) : OpR X (binaryOp .Add) (rCatA K) := by subst e; exact op_catA
/-! the parts of a row -/
def prtS (ps : List (List Nat)) (c : Nat) : List (List Nat) := ps ++ ps.map (· ++ [c])
def partsF (l : List Nat) : List (List Nat) := l.foldl prtS [[]]
theorem prt_len : ∀ (l : List Nat) (ps : List (List Nat)), (l.foldl prtS ps).length = ps.length * 2 ^ l.length
  | [], ps => by simp
  | c :: l, ps => by
    rw [List.foldl_cons, prt_len l]
    unfold prtS
    rw [List.length_append, List.length_map, List.length_cons, Nat.pow_succ, Nat.mul_comm (2 ^ l.length) 2, ← Nat.mul_assoc, Nat.mul_two]
theorem parts_len (l : List Nat) : (partsF l).length = 2 ^ l.length := by
  unfold partsF
  rw [prt_len]
  simp
theorem prt_mem : ∀ (l : List Nat) (ps : List (List Nat)) (b : List Nat), b ∈ l.foldl prtS ps ↔ ∃ b0 ∈ ps, ∃ s, s.Sublist l ∧ b = b0 ++ s
  | [], ps, b => by
    constructor
    · exact fun h => ⟨b, h, [], List.Sublist.refl _, by simp⟩
    · rintro ⟨b0, h0, s, hs, rfl⟩
      rw [List.sublist_nil.mp hs, List.append_nil]
      exact h0
  | c :: l, ps, b => by
    rw [List.foldl_cons, prt_mem l]
    constructor
    · rintro ⟨b0, h0, s, hs, rfl⟩
      rcases List.mem_append.mp h0 with h0 | h0
      · exact ⟨b0, h0, s, hs.cons _, rfl⟩
      · obtain ⟨b1, h1, rfl⟩ := List.mem_map.mp h0
        exact ⟨b1, h1, c :: s, hs.cons_cons _, by simp⟩
    · rintro ⟨b0, h0, s, hs, rfl⟩
      cases hs with
      | cons _ hs => exact ⟨b0, List.mem_append_left _ h0, s, hs, rfl⟩
      | cons_cons _ hs => exact ⟨b0 ++ [c], List.mem_append_right _ (List.mem_map.mpr ⟨b0, h0, rfl⟩), _, hs, by simp⟩
theorem parts_mem {l b : List Nat} : b ∈ partsF l ↔ b.Sublist l := by
  unfold partsF
  rw [prt_mem]
  constructor
  · rintro ⟨b0, h0, s, hs, rfl⟩
    rw [List.mem_singleton.mp h0]
    exact hs
  · exact fun h => ⟨[], List.mem_singleton.mpr rfl, b, h, rfl⟩
theorem prt_head : ∀ (l : List Nat) (R : List (List Nat)), (∀ b ∈ R, b ≠ []) → ∃ R', l.foldl prtS ([] :: R) = [] :: R' ∧ ∀ b ∈ R', b ≠ []
  | [], R, h => ⟨R, rfl, h⟩
  | c :: l, R, h => by
    have e : prtS ([] :: R) c = [] :: (R ++ ([] :: R).map (· ++ [c])) := rfl
    rw [List.foldl_cons, e]
    refine prt_head l _ fun b hb => ?_
    rcases List.mem_append.mp hb with hb | hb
    · exact h b hb
    · obtain ⟨b0, _, rfl⟩ := List.mem_map.mp hb
      simp
theorem parts_head (l : List Nat) : ∃ R, partsF l = [] :: R ∧ ∀ b ∈ R, b ≠ [] := prt_head l [] fun b h => by cases h
theorem parts_drop (l : List Nat) : (partsF l).filter (fun b => !b.isEmpty) = (partsF l).drop 1 := by
  obtain ⟨R, e, h⟩ := parts_head l
  rw [e]
  show (R.filter fun b => !b.isEmpty) = R
  refine List.filter_eq_self.mpr fun b hb => ?_
  cases b with
  | nil => exact absurd rfl (h _ hb)
  | cons => rfl
theorem cut_one (xs : List V) : cutV xs (some 1) none = xs.drop 1 := by
  cases xs with
  | nil => rfl
  | cons x xs =>
    have e1 : HT.sIx (x :: xs).length 0 (some 1) = 1 := by
      show (if (1 : Int) < 0 then ((1 : Int) + ((x :: xs).length : Int)).toNat else min (1 : Int).toNat (x :: xs).length) = 1
      rw [if_neg (by decide), List.length_cons]
      show min 1 (xs.length + 1) = 1
      omega
    unfold cutV
    rw [e1, HT.sIx_none]
    show (xs.take (xs.length + 1 - 1)) = xs
    rw [Nat.add_sub_cancel, List.take_length]
/-- a list of rows of names, each a tuple -/
def ItsL (H : Hp) (p : Addr) (bs : List (List Nat)) : Prop := ∃ ts : List (Addr × List Nat), H p = some (.lst (ts.map fun t => V.ref t.1)) ∧ ts.map (·.2) = bs ∧ ∀ t ∈ ts, H t.1 = some (.tup (nV t.2))
theorem ItsL.keep {H H' : Hp} {p : Addr} {bs : List (List Nat)} (h : ItsL H p bs) (s : Same H H') : ItsL H' p bs := by
  obtain ⟨ts, h1, h2, h3⟩ := h
  exact ⟨ts, s _ _ h1, h2, fun t ht => s _ _ (h3 t ht)⟩
def spParts (K : PySem.W.Frag) : Sp := fun vs H Q _ => ∃ (a : Addr) (l : List Nat), vs = [.ref a] ∧ SqT K H a (nV l) ∧ l.length ≤ 6 ∧ ∀ p H', H p = none → Same H H' → ItsL H' p ((partsF l).drop 1) → Q (.ref p) H'
/-- what checked_names turns back, and what it says -/
def CkBad (K : PySem.W.Frag) (H : Hp) (x : V) (v : V) : Prop := (∃ tn, Sm K H x tn ∧ (tn == "list" || tn == "tuple") = false ∧ v = .int (-1)) ∨ (∃ (a : Addr) (xs : List V), x = .ref a ∧ SqX K H a xs ∧ xs.length < 2 ∧ v = .int (-1)) ∨
  ∃ (a : Addr) (ks : List Nat) (tn : String) (rest : List V), x = .ref a ∧ SqX K H a (nV ks ++ v :: rest) ∧ ks.Nodup ∧ ks.length ≤ 1000 ∧ 1 ≤ ks.length ∧ Sm K H v tn ∧ (isN v = false ∨ ∃ c : Nat, v = .int (c : Int) ∧ c ∈ ks)
theorem CkBad.keep {K : PySem.W.Frag} {H H' : Hp} {x v : V} (h : CkBad K H x v) (s : Same H H') : CkBad K H' x v := by
  rcases h with ⟨tn, h1, h2⟩ | ⟨a, xs, e, h1, h2⟩ | ⟨a, ks, tn, rest, e, h1, h2, h3, h4, h5, h6⟩
  · exact .inl ⟨tn, sm_ext s h1, h2⟩
  · exact .inr (.inl ⟨a, xs, e, h1.keep s, h2⟩)
  · exact .inr (.inr ⟨a, ks, tn, rest, e, h1.keep s, h2, h3, h4, sm_ext s h5, h6⟩)
/-- what checked_names is handed, and what comes of it -/
def CkIn (K : PySem.W.Frag) (CN CM : Addr) (H : Hp) (x : V) (E : XK) (ok : List Nat → Nat → Prop) : Prop := (∃ v, CkBad K H x v ∧ rsd CN "name" v H E) ∨
  (∃ (a : Addr) (ks : List Nat), x = .ref a ∧ SqX K H a (nV ks) ∧ ks.Nodup ∧ 5 < ks.length ∧ ks.length ≤ 1000 ∧ rsd CM "word" (.str "names") H E) ∨
  ∃ (a : Addr) (ks : List Nat) (n : Nat), x = .ref a ∧ SqL K H a (nV ks) ∧ ks.Nodup ∧ 2 ≤ ks.length ∧ ks.length ≤ 5 ∧ (∀ c ∈ ks, c < n) ∧ ok ks n
def spCk (K : PySem.W.Frag) (CN CM : Addr) : Sp := fun vs H Q E => ∃ x, vs = [x, .int 2, .int 5] ∧ CkIn K CN CM H x E fun ks n => ∀ t H', Same H H' → H' t = some (.tup (nV (inOrder n ks))) → Q (.ref t) H'
section
variable {P : Program} {w : World} {K : PySem.W.Frag} {mg : Str → Option Value} {base : Heap} {CN CR CM : Addr}
theorem scParts : FnScope ["row", "parts", "entry", "part"] ["row"] (defScope sPartsOf) := ⟨rfl, rfl, rfl, by decide +kernel, rfl, by decide +kernel, by decide +kernel⟩
theorem ok_parts {f : Addr} {fd : FuncData} (F : Fun K "parts_of" "parts_of" sPartsOf f fd) : FnOk P w K mg base (L2.CX P w) 1 f fd ["row"] (spParts K) := by
  refine F.okX scParts (fun vs H Q E h => ?_) (fun cdv A outer s H vs Q E hr h => ?_)
  · obtain ⟨a, l, rfl, _⟩ := h
    rfl
  obtain ⟨a, l, rfl, ha, hl, k⟩ := h
  have sc := scParts
  refine ⟨_, (pss_cons (ps_set (i := 1) sc.nd rfl (Or.inl rfl) (pe_lst (pa_cons (pe_tup pa_nil) pa_nil)))
      (pss_cons (ps_for (passes_of rfl) rfl (pi_tup (pv 0)) (pg_name (i := 2) sc.nd rfl (Or.inr rfl)) (pss_one (ps_set (i := 1) sc.nd rfl (Or.inl rfl) (pe_op op_cat (pv 1) (pe_lc (own := [("part", 3)]) (g := gName 3) (tt := tYes) rfl sc.nd (pi_list (pv 1)) (blkOk_by (own := [("part", 3)]) (N := ["row", "parts", "entry", "part"]) (sc := defScope sPartsOf) (by decide +kernel)) (fun _ _ _ _ _ => pg_name (i := 3) sc.nd rfl (Or.inl rfl)) (fun _ _ _ _ _ => pts_nil) (fun _ _ _ _ _ => (pe_op (catA K) (pv 3) (pe_tup (pa_cons (pv 2) pa_nil)))))))))
      (pss_one (ps_ret (pe_slice sl_list (pv 1) (po_some pe_int) po_none))))), ?_⟩
  walk_at "go"
  refine ⟨by show 0 ≤ sizeLine; decide, fun t0 ht0 => ?_⟩
  walk_at "go"
  refine ⟨by show 1 ≤ sizeLine; decide, fun p0 hp0 => ?_⟩
  have s2 := (same_new (o := .tup []) ht0).trans (same_new (o := .lst [.ref t0]) hp0)
  have h2 : ItsL (upd (upd H t0 (.tup [])) p0 (.lst [.ref t0])) p0 (partsF (l.take 0)) := ⟨[(t0, [])], upd_same, rfl, fun t ht => by
    rw [List.mem_singleton.mp ht]
    exact (same_new hp0) _ _ upd_same⟩
  generalize upd (upd H t0 (.tup [])) p0 (.lst [.ref t0]) = H2 at s2 h2 ⊢
  walk_at "go"
  refine r_tupK (same_tup s2 ha) ?_
  refine r_forT (xs := nV l) (fun i σ H' => ∃ p1 v2 v3, σ = [some (.ref a), some (.ref p1), v2, v3] ∧ Same H H' ∧ ItsL H' p1 (partsF (l.take i))) ⟨p0, none, none, rfl, s2, h2⟩ (fun i σ H' hi p => same_tup p.choose_spec.choose_spec.choose_spec.2.1 ha) ?_ ?_
  · rintro i x σ H3 hx ⟨p1, v2, v3, rfl, s3, ts, h3, ets, hts⟩
    obtain ⟨c, hc, rfl⟩ := nV_at hx
    have hi : i < l.length := (List.getElem?_eq_some_iff.mp hc).1
    have etk : l.take (i + 1) = l.take i ++ [c] := by rw [List.take_add_one, hc]; rfl
    have epf : partsF (l.take (i + 1)) = prtS (partsF (l.take i)) c := by
      rw [etk]
      unfold partsF
      rw [List.foldl_append]
      rfl
    have elen : ts.length ≤ 64 := by
      have e1 := congrArg List.length ets
      rw [List.length_map, parts_len, List.length_take] at e1
      have : 2 ^ min i l.length ≤ 2 ^ 6 := Nat.pow_le_pow_right (by decide) (by omega)
      omega
    have eit : ∀ t ∈ ts, t.2.length ≤ 6 := fun t ht => by
      have : t.2 ∈ partsF (l.take i) := by rw [← ets]; exact List.mem_map.mpr ⟨t, ht, rfl⟩
      have := (parts_mem.mp this).length_le
      rw [List.length_take] at this
      omega
    walk_at "go"
    refine r_lstK (SqL.of h3) ?_
    refine (r_lcPm ts (fun t => V.ref t.1) (fun t => [some (.ref a), some (.ref p1), some (.int (c : Int)), some (.ref t.1)]) (fun t y H => ∃ q, y = .ref q ∧ H q = some (.tup (nV (t.2 ++ [c])))) (fun t v Dl zs H H' h1 h2 h3 => ?_) (fun t v H H' s h => ?_) (by omega) (.inl (SqL.of h3)) (fun t ht H4 s4 k2 hk2 => ?_) (fun t => rfl) (fun t ht H4 s4 Q y => ?_) fun p ys H4 hp s4 hys hlen hat => ?_).2.1 (SqL.of h3)
    · obtain ⟨q, e1, e2⟩ := h2
      exact ⟨q, e1, h3 _ _ (fun z => by rw [z, h1] at e2; cases e2) e2⟩
    · obtain ⟨q, e1, e2⟩ := h
      exact ⟨q, e1, s _ _ e2⟩
    · exact hk2
    · walk_at "go"
      refine ⟨by show 1 ≤ sizeLine; decide, fun q hq => ?_⟩
      have sq := same_new (o := .tup [.int (c : Int)]) hq
      have hlt : (nV t.2).length + [V.int (c : Int)].length ≤ sizeLine := Nat.le_trans (m := 7) (by
        rw [nV_len, List.length_singleton]
        have := eit t ht
        omega) (by decide)
      refine ⟨t.1, q, nV t.2, [.int (c : Int)], rfl, rfl, SqT.of (sq _ _ (s4 _ _ (hts t ht))), SqT.of upd_same, hlt, fun e => ?_, fun _ e => (by cases e), fun _ _ p hp => ?_⟩
      · refine y _ _ sq ⟨q, rfl, ?_⟩
        rw [upd_same, nV_append, e]
        rfl
      · refine y _ _ (sq.trans (same_new hp)) ⟨p, rfl, ?_⟩
        rw [upd_same, nV_append]
        rfl
    obtain ⟨bs, rfl, ekb, hbs⟩ := collect (ka := fun t : Addr × List Nat => t.2 ++ [c]) (kb := Prod.snd) (vb := fun b : Addr × List Nat => V.ref b.1) (At := fun b : Addr × List Nat => H4 b.1 = some (.tup (nV b.2))) ts ys hlen fun i t y h1 h2 => by
      obtain ⟨q, e1, e2⟩ := hat i t y h1 h2
      exact ⟨(q, t.2 ++ [c]), e1, rfl, e2⟩
    have hbl : bs.length = ts.length := by rw [← hlen, List.length_map]
    refine r_catL (s4 _ _ h3) hys (by rw [List.length_map, List.length_map]; omega) fun p5 hp5 => ?_
    have s5 := same_new (o := .lst (ts.map (fun t => V.ref t.1) ++ bs.map fun b => V.ref b.1)) hp5
    refine ⟨p5, _, _, rfl, s3.trans (s4.trans s5), ts ++ bs, by rw [upd_same, List.map_append], ?_, fun t ht => s5 _ _ ?_⟩
    · rw [epf, List.map_append, ekb, ets]
      unfold prtS
      rw [← ets, List.map_map]
      rfl
    · rcases List.mem_append.mp ht with ht | ht
      · exact s4 _ _ (hts t ht)
      · exact hbs t ht
  · rintro σ H3 ⟨p1, v2, v3, rfl, s3, ts, h3, ets, hts⟩
    rw [nV_len, List.take_length] at ets
    walk_at "go"
    refine ⟨p1, _, rfl, SqL.of h3, fun p5 hp5 => ?_⟩
    have s5 := same_new (o := .lst (cutV (ts.map fun t => V.ref t.1) (some 1) none)) hp5
    refine k p5 _ (none_of_same s3 hp5) (s3.trans s5) ⟨ts.drop 1, ?_, ?_, fun t ht => s5 _ _ (hts t (List.mem_of_mem_drop ht))⟩
    · rw [upd_same, cut_one, List.map_drop]
    · rw [List.map_drop, ets]
theorem scCk : FnScope ["names", "least", "most", "earlier", "entry"] ["names", "least", "most"] (defScope sChecked) := ⟨rfl, rfl, rfl, by decide +kernel, rfl, by decide +kernel, by decide +kernel⟩
theorem ok_ck {f : Addr} {fd : FuncData} (F : Fun K "checked_names" "checked_names" sChecked f fd) (T : Errs P w K mg CN CR CM) (m_len : mg "len" = none) (m_tuple : mg "tuple" = none) (m_sorted : mg "sorted" = none) (D_isrow : Fok P w K mg base 1 "is_row" ["thing"] (spThing K fun _ n => n == "list" || n == "tuple"))
    (D_isnat : Fok P w K mg base 2 "is_natural" ["thing"] (spThing K fun v _ => isN v)) : FnOk P w K mg base (L2.CX P w) 3 f fd ["names", "least", "most"] (spCk K CN CM) := by
  refine F.okX scCk (fun vs H Q E h => ?_) (fun cdv A outer s H vs Q E hr h => ?_)
  · obtain ⟨x, rfl, _⟩ := h
    rfl
  obtain ⟨x, rfl, h⟩ := h
  obtain ⟨fI, TN, RN⟩ := T.nm
  obtain ⟨fM, TM, RM⟩ := T.nw
  have sc := scCk
  have hu := hu_of hr
  refine ⟨_, (pss_cons (ps_if (PW.pt (pw_or (pt_not (pt_val (pe_f D_isrow (hr.mono (by decide)) (pa_cons (pv 0) pa_nil)))) (pw_or1 (pt_cmpR op_lt (pe_callB (lenK K) (by rfl) m_len PySem.boot_len (pa_cons (pv 0) pa_nil)) (pv 1) (nomark _))))) (pss_one (ps_raise rfl (takes_of rfl rfl rfl rfl) (pmk_er (k := 0) (okV := fun _ => True) TN RN (fun _ _ _ _ => trivial) (hr.mono (by decide)) (by rfl) T.gN (pa_cons (pe_un un_neg pe_int) pa_nil)))) pss_nil)
      (pss_cons (ps_set (i := 3) sc.nd rfl (Or.inl rfl) pe_dnewK)
      (pss_cons (ps_for (passes_of rfl) rfl (pi_seq (pv 0)) (pg_name (i := 4) sc.nd rfl (Or.inl rfl)) (pss_cons (ps_if (PW.pt (pw_or (pt_not (pt_val (pe_f D_isnat (hr.mono (by decide)) (pa_cons (pv 4) pa_nil)))) (pw_or1 (pt_cmp (pc_din hu (pv 4) (pv 3)))))) (pss_one (ps_raise rfl (takes_of rfl rfl rfl rfl) (pmk_er (k := 0) (okV := fun _ => True) TN RN (fun _ _ _ _ => trivial) (hr.mono (by decide)) (by rfl) T.gN (pa_cons (pv 4) pa_nil)))) pss_nil)
      (pss_one (ps_dput hu (pv 3) (pv 4) pe_bl rfl))))
      (pss_cons (ps_if (pt_cmpR op_gt (pe_callB (lenK K) (by rfl) m_len PySem.boot_len (pa_cons (pv 0) pa_nil)) (pv 2) (nomark _)) (pss_one (ps_raise rfl (takes_of rfl rfl rfl rfl) (pmk_er (k := 0) (okV := fun v => ∃ x : Str, v = .str x ∧ x.length ≤ 1000) TM RM (fun v u r hv => by obtain ⟨x, rfl, hl⟩ := hv; obtain ⟨t, rfl⟩ := r; exact ⟨x, t, rfl, hl⟩) (hr.mono (by decide)) (by rfl) T.gM (pa_cons pe_str pa_nil)))) pss_nil)
      (pss_one (ps_ret (pe_callTy (tupOK K) (by rfl) m_tuple (by decide +kernel) (pa_cons (pe_callB cr_sorted (by rfl) m_sorted (by decide +kernel) (pa_cons (pv 0) pa_nil)) pa_nil)))))))), ?_⟩
  walk_at "go"
  rcases h with ⟨v, ⟨tn, hS, hno, rfl⟩ | ⟨a, xs, rfl, ha, hl2, rfl⟩ | ⟨a, ks, tn, rest, rfl, ha, hnd, h1000, h1, hv, hvb⟩, hr9⟩ | ⟨a, ks, rfl, ha, hnd, h5, h1000, hr9⟩ | ⟨a, ks, n, rfl, ha, hnd, h2, h5, hlt, k⟩
  · refine ⟨x, tn, rfl, hS, fun H1 s1 => ?_⟩
    walk_at "go"
    rw [hno]
    refine iteT ?_
    walk_at "go"
    exact r_mkK (okV := fun _ => True) trivial fun d hd => rsd_new hr9 s1 hd
  · obtain ⟨tn2, hS, hy⟩ := ha.sm
    refine ⟨.ref a, tn2, rfl, hS, fun H1 s1 => ?_⟩
    walk_at "go"
    rw [hy]
    refine iteF ?_
    walk_at "go"
    refine r_lenX (ha.keep s1) ?_
    walk_at "go"
    refine ite_yes (decide_eq_true (by omega)) ?_
    walk_at "go"
    exact r_mkK (okV := fun _ => True) trivial fun d hd => rsd_new hr9 s1 hd
  · obtain ⟨tn2, hS, hy⟩ := ha.sm
    refine ⟨.ref a, tn2, rfl, hS, fun H1 s1 => ?_⟩
    walk_at "go"
    rw [hy]
    refine iteF ?_
    walk_at "go"
    refine r_lenX (ha.keep s1) ?_
    rw [List.length_append, nV_len, List.length_cons]
    walk_at "go"
    refine ite_no (decide_eq_false (by omega)) ?_
    walk_at "go"
    intro d hd
    have hd0 : H d = none := none_of_same s1 hd
    have s2 := s1.trans (same_new (o := .dK []) hd)
    have hd2 : (upd H1 d (.dK [])) d = some (.dK (kvT [])) := upd_same
    generalize upd H1 d (.dK []) = H2 at s2 hd2 ⊢
    walk_at "go"
    refine r_seqI ?_
    walk_at "go"
    refine r_forX ha s2 (fun i σ H' => ∃ v4, σ = [some (.ref a), some (.int 2), some (.int 5), some (.ref d), v4] ∧ Same H H' ∧ H' d = some (.dK (kvT (ks.take i))) ∧ i ≤ ks.length) ⟨none, rfl, s2, hd2, Nat.zero_le _⟩ (fun i σ H' hi p => p.choose_spec.2.1) ?_ ?_
    · rintro i y σ H3 hy3 ⟨v4, rfl, s3, h3, hi⟩
      walk_at "go"
      rcases Nat.lt_or_ge i ks.length with hlt | hge
      · rw [List.getElem?_append_left (by rw [nV_len]; exact hlt)] at hy3
        obtain ⟨c, hc, rfl⟩ := nV_at hy3
        have hcn : c ∉ ks.take i := fun z => by
          rw [← List.take_append_drop i ks] at hnd
          refine (List.nodup_append.mp hnd).2.2 c z c ?_ rfl
          refine List.mem_of_getElem? (i := 0) ?_
          rw [List.getElem?_drop]
          exact hc
        refine ⟨.int (c : Int), "int", rfl, .int _, fun H4 s4 => ?_⟩
        walk_at "go"
        rw [isN_nat]
        refine iteF ?_
        walk_at "go"
        refine r_dinK (.inl (s4 _ _ h3)) ?_
        walk_at "go"
        refine ite_no (by rw [kvT_val]; exact decide_eq_false hcn) ?_
        walk_at "go"
        have hval : valV (kvT (ks.take i)) (Sum.inl (c : Int)) = none := by
          have := kvT_val c (ks.take i)
          rw [decide_eq_false hcn] at this
          cases e2 : valV (kvT (ks.take i)) (Sum.inl (c : Int)) with
          | none => rfl
          | some v => rw [e2] at this; cases this
        refine r_dputK (s4 _ _ h3) (Nat.lt_of_le_of_lt (m := 1000) (by
          rw [List.length_map, List.length_take]
          omega) (by decide)) ?_
        rw [putK_new _ hval]
        refine ⟨_, rfl, fun z o q => ?_, ?_, hlt⟩
        · rw [upd_ne (ne_of_none q hd0)]
          exact s4 _ _ (s3 _ _ q)
        · have et2 : ks.take (i + 1) = ks.take i ++ [c] := by rw [List.take_add_one, hc]; rfl
          rw [upd_same, et2, kvT_snoc]
      · have ei : i = ks.length := by omega
        subst ei
        rw [List.getElem?_append_right (by rw [nV_len]; exact Nat.le_refl _), nV_len, Nat.sub_self] at hy3
        have hy3 : v = y := Option.some.inj hy3
        subst hy3
        rw [List.take_length] at h3
        refine ⟨v, tn, rfl, sm_ext s3 hv, fun H4 s4 => ?_⟩
        walk_at "go"
        rcases hvb with hvb | ⟨c, rfl, hc⟩
        · rw [hvb]
          refine iteT ?_
          walk_at "go"
          exact r_mkK (okV := fun _ => True) trivial fun d hd => rsd_new hr9 (s3.trans s4) hd
        · rw [isN_nat]
          refine iteF ?_
          walk_at "go"
          refine r_dinK (.inl (s4 _ _ h3)) ?_
          walk_at "go"
          refine ite_yes (by rw [kvT_val]; exact decide_eq_true hc) ?_
          walk_at "go"
          exact r_mkK (okV := fun _ => True) trivial fun d hd => rsd_new hr9 (s3.trans s4) hd
    · rintro σ H3 ⟨v4, rfl, s3, h3, hi⟩
      exfalso
      rw [List.length_append, nV_len, List.length_cons] at hi
      omega
  · obtain ⟨tn2, hS, hy⟩ := ha.sm
    refine ⟨.ref a, tn2, rfl, hS, fun H1 s1 => ?_⟩
    walk_at "go"
    rw [hy]
    refine iteF ?_
    walk_at "go"
    refine r_lenX (ha.keep s1) ?_
    rw [nV_len]
    walk_at "go"
    refine ite_no (decide_eq_false (by omega)) ?_
    walk_at "go"
    intro d hd
    have hd0 : H d = none := none_of_same s1 hd
    have s2 := s1.trans (same_new (o := .dK []) hd)
    have hd2 : (upd H1 d (.dK [])) d = some (.dK (kvT [])) := upd_same
    generalize upd H1 d (.dK []) = H2 at s2 hd2 ⊢
    walk_at "go"
    refine r_seqI ?_
    walk_at "go"
    refine r_forX ha s2 (fun i σ H' => ∃ v4, σ = [some (.ref a), some (.int 2), some (.int 5), some (.ref d), v4] ∧ Same H H' ∧ H' d = some (.dK (kvT (ks.take i)))) ⟨none, rfl, s2, hd2⟩ (fun i σ H' hi p => p.choose_spec.2.1) ?_ ?_
    · rintro i y σ H3 hy3 ⟨v4, rfl, s3, h3⟩
      walk_at "go"
      obtain ⟨c, hc, rfl⟩ := nV_at hy3
      have hik : i < ks.length := (List.getElem?_eq_some_iff.mp hc).1
      have hcn : c ∉ ks.take i := fun z => by
        rw [← List.take_append_drop i ks] at hnd
        refine (List.nodup_append.mp hnd).2.2 c z c ?_ rfl
        refine List.mem_of_getElem? (i := 0) ?_
        rw [List.getElem?_drop]
        exact hc
      refine ⟨.int (c : Int), "int", rfl, .int _, fun H4 s4 => ?_⟩
      walk_at "go"
      rw [isN_nat]
      refine iteF ?_
      walk_at "go"
      refine r_dinK (.inl (s4 _ _ h3)) ?_
      walk_at "go"
      refine ite_no (by rw [kvT_val]; exact decide_eq_false hcn) ?_
      walk_at "go"
      have hval : valV (kvT (ks.take i)) (Sum.inl (c : Int)) = none := by
        have := kvT_val c (ks.take i)
        rw [decide_eq_false hcn] at this
        cases e2 : valV (kvT (ks.take i)) (Sum.inl (c : Int)) with
        | none => rfl
        | some v => rw [e2] at this; cases this
      refine r_dputK (s4 _ _ h3) (Nat.lt_of_le_of_lt (m := 1000) (by
        rw [List.length_map, List.length_take]
        omega) (by decide)) ?_
      rw [putK_new _ hval]
      refine ⟨_, rfl, fun z o q => ?_, ?_⟩
      · rw [upd_ne (ne_of_none q hd0)]
        exact s4 _ _ (s3 _ _ q)
      · have et2 : ks.take (i + 1) = ks.take i ++ [c] := by rw [List.take_add_one, hc]; rfl
        rw [upd_same, et2, kvT_snoc]
    rintro σ H3 ⟨v4, rfl, s3, h3⟩
    walk_at "go"
    refine r_lenX (ha.keep s3) ?_
    rw [nV_len]
    walk_at "go"
    refine ite_yes (decide_eq_true (by omega)) ?_
    walk_at "go"
    exact r_mkK (okV := fun v => ∃ x : Str, v = .str x ∧ x.length ≤ 1000) ⟨_, rfl, by decide⟩ fun d hd => rsd_new hr9 s3 hd
  · have haL := ha
    replace ha : SqX K H a (nV ks) := .inl haL
    have h1000 : ks.length ≤ 1000 := by omega
    obtain ⟨tn2, hS, hy⟩ := ha.sm
    refine ⟨.ref a, tn2, rfl, hS, fun H1 s1 => ?_⟩
    walk_at "go"
    rw [hy]
    refine iteF ?_
    walk_at "go"
    refine r_lenX (ha.keep s1) ?_
    rw [nV_len]
    walk_at "go"
    refine ite_no (decide_eq_false (by omega)) ?_
    walk_at "go"
    intro d hd
    have hd0 : H d = none := none_of_same s1 hd
    have s2 := s1.trans (same_new (o := .dK []) hd)
    have hd2 : (upd H1 d (.dK [])) d = some (.dK (kvT [])) := upd_same
    generalize upd H1 d (.dK []) = H2 at s2 hd2 ⊢
    walk_at "go"
    refine r_seqI ?_
    walk_at "go"
    refine r_forX ha s2 (fun i σ H' => ∃ v4, σ = [some (.ref a), some (.int 2), some (.int 5), some (.ref d), v4] ∧ Same H H' ∧ H' d = some (.dK (kvT (ks.take i)))) ⟨none, rfl, s2, hd2⟩ (fun i σ H' hi p => p.choose_spec.2.1) ?_ ?_
    · rintro i y σ H3 hy3 ⟨v4, rfl, s3, h3⟩
      walk_at "go"
      obtain ⟨c, hc, rfl⟩ := nV_at hy3
      have hik : i < ks.length := (List.getElem?_eq_some_iff.mp hc).1
      have hcn : c ∉ ks.take i := fun z => by
        rw [← List.take_append_drop i ks] at hnd
        refine (List.nodup_append.mp hnd).2.2 c z c ?_ rfl
        refine List.mem_of_getElem? (i := 0) ?_
        rw [List.getElem?_drop]
        exact hc
      refine ⟨.int (c : Int), "int", rfl, .int _, fun H4 s4 => ?_⟩
      walk_at "go"
      rw [isN_nat]
      refine iteF ?_
      walk_at "go"
      refine r_dinK (.inl (s4 _ _ h3)) ?_
      walk_at "go"
      refine ite_no (by rw [kvT_val]; exact decide_eq_false hcn) ?_
      walk_at "go"
      have hval : valV (kvT (ks.take i)) (Sum.inl (c : Int)) = none := by
        have := kvT_val c (ks.take i)
        rw [decide_eq_false hcn] at this
        cases e2 : valV (kvT (ks.take i)) (Sum.inl (c : Int)) with
        | none => rfl
        | some v => rw [e2] at this; cases this
      refine r_dputK (s4 _ _ h3) (Nat.lt_of_le_of_lt (m := 1000) (by
        rw [List.length_map, List.length_take]
        omega) (by decide)) ?_
      rw [putK_new _ hval]
      refine ⟨_, rfl, fun z o q => ?_, ?_⟩
      · rw [upd_ne (ne_of_none q hd0)]
        exact s4 _ _ (s3 _ _ q)
      · have et2 : ks.take (i + 1) = ks.take i ++ [c] := by rw [List.take_add_one, hc]; rfl
        rw [upd_same, et2, kvT_snoc]
    rintro σ H3 ⟨v4, rfl, s3, h3⟩
    walk_at "go"
    refine r_lenX (ha.keep s3) ?_
    rw [nV_len]
    walk_at "go"
    refine ite_no (decide_eq_false (by omega)) ?_
    walk_at "go"
    have pm := perm_inOrder hnd hlt
    refine r_sorted (ks := ks.map fun (i : Nat) => (i : Int)) (ss := (inOrder n ks).map fun (i : Nat) => (i : Int)) (by rw [← ints_nV]; exact s3.seq haL) (by rw [List.length_map]; omega) (pm.map _) (range_up _ _) fun p5 hp5 => ?_
    rw [← ints_nV]
    walk_at "go"
    refine r_tupL (SqL.of upd_same) fun t6 ht6 => ?_
    exact k t6 _ (s3.trans ((same_new hp5).trans (same_new ht6))) upd_same
end
end K9
namespace L2
open PySem PySem.Spec PyProof.Rows GenW
theorem Fun.gok {P : Program} {w : World} {K : PySem.W.Frag} {mg : Str → Option Value} {base : Heap} {x qual : Str} {st : Stmt} {f : Addr} {fd : FuncData} {N ps : List Str} {k : Nat} {sp : SpG} (F : Fun K x qual st f fd) (S : GScope N ps (defScope st)) (len : ∀ vs H Q E, sp vs H Q E → vs.length = ps.length)
    (hbody : ∀ (cdv : Value) (A : Around) (outer : List Env) (s : Shared) (H : Hp) (vs : List V) (Q : List V → Hp → Prop) (E : XK) (pn : List (Addr × Obj)), Room k (A.deeper (envOfC qual (defScope st) s.heap.objs.size f cdv)) → sp vs H Q E →
      ∃ t, GSs (gcxOf P w K mg base N qual (defScope st) f cdv A outer s H E pn) (defBody st) t ∧ t { nx := fun ys _ H' => Q ys H', rt := fun ys v H' => v = .non ∧ Q ys H' } [] (start N vs) H) : GFn P w K mg base (k + 1) f fd ps sp := by
  obtain ⟨oc, od, kV, doc, pm, an, cdv, ct, osl, rfl, lk, hcd⟩ := F.ex
  exact gfn_of lk hcd S len fun A outer s H vs Q E pn hr hsp => hbody cdv A outer s H vs Q E pn hr hsp
end L2
namespace K9
open PySem L2 Er K7M
theorem gok {P : Program} {w : World} {K : PySem.W.Frag} {mg : Str → Option Value} {base : Heap} {x qual : Str} {st : Stmt} {f : Addr} {fd : FuncData} {ps : List Str} {k : Nat} {sp : SpG} (F : Fun K x qual st f fd) (hm : mg x = some (.ref f)) (b : Binds K fd ps []) (h : GFn P w K mg base k f fd ps sp) : Gok P w K mg base k x ps sp := ⟨f, fd, hm, F.kp, b, h⟩
section
variable {K : PySem.W.Frag} {D : GEnds} {ys : List V} {σ : L2.St} {H : Hp}
theorem r_gthen {t u : TGn} (h : t { D with nx := fun ys' σ' H' => u D ys' σ' H' } ys σ H) : tGThen t u D ys σ H := h
theorem r_gplain {t : TS} (h : t (D.at ys) σ H) : tPlain t D ys σ H := h
theorem r_gnil (h : D.nx ys σ H) : tG0 D ys σ H := h
theorem r_gyield {te : TE} (hl : ys.length < sizeLine) (h : te σ H fun x H1 => D.nx (ys ++ [x]) σ H1) : tGYield te D ys σ H := ⟨hl, h⟩
/-- for x in xs, in a generator def: all that it has yielded with it -/
theorem r_gforL {g : TG} {tb : TGn} {a : Addr} {xs : List V} (Pv : Nat → List V → L2.St → Hp → Prop) (h0 : Pv 0 ys σ H) (hG : ∀ i ys σ H, i ≤ xs.length → Pv i ys σ H → SqL K H a xs)
    (hs : ∀ i x ys σ H, xs[i]? = some x → Pv i ys σ H → g x σ H fun σ2 H2 => tb { D with nx := Pv (i + 1), ct := Pv (i + 1), bk := D.nx } ys σ2 H2) (hd : ∀ ys σ H, Pv xs.length ys σ H → D.nx ys σ H) :
    ∃ W : Nat → Nat → List V → L2.St → Hp → Prop, (∃ m, W 0 m ys σ H) ∧ ∀ i m ys σ H, W i m ys σ H →
      ((Itl K a).stop i H ∧ D.nx ys σ H) ∨ ((Itl K a).go i H ∧ ∃ N : List V → L2.St → Hp → Prop, (∀ ys' σ' H', N ys' σ' H' → ∃ m', m' < m ∧ W (i + 1) m' ys' σ' H') ∧ ∀ x H', (Itl K a).yld i H x H' → g x σ H' fun σ2 H2 => tb { D with nx := N, ct := N, bk := D.nx } ys σ2 H2) := by
  refine ⟨fun i m ys σ H => m = xs.length - i ∧ i ≤ xs.length ∧ Pv i ys σ H, ⟨xs.length, by simp, Nat.zero_le _, h0⟩, ?_⟩
  rintro i m ys σ H ⟨rfl, hi, p⟩
  have q := hG i ys σ H hi p
  by_cases hlt : i < xs.length
  · refine .inr ⟨walk_list.goes i H hlt q, Pv (i + 1), fun ys' σ' H' p' => ⟨xs.length - (i + 1), by omega, rfl, hlt, p'⟩, fun x H' y => ?_⟩
    obtain ⟨rfl, hx⟩ := walk_list.yields i H x H' hlt q y
    exact hs i x ys σ H' hx p
  · have e : i = xs.length := by omega
    subst e
    exact .inl ⟨walk_list.stops H q, hd ys σ H p⟩
theorem r_gfor {wi : TI} {g : TG} {tb : TGn} (h : wi σ H fun J H1 => ∃ W : Nat → Nat → List V → L2.St → Hp → Prop, (∃ m, W 0 m ys σ H1) ∧ ∀ i m ys σ H, W i m ys σ H →
  (J.stop i H ∧ D.nx ys σ H) ∨ (J.go i H ∧ ∃ N : List V → L2.St → Hp → Prop, (∀ ys' σ' H', N ys' σ' H' → ∃ m', m' < m ∧ W (i + 1) m' ys' σ' H') ∧ ∀ x H', J.yld i H x H' → g x σ H' fun σ2 H2 => tb { D with nx := N, ct := N, bk := D.nx } ys σ2 H2)) : tGFor wi g tb D ys σ H := h
end
/-! rows of pairs, and the waiting rounds -/
theorem alike_pairD (x y : Nat × List Nat) : PySem.W.alike (pairD x) (pairD y) = true := by
  simp [pairD, namesD, PySem.W.alike, PySem.W.alikeAll, PySem.W.alike_ints, -List.map_map]
def rowD (ls : List (Nat × List Nat)) : PyData := .tuple (ls.map pairD)
theorem alike_pairs : ∀ a b : List (Nat × List Nat), PySem.W.alikeAll (a.map pairD) (b.map pairD) = true
  | [], _ => by simp [PySem.W.alikeAll]
  | _ :: _, [] => by simp [PySem.W.alikeAll]
  | x :: xs, y :: ys => by
    rw [List.map_cons, List.map_cons, PySem.W.alikeAll, alike_pairs xs ys, alike_pairD]
    rfl
theorem alike_rowD (a b : List (Nat × List Nat)) : PySem.W.alike (rowD a) (rowD b) = true := by
  unfold rowD
  rw [PySem.W.alike]
  exact alike_pairs a b
theorem depth_rowD (ls : List (Nat × List Nat)) : (rowD ls).depth ≤ 16 := by
  have := (okd_pairs ls).2
  show (PyData.tuple (ls.map pairD)).depth ≤ 16
  omega
def leW : List (Nat × List Nat) → List (Nat × List Nat) → Bool := PySem.W.dataLe false rowD
def oth (ws : List Nat) (late : Nat) : List Nat := ws.filter fun c => !decide (c = late)
def fullR (ws : List Nat) : List (Nat × List Nat) := ws.map fun c => (c, ws)
def lateR (ws o e : List Nat) : List (Nat × List Nat) := ws.map fun c => (c, if c ∈ e then o else ws)
def lates (ws : List Nat) (late : Nat) : List (List (Nat × List Nat)) := ((partsF (oth ws late)).drop 1).map fun e => lateR ws (oth ws late) e
def rowsF (ws : List Nat) : List (List (Nat × List Nat)) := fullR ws :: ws.flatMap (lates ws)
def WR (ws : List Nat) : List (List (Nat × List Nat)) := (rowsF ws).mergeSort leW
theorem oth_len {ws : List Nat} {late : Nat} (nd : ws.Nodup) (h : late ∈ ws) : (oth ws late).length + 1 = ws.length := by
  unfold oth
  induction ws with
  | nil => cases h
  | cons c ws ih =>
    obtain ⟨n1, n2⟩ := List.nodup_cons.mp nd
    rw [List.filter_cons]
    by_cases e : c = late
    · subst e
      rw [if_neg (by simp)]
      rw [List.filter_eq_self.mpr fun d hd => ?_]
      · rfl
      · simp only [Bool.not_eq_eq_eq_not, Bool.not_true, decide_eq_false_iff_not]
        exact fun z => n1 (z ▸ hd)
    · rw [if_pos (by simp [e]), List.length_cons, ih n2 ((List.mem_cons.mp h).resolve_left (Ne.symm e))]
      rfl
theorem lates_len {ws : List Nat} {late : Nat} (nd : ws.Nodup) (h : late ∈ ws) : (lates ws late).length = 2 ^ (ws.length - 1) - 1 := by
  unfold lates
  rw [List.length_map, List.length_drop, parts_len]
  have := oth_len nd h
  congr 2
  omega
theorem rowsF_len {ws : List Nat} (nd : ws.Nodup) : (rowsF ws).length = 1 + ws.length * (2 ^ (ws.length - 1) - 1) := by
  have go : ∀ l : List Nat, (∀ c ∈ l, c ∈ ws) → (l.flatMap (lates ws)).length = l.length * (2 ^ (ws.length - 1) - 1) := fun l => by
    induction l with
    | nil => intro _; simp
    | cons c l ih =>
      intro hl
      rw [List.flatMap_cons, List.length_append, ih fun d hd => hl d (List.mem_cons_of_mem _ hd), lates_len nd (hl c (List.mem_cons_self ..)), List.length_cons, Nat.succ_mul, Nat.add_comm]
  unfold rowsF
  rw [List.length_cons, go ws fun c h => h, Nat.add_comm]
/-- pairs made one by one -/
theorem pairs_at {α : Type} {H : Hp} {ys : List V} {rs : List α} (F : α → Nat × List Nat) (hl : ys.length = rs.length) (h : ∀ (i : Nat) (t : α) (y : V), rs[i]? = some t → ys[i]? = some y → PairAt H y (F t)) : PairsAt H ys (rs.map F) := by
  refine ⟨by rw [hl, List.length_map], fun i y il h1 h2 => ?_⟩
  rw [List.getElem?_map] at h2
  cases e : rs[i]? with
  | none => rw [e] at h2; cases h2
  | some t =>
    rw [e] at h2
    rw [← Option.some.inj h2]
    exact h i t y e h1
/-- rows of pairs -/
def RwsAt (H : Hp) (ts : List (Addr × List (Nat × List Nat))) : Prop := ∀ t ∈ ts, PairsT H t.1 t.2
abbrev rwV (t : Addr × List (Nat × List Nat)) : V := .ref t.1
def RowsLst (H : Hp) (p : Addr) (LS : List (List (Nat × List Nat))) : Prop := ∃ ts : List (Addr × List (Nat × List Nat)), H p = some (.lst (ts.map rwV)) ∧ ts.map (·.2) = LS ∧ RwsAt H ts
def RowsP (H : Hp) (out : List V) (LS : List (List (Nat × List Nat))) : Prop := ∃ ts : List (Addr × List (Nat × List Nat)), out = ts.map rwV ∧ ts.map (·.2) = LS ∧ RwsAt H ts
def leT (a b : Addr × List (Nat × List Nat)) : Bool := leW a.2 b.2
abbrev rwD (t : Addr × List (Nat × List Nat)) : Addr × PyData := (t.1, rowD t.2)
theorem sort_rows (ts : List (Addr × List (Nat × List Nat))) : refsD ((ts.map rwD).mergeSort datLe) = (ts.mergeSort leT).map rwV ∧ (ts.mergeSort leT).map (·.2) = (ts.map (·.2)).mergeSort leW := by
  constructor
  · have e : (ts.mergeSort leT).map rwD = (ts.map rwD).mergeSort datLe := List.map_mergeSort fun a _ b _ => rfl
    rw [← e]
    unfold refsD
    rw [List.map_map]
    rfl
  · exact List.map_mergeSort fun a _ b _ => rfl
/-- sorted(rows) -/
theorem r_sortRows {K : PySem.W.Frag} {H : Hp} {Q : VK} {p : Addr} {LS : List (List (Nat × List Nat))} (h : RowsLst H p LS) (hz : LS.length ≤ 1000) (hne : ∀ ls ∈ LS, ls ≠ []) (q : ∀ p', H p' = none → ∀ H', Same H H' → RowsLst H' p' (LS.mergeSort leW) → Q (.ref p') H') : rSortDat K [.ref p] H Q := by
  obtain ⟨ts, h1, rfl, h3⟩ := h
  have er : ts.map rwV = refsD (ts.map rwD) := by
    unfold refsD
    rw [List.map_map]
    rfl
  refine ⟨p, ts.map rwD, rfl, SqL.of (by rw [← er]; exact h1), fun u hu => ?_, fun d hd d' hd' => ?_, fun u hu => ?_, fun u hu => ?_, by rw [List.length_map] at hz ⊢; exact hz, fun p' hp' => ?_⟩
  · obtain ⟨t, ht, rfl⟩ := List.mem_map.mp hu
    exact dp_pairs (h3 t ht)
  · rw [List.map_map] at hd hd'
    obtain ⟨t, ht, rfl⟩ := List.mem_map.mp hd
    obtain ⟨t', ht', rfl⟩ := List.mem_map.mp hd'
    exact alike_rowD _ _
  · obtain ⟨t, ht, rfl⟩ := List.mem_map.mp hu
    have := hne t.2 (List.mem_map.mpr ⟨t, ht, rfl⟩)
    cases e : t.2 with
    | nil => exact absurd e this
    | cons x r => exact ⟨pairD x, r.map pairD, by show rowD t.2 = _; rw [e]; rfl⟩
  · obtain ⟨t, ht, rfl⟩ := List.mem_map.mp hu
    exact depth_rowD _
  · obtain ⟨e1, e2⟩ := sort_rows ts
    rw [e1]
    have s := same_new (o := .lst ((ts.mergeSort leT).map rwV)) hp'
    refine q p' hp' _ s ⟨ts.mergeSort leT, upd_same, e2, fun t ht => (h3 t ((List.mergeSort_perm _ _).mem_iff.mp ht)).keep s⟩
end K9
namespace K9
open PySem L2 Er K7M GenW
theorem r_tif {σ : L2.St} {H : Hp} {Q : VK} {ta tb : TE} {t : TT} (h : t σ H fun c H1 => if c = true then ta σ H1 Q else tb σ H1 Q) : tIf t ta tb σ H Q := h
/-- one step of a plain reading -/
local macro_rules | `(tactic| walk_at "step") => `(tactic| first
  | with_reducible refine r_seq ?_ | with_reducible refine r_nx ?_ | with_reducible refine r_asgN ?_ | with_reducible refine r_asgS ?_ | with_reducible refine r_asgT ?_ | with_reducible refine r_ifS ?_
  | with_reducible refine r_ret ?_ | with_reducible refine r_retN ?_ | with_reducible refine r_drop ?_ | with_reducible refine r_test ?_ | with_reducible refine r_B ?_ | with_reducible refine r_not ?_
  | with_reducible refine r_and ?_ | with_reducible refine r_or ?_ | with_reducible refine r_andV ?_ | with_reducible refine r_orV ?_ | with_reducible refine r_notV ?_
  | ((with_reducible refine' r_var ?e ?_); (case e => exact rfl)) | with_reducible refine r_c ?_ | with_reducible refine r_op ?_ | with_reducible refine r_un ?_
  | with_reducible refine r_I0 ?_ | with_reducible refine r_eqI ?_ | with_reducible refine r_neI ?_ | with_reducible refine r_bl ?_ | with_reducible refine r_nil ?_ | with_reducible refine r_cons ?_
  | with_reducible refine r_cb ?_ | with_reducible refine r_call ?_ | with_reducible refine r_tup ?_ | with_reducible refine r_lst ?_ | with_reducible refine r_fld ?_ | with_reducible refine r_bm ?_ | with_reducible refine r_bm0 ?_
  | with_reducible refine r_for ?_ | with_reducible refine r_rng ?_ | with_reducible refine r_rng2 ?_ | with_reducible refine r_lstI ?_ | with_reducible refine r_tupI ?_ | with_reducible refine r_lc ?_
  | with_reducible refine r_augS ?_ | with_reducible refine r_ipI ?_
  | with_reducible refine r_meth ?_ | with_reducible refine r_prop ?_ | with_reducible refine r_make ?_ | with_reducible refine r_din ?_ | with_reducible refine r_dnin ?_ | with_reducible refine r_dput ?_ | with_reducible refine r_dget ?_
  | with_reducible refine r_gN ?_ | with_reducible refine r_tsl ?_ | with_reducible refine r_noP ?_ | with_reducible refine r_part ?_ | with_reducible refine r_pI ?_ | with_reducible refine r_tif ?_ | with_reducible refine r_SL ?_ | with_reducible refine r_gC ?_ | with_reducible refine r_U ?_ | with_reducible refine r_sfld ?_ | with_reducible refine r_dnew ?_ | with_reducible refine r_keys ?_
  | with_reducible refine r_mkE ?_ | with_reducible refine iteT ?_ | with_reducible refine iteF ?_
  | with_reducible refine r_int ?_ | with_reducible refine r_min2 ?_ | with_reducible refine r_isN ?_ | with_reducible refine r_notN ?_)
/-- as far as it goes by itself -/
local macro_rules | `(tactic| walk_at "go") => `(tactic| ((repeat walk_at "step"); (try dsimp only)))

def spWR (K : PySem.W.Frag) (CN CM : Addr) : SpG := fun vs H c E => ∃ x, vs = [x] ∧ CkIn K CN CM H x E fun ks n => ∀ out H', Same H H' → RowsP H' out (WR (inOrder n ks)) → c out H'
theorem ckIn_mono {K : PySem.W.Frag} {CN CM : Addr} {H : Hp} {x : V} {E : XK} {ok ok' : List Nat → Nat → Prop} (h : CkIn K CN CM H x E ok) (f : ∀ ks n, ks.Nodup → 2 ≤ ks.length → ks.length ≤ 5 → (∀ c ∈ ks, c < n) → ok ks n → ok' ks n) : CkIn K CN CM H x E ok' := by
  rcases h with h | h | ⟨a, ks, n, e, h1, h2, h3, h4, h5, h6⟩
  · exact .inl h
  · exact .inr (.inl h)
  · exact .inr (.inr ⟨a, ks, n, e, h1, h2, h3, h4, h5, f ks n h2 h3 h4 h5 h6⟩)
theorem ln_flat {α : Type} (f : Nat → List α) (n : Nat) : ∀ l : List Nat, (∀ c ∈ l, (f c).length ≤ n) → (l.flatMap f).length ≤ l.length * n
  | [], _ => by simp
  | c :: l, h => by
    have := ln_flat f n l fun d hd => h d (List.mem_cons_of_mem _ hd)
    have := h c (List.mem_cons_self ..)
    rw [List.flatMap_cons, List.length_append, List.length_cons, Nat.succ_mul]
    omega
section
variable {P : Program} {w : World} {K : PySem.W.Frag} {mg : Str → Option Value} {base : Heap} {CN CR CM : Addr}
theorem scWR : GScope ["names", "ordered", "rows", "late", "others", "early", "row", "name"] ["names"] (defScope sWaiting) := ⟨rfl, rfl, rfl, by decide +kernel, rfl, by decide +kernel, by decide +kernel⟩
/-- one row, made over the names -/
theorem ok_wr {f : Addr} {fd : FuncData} (F : Fun K "waiting_rounds" "waiting_rounds" sWaiting f fd) (m_tuple : mg "tuple" = none) (m_sorted : mg "sorted" = none) {tm : Tok} (m_MOST : mg "MOST_NAMES" = some (.int 5 tm)) (D_ck : Fok P w K mg base 3 "checked_names" ["names", "least", "most"] (spCk K CN CM)) (D_parts : Fok P w K mg base 1 "parts_of" ["row"] (spParts K)) :
    GFn P w K mg base 5 f fd ["names"] (spWR K CN CM) := by
  refine F.gok scWR (fun vs H Q E h => ?_) (fun cdv A outer s H vs Q E pn hr h => ?_)
  · obtain ⟨x, rfl, _⟩ := h
    rfl
  obtain ⟨x, rfl, h⟩ := h
  have sc := scWR
  refine ⟨_, (gss_cons (gs_ps (ps_set (i := 1) sc.nd rfl (Or.inr rfl) (pe_fX D_ck (hr.mono (by decide)) takes_gcx (pa_cons (pv 0) (pa_cons pe_int (pa_cons (pe_glob (v := .int 5) (by rfl) m_MOST ⟨_, rfl⟩) pa_nil))))))
 (gss_cons (gs_ps (ps_set (i := 2) sc.nd rfl (Or.inl rfl) (pe_lst (pa_cons (pe_callTy (tupOK K) (by rfl) m_tuple (by decide +kernel) (pa_cons (pe_lc (own := [("name", 7)]) (g := gName 7) (tt := tYes) rfl sc.nd (pi_tup (pv 1)) (blkOk_by (own := [("name", 7)]) (N := ["names", "ordered", "rows", "late", "others", "early", "row", "name"]) (sc := defScope sWaiting) (by decide +kernel)) (fun _ _ _ _ _ => pg_name (i := 7) sc.nd rfl (Or.inl rfl)) (fun _ _ _ _ _ => pts_nil) (fun _ _ _ _ _ => (pe_tup (pa_cons (pv 7) (pa_cons (pv 1) pa_nil))))) pa_nil)) pa_nil))))
 (gss_cons (gs_ps (ps_for owns_gcx rfl (pi_tup (pv 1)) (pg_name (i := 3) sc.nd rfl (Or.inr rfl)) (pss_cons (ps_set (i := 4) sc.nd rfl (Or.inr rfl) (pe_callTy (tupOK K) (by rfl) m_tuple (by decide +kernel) (pa_cons (pe_lc (own := [("name", 7)]) (g := gName 7)  rfl sc.nd (pi_tup (pv 1)) (blkOk_by (own := [("name", 7)]) (N := ["names", "ordered", "rows", "late", "others", "early", "row", "name"]) (sc := defScope sWaiting) (by decide +kernel)) (fun _ _ _ _ _ => pg_name (i := 7) sc.nd rfl (Or.inl rfl)) (fun _ _ _ _ _ => (pts_one (pt_cmpR op_ne (pv 7) (pv 3) (nomark _)))) (fun _ _ _ _ _ => (pv 7))) pa_nil)))
      (pss_one (ps_for owns_gcx rfl (pi_list (pe_f D_parts (hr.mono (by decide)) (pa_cons (pv 4) pa_nil))) (pg_name (i := 5) sc.nd rfl (Or.inr rfl)) (pss_one (ps_expr (pe_bm PySem.F.plainAttrs_list PySem.F.slot_list_append PySem.F.type_list_append mt_append (pv 2) (pa_cons (pe_callTy (tupOK K) (by rfl) m_tuple (by decide +kernel) (pa_cons (pe_lc (own := [("name", 7)]) (g := gName 7) (tt := tYes) rfl sc.nd (pi_tup (pv 1)) (blkOk_by (own := [("name", 7)]) (N := ["names", "ordered", "rows", "late", "others", "early", "row", "name"]) (sc := defScope sWaiting) (by decide +kernel)) (fun _ _ _ _ _ => pg_name (i := 7) sc.nd rfl (Or.inl rfl)) (fun _ _ _ _ _ => pts_nil) (fun _ _ _ _ _ => (pe_tup (pa_cons (pv 7) (pa_cons (pe_ifExp (pt_cmpR (inK K) (pv 7) (pv 5) (by with_unfolding_all rfl)) (pv 4) (pv 1)) pa_nil))))) pa_nil)) pa_nil)))))))))
 (gss_cons (gs_for owns_gcx rfl (pi_list (pe_callB (c_sortDat hr.units) (by rfl) m_sorted (by decide +kernel) (pa_cons (pv 2) pa_nil))) (pg_name (i := 6) sc.nd rfl (Or.inl rfl)) (gss_cons (gs_yield (pv 6)) gss_nil)) gss_nil)))), ?_⟩
  refine r_gthen (r_gplain ?_)
  walk_at "go"
  refine ⟨x, rfl, ckIn_mono h fun ks n hnd h2 h5 hlt k t1 H1 s1 h1 => ?_⟩
  clear h
  have pm := perm_inOrder hnd hlt
  have lw : (inOrder n ks).length = ks.length := pm.length_eq
  have ndw : (inOrder n ks).Nodup := (order_lt n ks).imp fun h => Nat.ne_of_lt h
  generalize inOrder n ks = ws at k h1 pm lw ndw ⊢
  walk_at "go"
  try dsimp only [GEnds.at]
  refine r_gthen (r_gplain ?_)
  try dsimp only [GEnds.at]
  walk_at "go"
  refine r_tupK (SqT.of h1) ?_
  refine (r_lcPm ws (fun (c : Nat) => V.int (c : Int)) (fun c => [some x, some (.ref t1), none, none, none, none, none, some (.int (c : Int))]) (fun c y H => PairAt H y (c, ws) ∧ H t1 = some (.tup (nV ws))) (fun t v Dl zs H H' h1 h2 h3 => ?_) (fun t v H H' s h => ?_) (by omega) (.inr (SqT.of h1)) (fun t ht H4 s4 k2 hk2 => ?_) (fun t => rfl) (fun c hc H4 s4 Q y => ?_) fun p ys H4 hp s4 hys hlen hat => ?_).2.2 (SqT.of h1)
  · exact ⟨h2.1.but h1 h3, h3 _ _ (ne_of h2.2 h1 (by intro z; cases z)) h2.2⟩
  · exact ⟨h.1.keep s, s _ _ h.2⟩
  · exact hk2
  · walk_at "go"
    refine ⟨by show 2 ≤ sizeLine; decide, fun q hq => ?_⟩
    have sq := same_new (o := .tup [.int (c : Int), .ref t1]) hq
    have e1 := sq _ _ (s4 _ _ h1)
    exact y _ _ sq ⟨⟨q, t1, rfl, upd_same, e1⟩, e1⟩
  have hP := pairs_at (F := fun c => (c, ws)) hlen fun i t y e1 e2 => (hat i t y e1 e2).1
  walk_at "go"
  refine r_tupL (SqL.of hys) fun t5 ht5 => ?_
  walk_at "go"
  refine ⟨by show 1 ≤ sizeLine; decide, fun p0 hp0 => ?_⟩
  walk_at "go"
  have s5 := (same_new (o := .tup ys) ht5).trans (same_new (o := .lst [.ref t5]) hp0)
  have hR0 : RowsLst (upd (upd H4 t5 (.tup ys)) p0 (.lst [.ref t5])) p0 (fullR ws :: (ws.take 0).flatMap (lates ws)) := ⟨[(t5, fullR ws)], upd_same, rfl, fun t ht => by
    rw [List.mem_singleton.mp ht]
    exact ⟨ys, (same_new hp0) _ _ upd_same, hP.keep s5⟩⟩
  have hp00 : H p0 = none := none_of_same ((s1.trans s4).trans (same_new (o := .tup ys) ht5)) hp0
  have s05 := (s1.trans s4).trans s5
  have h15 := s5 _ _ (s4 _ _ h1)
  generalize upd (upd H4 t5 (.tup ys)) p0 (.lst [.ref t5]) = H5 at s05 hR0 h15 ⊢
  clear s5 s4 hat hP hys ht5 hp0 hp
  try dsimp only [GEnds.at]
  refine r_gthen (r_gplain ?_)
  try dsimp only [GEnds.at]
  walk_at "go"
  refine r_tupK (SqT.of h15) ?_
  refine r_forT (xs := nV ws) (fun i σ H' => ∃ v3 v4 v5 v6 v7, σ = [some x, some (.ref t1), some (.ref p0), v3, v4, v5, v6, v7] ∧ Same H H' ∧ H' t1 = some (.tup (nV ws)) ∧ RowsLst H' p0 (fullR ws :: (ws.take i).flatMap (lates ws)))
    ⟨none, none, none, none, none, rfl, s05, h15, hR0⟩ (fun i σ H' hi p => SqT.of p.choose_spec.choose_spec.choose_spec.choose_spec.choose_spec.2.2.1) ?_ ?_
  · rintro i y σ H6 hy ⟨v3, v4, v5, v6, v7, rfl, s6, h16, hR6⟩
    obtain ⟨late, hc, rfl⟩ := nV_at hy
    have hi : i < ws.length := (List.getElem?_eq_some_iff.mp hc).1
    have hlate := List.mem_of_getElem? hc
    have etk : ws.take (i + 1) = ws.take i ++ [late] := by rw [List.take_add_one, hc]; rfl
    have eL : (ws.take (i + 1)).flatMap (lates ws) = (ws.take i).flatMap (lates ws) ++ lates ws late := by
      rw [etk, List.flatMap_append]
      simp
    have lL : ((ws.take i).flatMap (lates ws)).length ≤ 100 := by
      have h1 := ln_flat (lates ws) 15 (ws.take i) fun c hc => by
        rw [lates_len ndw (List.mem_of_mem_take hc)]
        have : 2 ^ (ws.length - 1) ≤ 2 ^ 4 := Nat.pow_le_pow_right (by decide) (by omega)
        omega
      rw [List.length_take] at h1
      have : min i ws.length * 15 ≤ 5 * 15 := Nat.mul_le_mul_right 15 (by omega)
      omega
    have lO : (oth ws late).length + 1 = ws.length := oth_len ndw hlate
    walk_at "go"
    refine r_tupK (SqT.of h16) ?_
    refine (r_lcZX ws (fun (c : Nat) => V.int (c : Int)) (fun c => !decide (c = late)) (fun (c : Nat) => V.int (c : Int)) (.inr (SqT.of h16)) (by omega) (fun _ => rfl) (fun c hc H7 s7 QT y => ?_) (fun c hc H7 _ s7 Q y => ?_) fun p7 H7 hp7 s7 h7 => ?_).2.2 (SqT.of h16)
    · walk_at "go"
      have e : decide ((c : Int) = (late : Int)) = decide (c = late) := decide_eq_decide.mpr (by omega)
      have y := y H7 (Same.refl _)
      rw [← e] at y
      exact y
    · walk_at "go"
      exact y H7 (Same.refl _)
    have h7 : H7 p7 = some (.lst (nV (oth ws late))) := h7
    generalize hO : oth ws late = O at h7 lO
    walk_at "go"
    refine r_tupL (SqL.of h7) fun t8 ht8 => ?_
    have p0t8 : p0 ≠ t8 := fun z => by
      obtain ⟨_, a1, _⟩ := hR6
      rw [z] at a1
      rw [s7 _ _ a1] at ht8
      cases ht8
    have s8 := s7.trans (same_new (o := .tup (nV O)) ht8)
    have h8 : (upd H7 t8 (.tup (nV O))) t8 = some (.tup (nV O)) := upd_same
    generalize upd H7 t8 (.tup (nV O)) = H8 at s8 h8 ⊢
    walk_at "go"
    refine ⟨t8, O, rfl, SqT.of h8, by omega, fun p9 H9 hn9 s9 hI9 => ?_⟩
    obtain ⟨es, h9, ees, hes⟩ := hI9
    have s89 := s8.trans s9
    have h19 := s89 _ _ h16
    have h89 := s9 _ _ h8
    obtain ⟨ts6, r1, r2, r3⟩ := hR6
    have hR9 : RowsLst H9 p0 (fullR ws :: (ws.take i).flatMap (lates ws)) := ⟨ts6, s89 _ _ r1, r2, fun t ht => (r3 t ht).keep s89⟩
    have p0p9 : p9 ≠ p0 := fun z => by
      rw [z, s8 _ _ r1] at hn9
      cases hn9
    have s09 := s6.trans s89
    clear s89 s9 s8 s7 hp7 h7 hn9
    walk_at "go"
    refine r_lstK (SqL.of h9) ?_
    have les : es.length ≤ 16 := by
      have e1 := congrArg List.length ees
      rw [List.length_map, List.length_drop, parts_len] at e1
      have : 2 ^ O.length ≤ 2 ^ 4 := Nat.pow_le_pow_right (by decide) (by omega)
      omega
    refine r_forL (xs := es.map fun t => V.ref t.1) (fun j σ H' => ∃ v5 v6 v7, σ = [some x, some (.ref t1), some (.ref p0), some (.int (late : Int)), some (.ref t8), v5, v6, v7] ∧ Same H H' ∧ SameBut p0 H9 H' ∧ RowsLst H' p0 ((fullR ws :: (ws.take i).flatMap (lates ws)) ++ ((es.map (·.2)).take j).map fun e => lateR ws O e))
      ⟨v5, v6, v7, rfl, s09, fun b o _ h => h, by simpa using hR9⟩ (fun j σ H' hj p => SqL.of (p.choose_spec.choose_spec.choose_spec.2.2.1 _ _ p0p9 h9)) ?_ ?_
    · rintro j y σ H10 hy ⟨v5, v6, v7, rfl, s10, sb10, ts10, q1, q2, q3⟩
      rw [List.getElem?_map] at hy
      cases ej : es[j]? with
      | none => rw [ej] at hy; cases hy
      | some e0 =>
      rw [ej] at hy
      cases hy
      have he0 := List.mem_of_getElem? ej
      have etk2 : (es.map (·.2)).take (j + 1) = (es.map (·.2)).take j ++ [e0.2] := by rw [List.take_add_one, List.getElem?_map, ej]; rfl
      have tp0 : ∀ {b : Addr} {zs : List V}, H9 b = some (.tup zs) → b ≠ p0 := fun {b zs} h z => by
        obtain ⟨_, a1, _⟩ := hR9
        rw [z, a1] at h
        cases h
      have h10 := sb10 _ _ (tp0 h19) h19
      have h810 := sb10 _ _ (tp0 h89) h89
      have he10 := sb10 _ _ (tp0 (hes e0 he0)) (hes e0 he0)
      walk_at "go"
      refine r_tyL (SqL.of q1) ?_
      walk_at "go"
      refine r_tupK (SqT.of h10) ?_
      refine (r_lcPm ws (fun (c : Nat) => V.int (c : Int)) (fun c => [some x, some (.ref t1), some (.ref p0), some (.int (late : Int)), some (.ref t8), some (.ref e0.1), v6, some (.int (c : Int))]) (fun c y H => PairAt H y (c, if c ∈ e0.2 then O else ws)) (fun t v Dl zs H H' h1 h2 h3 => h2.but h1 h3) (fun t v H H' s h => h.keep s) (by omega) (.inr (SqT.of h10)) (fun t ht H4 s4 k2 hk2 => ?_) (fun t => rfl) (fun c hc H11 s11 Q y => ?_) fun p12 ys H12 hp12 s12 hys hlen hat => ?_).2.2 (SqT.of h10)
      · exact hk2
      · walk_at "go"
        refine r_inX (SqX.T (s11 _ _ he10)) ?_
        try walk_at "go"
        refine iteB ?_ ?_
        · intro hm
          walk_at "go"
          refine ⟨by show 2 ≤ sizeLine; decide, fun q hq => ?_⟩
          have sq := same_new (o := .tup [.int (c : Int), .ref t8]) hq
          refine y _ _ sq ⟨q, t8, rfl, upd_same, ?_⟩
          rw [if_pos (of_decide_eq_true hm)]
          exact sq _ _ (s11 _ _ h810)
        · intro hm
          walk_at "go"
          refine ⟨by show 2 ≤ sizeLine; decide, fun q hq => ?_⟩
          have sq := same_new (o := .tup [.int (c : Int), .ref t1]) hq
          refine y _ _ sq ⟨q, t1, rfl, upd_same, ?_⟩
          rw [if_neg (of_decide_eq_false hm)]
          exact sq _ _ (s11 _ _ h10)
      have hP := pairs_at (F := fun c => (c, if c ∈ e0.2 then O else ws)) hlen hat
      walk_at "go"
      refine r_tupL (SqL.of hys) fun t13 ht13 => ?_
      have s13 := s12.trans (same_new (o := .tup ys) ht13)
      have hP13 : PairsT (upd H12 t13 (.tup ys)) t13 (lateR ws O e0.2) := ⟨ys, upd_same, hP.keep (same_new ht13)⟩
      generalize upd H12 t13 (.tup ys) = H13 at s13 hP13 ⊢
      walk_at "go"
      have lts : ts10.length ≤ 200 := by
        have e1 := congrArg List.length q2
        rw [List.length_map, List.length_append, List.length_cons, List.length_map, List.length_take, List.length_map] at e1
        omega
      refine r_app (s13 _ _ q1) (Nat.lt_of_le_of_lt (m := 200) (by rw [List.length_map]; exact lts) (by decide)) ?_
      have sb : SameBut p0 H13 (upd H13 p0 (.lst (ts10.map rwV ++ [.ref t13]))) := fun b o n h => by rw [upd_ne n]; exact h
      refine ⟨_, _, _, rfl, ?_, ?_, ts10 ++ [(t13, lateR ws O e0.2)], ?_, ?_, fun t ht => ?_⟩
      · exact Same.upd2 (s10.trans s13) hp00
      · exact fun b o n h => by rw [upd_ne n]; exact s13 _ _ (sb10 b o n h)
      · rw [upd_same, List.map_append]
        rfl
      · rw [List.map_append, q2, etk2, List.map_append, ← List.append_assoc]
        rfl
      · rcases List.mem_append.mp ht with ht | ht
        · exact ((q3 t ht).keep s13).but sb (s13 _ _ q1)
        · rw [List.mem_singleton.mp ht]
          exact hP13.but sb (s13 _ _ q1)
    · rintro σ H10 ⟨v5, v6, v7, rfl, s10, sb10, hR10⟩
      refine ⟨_, _, _, _, _, rfl, s10, sb10 _ _ (fun z => ?_) h19, ?_⟩
      · obtain ⟨_, a1, _⟩ := hR9
        rw [z, a1] at h19
        cases h19
      · have e : (es.map (·.2)).take es.length = (partsF O).drop 1 := by rw [List.take_of_length_le (by rw [List.length_map]; exact Nat.le_refl _), ees]
        have e2 : lates ws late = ((partsF O).drop 1).map fun e => lateR ws O e := by
          unfold lates
          rw [hO]
        rw [List.length_map, e] at hR10
        rw [eL, e2]
        exact hR10
  · rintro σ H6 ⟨v3, v4, v5, v6, v7, rfl, s6, h16, hR6⟩
    rw [nV_len, List.take_length] at hR6
    try dsimp only [GEnds.at]
    refine r_gthen (r_gfor ?_)
    try dsimp only [GEnds.at]
    walk_at "go"
    have hR6 : RowsLst H6 p0 (rowsF ws) := hR6
    have lR : (rowsF ws).length ≤ 200 := by
      rw [rowsF_len ndw]
      have : 2 ^ (ws.length - 1) ≤ 2 ^ 4 := Nat.pow_le_pow_right (by decide) (by omega)
      have : ws.length * (2 ^ (ws.length - 1) - 1) ≤ 5 * 15 := Nat.mul_le_mul (by omega) (by omega)
      omega
    have wne : ws ≠ [] := fun z => by rw [z] at lw; simp at lw; omega
    refine r_sortRows hR6 (by omega) (fun ls hls z => ?_) fun p7 hp7 H7 s7 hR7 => ?_
    · subst z
      have : ∀ f : Nat → Nat × List Nat, ws.map f ≠ [] := fun f z => wne (List.map_eq_nil_iff.mp z)
      rcases List.mem_cons.mp hls with e | e
      · exact this _ e.symm
      · obtain ⟨late, _, e⟩ := List.mem_flatMap.mp e
        obtain ⟨e9, _, e⟩ := List.mem_map.mp e
        exact this _ e
    obtain ⟨ts, a1, a2, a3⟩ := hR7
    refine r_lstK (SqL.of a1) ?_
    have lts : ts.length ≤ 200 := by
      have e1 := congrArg List.length a2
      rw [List.length_map, List.length_mergeSort] at e1
      omega
    refine r_gforL (xs := ts.map rwV) (fun i ys σ H' => ∃ v6, σ = [some x, some (.ref t1), some (.ref p0), v3, v4, v5, v6, v7] ∧ H' = H7 ∧ ys = (ts.take i).map rwV) ⟨v6, rfl, rfl, rfl⟩ (fun i ys σ H' hi p => by
      obtain ⟨_, _, e, _⟩ := p
      rw [e]
      exact SqL.of a1) ?_ ?_
    · rintro i y ys σ H8 hy ⟨v6, rfl, rfl, rfl⟩
      rw [List.getElem?_map] at hy
      cases ej : ts[i]? with
      | none => rw [ej] at hy; cases hy
      | some t0 =>
      rw [ej] at hy
      cases hy
      walk_at "go"
      refine r_gthen (r_gyield (Nat.lt_of_le_of_lt (m := 200) (by rw [List.length_map, List.length_take]; omega) (by decide)) ?_)
      walk_at "go"
      refine r_gnil ?_
      refine ⟨_, rfl, rfl, ?_⟩
      rw [List.take_add_one, ej, List.map_append]
      rfl
    · rintro ys σ H8 ⟨v6, rfl, rfl, rfl⟩
      refine r_gnil ?_
      rw [List.length_map, List.take_length]
      exact k _ _ (s6.trans s7) ⟨ts, rfl, a2, a3⟩
end
end K9
namespace K9
open PySem L2 Er K7M
/-- one step of a plain reading -/
local macro_rules | `(tactic| walk_at "step") => `(tactic| first
  | with_reducible refine r_seq ?_ | with_reducible refine r_nx ?_ | with_reducible refine r_asgN ?_ | with_reducible refine r_asgS ?_ | with_reducible refine r_asgT ?_ | with_reducible refine r_ifS ?_
  | with_reducible refine r_ret ?_ | with_reducible refine r_retN ?_ | with_reducible refine r_drop ?_ | with_reducible refine r_test ?_ | with_reducible refine r_B ?_ | with_reducible refine r_not ?_
  | with_reducible refine r_and ?_ | with_reducible refine r_or ?_ | with_reducible refine r_andV ?_ | with_reducible refine r_orV ?_ | with_reducible refine r_notV ?_
  | ((with_reducible refine' r_var ?e ?_); (case e => exact rfl)) | with_reducible refine r_c ?_ | with_reducible refine r_op ?_ | with_reducible refine r_un ?_
  | with_reducible refine r_I0 ?_ | with_reducible refine r_eqI ?_ | with_reducible refine r_neI ?_ | with_reducible refine r_bl ?_ | with_reducible refine r_nil ?_ | with_reducible refine r_cons ?_
  | with_reducible refine r_cb ?_ | with_reducible refine r_call ?_ | with_reducible refine r_tup ?_ | with_reducible refine r_lst ?_ | with_reducible refine r_fld ?_ | with_reducible refine r_bm ?_ | with_reducible refine r_bm0 ?_
  | with_reducible refine r_for ?_ | with_reducible refine r_rng ?_ | with_reducible refine r_rng2 ?_ | with_reducible refine r_lstI ?_ | with_reducible refine r_tupI ?_ | with_reducible refine r_lc ?_
  | with_reducible refine r_augS ?_ | with_reducible refine r_ipI ?_
  | with_reducible refine r_meth ?_ | with_reducible refine r_prop ?_ | with_reducible refine r_make ?_ | with_reducible refine r_din ?_ | with_reducible refine r_dnin ?_ | with_reducible refine r_dput ?_ | with_reducible refine r_dget ?_
  | with_reducible refine r_gN ?_ | with_reducible refine r_tsl ?_ | with_reducible refine r_noP ?_ | with_reducible refine r_part ?_ | with_reducible refine r_pI ?_ | with_reducible refine r_tif ?_ | with_reducible refine r_SL ?_ | with_reducible refine r_gC ?_ | with_reducible refine r_U ?_ | with_reducible refine r_sfld ?_ | with_reducible refine r_dnew ?_ | with_reducible refine r_keys ?_
  | with_reducible refine r_mkE ?_ | with_reducible refine iteT ?_ | with_reducible refine iteF ?_
  | with_reducible refine r_int ?_ | with_reducible refine r_min2 ?_ | with_reducible refine r_isN ?_ | with_reducible refine r_notN ?_)
/-- as far as it goes by itself -/
local macro_rules | `(tactic| walk_at "go") => `(tactic| ((repeat walk_at "step"); (try dsimp only)))

structure RowsAt (H : Hp) (D : Addr) (m : Nat) (rs : Nat → Addr) (R : Nat → List Nat) : Prop where
  d : H D = some (.lst (row m fun j => .ref (rs j)))
  r : ∀ j, j < m → H (rs j) = some (.lst (nV (R j)))
  inj : ∀ i, i < m → ∀ j, j < m → rs i = rs j → i = j
  ne : ∀ j, j < m → rs j ≠ D
theorem RowsAt.but {H H' : Hp} {D a : Addr} {m : Nat} {rs : Nat → Addr} {R : Nat → List Nat} (h : RowsAt H D m rs R) (s : SameBut a H H') (h1 : D ≠ a) (h2 : ∀ j, j < m → rs j ≠ a) : RowsAt H' D m rs R := ⟨s _ _ h1 h.d, fun j hj => s _ _ (h2 j hj) (h.r j hj), h.inj, h.ne⟩
theorem RowsAt.keep {H H' : Hp} {D : Addr} {m : Nat} {rs : Nat → Addr} {R : Nat → List Nat} (h : RowsAt H D m rs R) (s : Same H H') : RowsAt H' D m rs R := ⟨s _ _ h.d, fun j hj => s _ _ (h.r j hj), h.inj, h.ne⟩
theorem RowsAt.app {H : Hp} {D : Addr} {m : Nat} {rs : Nat → Addr} {R : Nat → List Nat} (h : RowsAt H D m rs R) {k c : Nat} (hk : k < m) : RowsAt (upd H (rs k) (.lst (nV (R k) ++ [.int (c : Int)]))) D m rs (fun j => if j = k then R j ++ [c] else R j) :=
  ⟨by rw [upd_ne (Ne.symm (h.ne k hk))]; exact h.d, fun j hj => by
    try dsimp only
    by_cases e : j = k
    · subst e
      rw [upd_same, if_pos rfl, nV_append]
      rfl
    · rw [upd_ne (fun z => e (h.inj j hj k hk z)), if_neg e]
      exact h.r j hj, h.inj, h.ne⟩
theorem dist_perm {R : Nat → List Nat} {c k : Nat} : ∀ {m : Nat}, k < m → (((List.range m).map fun j => if j = k then R j ++ [c] else R j).flatten).Perm (((List.range m).map R).flatten ++ [c])
  | 0, h => by omega
  | m + 1, h => by
    rw [List.range_succ, List.map_append, List.map_append, List.flatten_append, List.flatten_append]
    by_cases e : k = m
    · subst e
      have e1 : (List.range k).map (fun j => if j = k then R j ++ [c] else R j) = (List.range k).map R := List.map_congr_left fun j hj => by
        have := List.mem_range.mp hj
        rw [if_neg (by omega)]
      rw [e1]
      simp
    · have ih := dist_perm (R := R) (c := c) (k := k) (m := m) (by omega)
      have e2 : (if m = k then R m ++ [c] else R m) = R m := if_neg (Ne.symm e)
      have e3 : [m].map (fun j => if j = k then R j ++ [c] else R j) = [R m] := by
        show [if m = k then R m ++ [c] else R m] = _
        rw [e2]
      rw [e3]
      refine (ih.append_right _).trans ?_
      rw [List.append_assoc, List.append_assoc]
      refine List.Perm.append_left _ ?_
      show ([c] ++ [R m].flatten).Perm ([R m].flatten ++ [c])
      exact List.perm_append_comm
theorem flat_ne (L : List (List Nat)) : (L.filter fun l => !l.isEmpty).flatten = L.flatten := by
  induction L with
  | nil => rfl
  | cons l L ih =>
    rw [List.filter_cons]
    cases l with
    | nil => simpa using ih
    | cons a l => simp [ih]
def LBlk (H : Hp) (p : Addr) (bs : List (List Nat)) : Prop := ∃ ys, H p = some (.lst ys) ∧ ItemsAt H ys bs
theorem LBlk.keep {H H' : Hp} {p : Addr} {bs : List (List Nat)} (h : LBlk H p bs) (s : Same H H') : LBlk H' p bs := by
  obtain ⟨ys, h1, h2⟩ := h
  exact ⟨ys, s _ _ h1, h2.keep s⟩
def spLBlk (K : PySem.W.Frag) : Sp := fun vs H Q _ => ∃ (a b : Addr) (ns : List Int) (names : List Nat), vs = [.ref a, .ref b] ∧ H a = some (.lst (ns.map V.int)) ∧ ns.length ≤ 100000 ∧ H b = some (.lst (nV names)) ∧ b ≠ a ∧ 1 ≤ names.length ∧ names.length ≤ 6 ∧
  ∀ p bs (ns' : List Int) H', (∀ b ∈ bs, b ≠ []) → bs.flatten.Perm names → (∀ b ∈ bs, b.Sublist names) → ns'.length ≤ ns.length → H' a = some (.lst (ns'.map V.int)) → SameBut a H H' → H p = none → LBlk H' p bs → Q (.ref p) H'
section
variable {P : Program} {w : World} {K : PySem.W.Frag} {mg : Str → Option Value} {base : Heap} {CN CR CM : Addr}
theorem scLBlk : FnScope ["_law_found", "_law_names_here", "_law_rows", "_law_name", "_law_row"] ["_law_found", "_law_names_here"] (defScope sLBlocks) := ⟨rfl, rfl, rfl, by decide +kernel, rfl, by decide +kernel, by decide +kernel⟩
theorem ok_lblocks {f : Addr} {fd : FuncData} (F : Fun K "_law_blocks" "_law_blocks" sLBlocks f fd) (m_len : mg "len" = none) (m_tuple : mg "tuple" = none) (D_take : Fok P w K mg base 1 "_law_take" ["_law_found", "_law_many"] spTake) :
    FnOk P w K mg base (L2.CX P w) 2 f fd ["_law_found", "_law_names_here"] (spLBlk K) := by
  refine F.okX scLBlk (fun vs H Q E h => ?_) (fun cdv A outer s H vs Q E hr h => ?_)
  · obtain ⟨a, b, ns, names, rfl, _⟩ := h
    rfl
  obtain ⟨a, b, ns, names, rfl, ha, hl, hb, hba, n1, n6, k⟩ := h
  have sc := scLBlk
  refine ⟨_, (pss_cons (ps_setLc (i := 2) (own := [("_law_name", 3)]) (g := gName 3) (tt := tYes) (by rfl) sc.nd rfl rfl (sw_true rfl rfl rfl (by decide +kernel)) (pi_list (pv 1)) (blkOk_by (own := [("_law_name", 3)]) (N := ["_law_found", "_law_names_here", "_law_rows", "_law_name", "_law_row"]) (sc := defScope sLBlocks) (by decide +kernel)) (fun _ _ _ _ _ => pg_name (i := 3) sc.nd rfl (Or.inl rfl)) (fun _ _ _ _ _ => pts_nil) (fun _ _ _ _ _ => (pe_lst pa_nil)))
      (pss_cons (ps_for (passes_of rfl) rfl (pi_list (pv 1)) (pg_name (i := 3) sc.nd rfl (Or.inl rfl)) (pss_one (ps_expr (pe_bm PySem.F.plainAttrs_list PySem.F.slot_list_append PySem.F.type_list_append mt_append (pe_ix (ixL K) (pv 2) (pe_f D_take (hr.mono (by decide)) (pa_cons (pv 0) (pa_cons (pe_callB (lenK K) (by rfl) m_len PySem.boot_len (pa_cons (pv 1) pa_nil)) pa_nil))) (fun _ _ => rfl)) (pa_cons (pv 3) pa_nil)))))
      (pss_one (ps_ret (pe_lc (own := [("_law_row", 4)]) (g := gName 4)  rfl sc.nd (pi_list (pv 2)) (blkOk_by (own := [("_law_row", 4)]) (N := ["_law_found", "_law_names_here", "_law_rows", "_law_name", "_law_row"]) (sc := defScope sLBlocks) (by decide +kernel)) (fun _ _ _ _ _ => pg_name (i := 4) sc.nd rfl (Or.inl rfl)) (fun _ _ _ _ _ => (pts_one (pt_cmpR op_gt (pe_callB (lenK K) (by rfl) m_len PySem.boot_len (pa_cons (pv 4) pa_nil)) pe_int (nomark _)))) (fun _ _ _ _ _ => (pe_callTy (tupOK K) (by rfl) m_tuple (by decide +kernel) (pa_cons (pv 4) pa_nil)))))))), ?_⟩
  walk_at "go"
  refine r_lstK (SqL.of hb) ?_
  intro D hD
  have hDa : D ≠ a := fun z => by rw [z, ha] at hD; cases hD
  have hDb : D ≠ b := fun z => by rw [z, hb] at hD; cases hD
  refine lc_list (xs := nV names) (fun i H' => Same H H' ∧ ∃ rs : Nat → Addr, RowsAt H' D i rs (fun _ => []) ∧ ∀ j, j < i → H (rs j) = none)
    ⟨same_new hD, fun _ => 0, ⟨upd_same, fun j hj => by omega, fun i hi => by omega, fun j hj => by omega⟩, fun j hj => by omega⟩ (fun i H' _ p => p.1.seq (SqL.of hb)) (fun i x H1 hi p => ?_) fun H1 p => ?_
  · obtain ⟨s1, rs, h1, f1⟩ := p
    have hin : i < names.length := by rw [← nV_len]; exact (List.getElem?_eq_some_iff.mp hi).1
    refine ⟨rfl, ?_⟩
    refine r_tYes ?_
    refine iteT ?_
    walk_at "go"
    refine ⟨by show 0 ≤ sizeLine; decide, fun r hr1 => ?_⟩
    have s2 := same_new (o := .lst []) hr1
    have rD : r ≠ D := fun z => by rw [z, h1.d] at hr1; cases hr1
    refine ⟨_, s2 _ _ h1.d, by rw [row_len]; exact Nat.lt_of_le_of_lt (m := 6) (by omega) (by decide), Same.upd2 (s1.trans s2) hD, fun j => if j = i then r else rs j, ⟨?_, fun j hj => ?_, fun j hj m hm e => ?_, fun j hj => ?_⟩, fun j hj => ?_⟩
    · rw [upd_same, row_succ]
      try dsimp only
      rw [if_pos rfl]
      congr 3
      refine row_congr fun j hj => ?_
      rw [if_neg (by omega)]
    · try dsimp only
      by_cases e : j = i
      · subst e
        rw [if_pos rfl, upd_ne rD, upd_same]
        rfl
      · rw [if_neg e, upd_ne (h1.ne j (by omega))]
        exact s2 _ _ (h1.r j (by omega))
    · have nr : ∀ j, j < i → rs j ≠ r := fun j hj z => by
        have := h1.r j hj
        rw [z, hr1] at this
        cases this
      try dsimp only at e
      by_cases e1 : j = i
      · by_cases e2 : m = i
        · omega
        · rw [if_pos e1, if_neg e2] at e
          exact absurd e.symm (nr m (by omega))
      · by_cases e2 : m = i
        · rw [if_neg e1, if_pos e2] at e
          exact absurd e (nr j (by omega))
        · rw [if_neg e1, if_neg e2] at e
          exact h1.inj j (by omega) m (by omega) e
    · try dsimp only
      by_cases e : j = i
      · rw [if_pos e]; exact rD
      · rw [if_neg e]; exact h1.ne j (by omega)
    · try dsimp only
      by_cases e : j = i
      · rw [if_pos e]; exact none_of_same s1 hr1
      · rw [if_neg e]; exact f1 j (by omega)
  · obtain ⟨s1, rs, h1, f1⟩ := p
    rw [nV_len] at h1 f1
    have hra : ∀ j, j < names.length → rs j ≠ a := fun j hj z => by
      have := f1 j hj
      rw [z, ha] at this
      cases this
    have hrb : ∀ j, j < names.length → rs j ≠ b := fun j hj z => by
      have := f1 j hj
      rw [z, hb] at this
      cases this
    walk_at "go"
    refine r_lstK (SqL.of (s1 _ _ hb)) ?_
    refine r_forL (xs := nV names) (fun i σ H' => ∃ v3, σ = [some (.ref a), some (.ref b), some (.ref D), v3, none] ∧ SameBut a H H' ∧ (∃ ns' : List Int, H' a = some (.lst (ns'.map V.int)) ∧ ns'.length ≤ ns.length) ∧ ∃ R : Nat → List Nat, RowsAt H' D names.length rs R ∧ (∀ j, (R j).Sublist (names.take i)) ∧ (((List.range names.length).map R).flatten).Perm (names.take i))
      ⟨none, rfl, SameBut.of s1, ⟨ns, s1 _ _ ha, Nat.le_refl _⟩, _, h1, fun j => List.nil_sublist _, by rw [List.take_zero]; simp⟩ (fun i σ H' hi p => SqL.of (p.choose_spec.2.1 _ _ hba hb)) ?_ ?_
    · rintro i x σ H2 hx ⟨v3, rfl, s2, ⟨ns2, h2, l2⟩, R, hR, sub, pm⟩
      obtain ⟨c, hc, rfl⟩ := nV_at hx
      have etk : names.take (i + 1) = names.take i ++ [c] := by rw [List.take_add_one, hc]; rfl
      walk_at "go"
      refine r_lenL (SqL.of (s2 _ _ hba hb)) ?_
      rw [nV_len]
      walk_at "go"
      refine ⟨a, ns2, names.length, rfl, h2, by omega, by omega, fun r ns3 H3 r0 rn l3 h3 s3 => ?_⟩
      obtain ⟨r', rfl⟩ : ∃ r' : Nat, r = (r' : Int) := ⟨r.toNat, by omega⟩
      have hr' : r' < names.length := by omega
      have hR3 := hR.but s3 hDa hra
      refine r_ixL (v := .ref (rs r')) (SqL.of hR3.d) (atI_nat (row_at _ hr')) ?_
      refine r_tyL (SqL.of (hR3.r r' hr')) ?_
      walk_at "go"
      have hlen : (R r').length ≤ 6 := by
        have := (sub r').length_le
        rw [List.length_take] at this
        omega
      refine r_app (hR3.r r' hr') (Nat.lt_of_le_of_lt (m := 6) (by rw [nV_len]; exact hlen) (by decide)) ?_
      refine ⟨_, rfl, (s2.trans s3).mut (f1 r' hr'), ⟨ns3, by rw [upd_ne (Ne.symm (hra r' hr'))]; exact h3, by omega⟩, _, hR3.app hr', fun j => ?_, ?_⟩
      · rw [etk]
        try dsimp only
        by_cases e : j = r'
        · rw [if_pos e]
          exact (sub j).append (List.Sublist.refl _)
        · rw [if_neg e]
          exact (sub j).trans (List.sublist_append_left _ _)
      · rw [etk]
        exact (dist_perm hr').trans (pm.append_right _)
    · rintro σ H2 ⟨v3, rfl, s2, ⟨ns2, h2, l2⟩, R, hR, sub, pm⟩
      rw [nV_len, List.take_length] at sub pm
      walk_at "go"
      refine r_lstK (SqL.of hR.d) ?_
      intro E9 hE
      have hEa : E9 ≠ a := fun z => by rw [z, h2] at hE; cases hE
      refine lc_list (xs := row names.length fun j => V.ref (rs j)) (fun i H' => Same H2 H' ∧ ∃ ys, H' E9 = some (.lst ys) ∧ ItemsAt H' ys (((List.range i).map R).filter fun l => !l.isEmpty))
        ⟨same_new hE, [], upd_same, rfl, fun i y b hy => by simp at hy⟩ (fun i H' _ p => p.1.seq (SqL.of hR.d)) (fun i x H3 hx p => ?_) fun H3 p => ?_
      · obtain ⟨s3, ys, hys, hI⟩ := p
        have hin : i < names.length := by have := (List.getElem?_eq_some_iff.mp hx).1; rwa [row_len] at this
        rw [row_at _ hin] at hx
        cases hx
        have hri := s3 _ _ (hR.r i hin)
        have esucc : (List.range (i + 1)).map R = (List.range i).map R ++ [R i] := by rw [List.range_succ, List.map_append]; rfl
        refine ⟨rfl, ?_⟩
        walk_at "go"
        refine r_lenL (SqL.of hri) ?_
        rw [nV_len]
        walk_at "go"
        have hle : ys.length ≤ names.length := by
          rw [hI.1]
          refine Nat.le_trans (List.length_filter_le _ _) ?_
          rw [List.length_map, List.length_range]
          omega
        refine iteB (fun e => ?_) fun e => ?_
        · have e := of_decide_eq_true e
          have hne : (R i).isEmpty = false := by
            cases h : R i with
            | nil => rw [h] at e; simp at e
            | cons => rfl
          walk_at "go"
          refine r_tupL (SqL.of hri) fun t ht => ?_
          have s4 := same_new (o := .tup (nV (R i))) ht
          have tE : t ≠ E9 := fun z => by rw [z, hys] at ht; cases ht
          refine ⟨ys, s4 _ _ hys, Nat.lt_of_le_of_lt (m := 6) (by omega) (by decide), Same.upd2 (s3.trans s4) hE, ys ++ [.ref t], upd_same, ?_⟩
          rw [esucc, List.filter_append]
          have ef : [R i].filter (fun l => !l.isEmpty) = [R i] := by simp [hne]
          rw [ef]
          refine ItemsAt.snoc ?_ (by rw [upd_ne tE]; exact upd_same)
          exact (hI.keep s4).but (s4 _ _ hys) fun b u nb z => by rw [upd_ne nb]; exact z
        · have e := of_decide_eq_false e
          have hne : R i = [] := by
            cases h : R i with
            | nil => rfl
            | cons => rw [h] at e; simp at e
          refine ⟨s3, ys, hys, ?_⟩
          rw [esucc, List.filter_append, hne]
          simpa using hI
      · obtain ⟨s3, ys, hys, hI⟩ := p
        rw [row_len] at hI
        have hE0 : H E9 = none := s2.none_ hE hEa
        refine k E9 _ ns2 H3 (fun b hb z => ?_) ?_ (fun b hb => ?_) l2 (s3 _ _ h2) (s2.trans (SameBut.of s3)) hE0 ⟨ys, hys, hI⟩
        · have := (List.mem_filter.mp hb).2
          rw [z] at this
          cases this
        · rw [flat_ne]
          exact pm
        · obtain ⟨j, _, rfl⟩ := List.mem_map.mp (List.mem_filter.mp hb).1
          exact sub j
theorem scLW : FnScope ["_law_one", "_law_other", "_law_name"] ["_law_one", "_law_other"] (defScope sWithin) := ⟨rfl, rfl, rfl, by decide +kernel, rfl, by decide +kernel, by decide +kernel⟩
theorem ok_within {f : Addr} {fd : FuncData} (F : Fun K "_law_within" "_law_within" sWithin f fd) (m_all : mg "all" = none) : FnOk P w K mg base (L2.CX P w) 1 f fd ["_law_one", "_law_other"] (spLies K) := by
  refine F.okX scLW (fun vs H Q E h => ?_) (fun cdv A outer s H vs Q E hr h => ?_)
  · obtain ⟨x, y, l, m, rfl, _⟩ := h
    rfl
  obtain ⟨x, y, l, m, rfl, ⟨a, rfl, ha⟩, ⟨b, rfl, hb⟩, hl, k⟩ := h
  have sc := scLW
  refine ⟨_, (pss_one (ps_ret (pe_callB (cr_all rfl) (by rfl) m_all (by decide +kernel) (pa_cons (pe_lc (own := [("_law_name", 2)]) (g := gName 2) (tt := tYes) rfl sc.nd (pi_seq (pv 0)) (blkOk_by (own := [("_law_name", 2)]) (N := ["_law_one", "_law_other", "_law_name"]) (sc := defScope sWithin) (by decide +kernel)) (fun _ _ _ _ _ => pg_name (i := 2) sc.nd rfl (Or.inl rfl)) (fun _ _ _ _ _ => pts_nil) (fun _ _ _ _ _ => (pe_cmpR (inK K) (pv 2) (pv 1) (by with_unfolding_all rfl)))) pa_nil)))), ?_⟩
  walk_at "go"
  refine r_seqI ?_
  walk_at "go"
  refine (r_lcZX l (fun (c : Nat) => V.int (c : Int)) (fun _ => true) (fun c => .bl (decide (c ∈ m))) ha (by omega) (fun _ => rfl) (fun c hc H2 s2 QT q => q H2 (Same.refl _)) (fun c hc H2 _ s2 Q q => ?_) fun p H2 hp s2 h2 => ?_).1
  · walk_at "go"
    refine r_inX (hb.keep s2) ?_
    exact q H2 (Same.refl _)
  · walk_at "go"
    rw [map_bl l fun c => decide (c ∈ m)] at h2
    refine r_all (SqL.of h2) ?_
    rw [List.all_map]
    exact k H2 s2
end
/-- what the law's names are -/
def spNames : Sp := fun vs H Q _ => ∃ (a : Addr) (ns : List Int) (m : Nat), vs = [.ref a, .int (m : Int)] ∧ H a = some (.lst (ns.map V.int)) ∧ ns.length ≤ 100000 ∧ 1 ≤ m ∧ m ≤ 6 ∧
  ∀ p l (ns' : List Int) H', l.length = m → l.Pairwise (· < ·) → (∀ c ∈ l, c < 60) → ns'.length ≤ ns.length → H' a = some (.lst (ns'.map V.int)) → SameBut a H H' → H p = none → H' p = some (.lst (nV l)) → Q (.ref p) H'
def spLooks : Sp := fun vs H Q _ => ∃ (a b : Addr) (ns : List Int) (ws : List Nat), vs = [.ref a, .ref b] ∧ H a = some (.lst (ns.map V.int)) ∧ ns.length ≤ 100000 ∧ H b = some (.lst (nV ws)) ∧ b ≠ a ∧ ws.Pairwise (· < ·) ∧ (∀ c ∈ ws, c < 60) ∧ 1 ≤ ws.length ∧ ws.length ≤ 6 ∧
  ∀ t ls (ns' : List Int) H', Rnd 60 ls → ls.map (·.1) = ws → ns'.length ≤ ns.length → H' a = some (.lst (ns'.map V.int)) → SameBut a H H' → PairsT H' t ls → Q (.ref t) H'
def FitP (ls : List (Nat × List Nat)) : Prop := ∀ a ∈ ls, a.1 ∈ a.2 ∧ ∀ b ∈ ls, liesB a.2 b.2 = true ∨ liesB b.2 a.2 = true
def spFit (K : PySem.W.Frag) : Sp := fun vs H Q _ => ∃ (t : Addr) (ls : List (Nat × List Nat)), vs = [.ref t] ∧ PairsT H t ls ∧ FitP ls ∧ (∀ il ∈ ls, il.2.length ≤ 1000) ∧ ∀ H', Same H H' → Q (.bl true) H'
section
variable {P : Program} {w : World} {K : PySem.W.Frag} {mg : Str → Option Value} {base : Heap} {CN CR CM : Addr}
theorem scNames : FnScope ["_law_found", "_law_size", "_law_row", "_law_turn"] ["_law_found", "_law_size"] (defScope sNames) := ⟨rfl, rfl, rfl, by decide +kernel, rfl, by decide +kernel, by decide +kernel⟩
theorem ok_names {f : Addr} {fd : FuncData} (F : Fun K "_law_names" "_law_names" sNames f fd) (m_range : mg "range" = none) (D_take : Fok P w K mg base 1 "_law_take" ["_law_found", "_law_many"] spTake) :
    FnOk P w K mg base (L2.CX P w) 2 f fd ["_law_found", "_law_size"] spNames := by
  refine F.okX scNames (fun vs H Q E h => ?_) (fun cdv A outer s H vs Q E hr h => ?_)
  · obtain ⟨a, ns, m, rfl, _⟩ := h
    rfl
  obtain ⟨a, ns, m, rfl, ha, hl, m1, m6, k⟩ := h
  have sc := scNames
  refine ⟨_, (pss_cons (ps_set (i := 2) sc.nd rfl (Or.inl rfl) (pe_lst (pa_cons (pe_f D_take (hr.mono (by decide)) (pa_cons (pv 0) (pa_cons pe_int pa_nil))) pa_nil)))
      (pss_cons (ps_for (passes_of rfl) rfl (pi_range1 (by rfl) m_range (pa_cons (pe_op op_sub (pv 1) pe_int) pa_nil)) (pg_name (i := 3) sc.nd rfl (Or.inl rfl)) (pss_one (ps_expr (pe_bm PySem.F.plainAttrs_list PySem.F.slot_list_append PySem.F.type_list_append mt_append (pv 2) (pa_cons (pe_op op_add (pe_op op_add (pe_ix (ixL K) (pv 2) (pv 3) (fun _ _ => rfl)) pe_int) (pe_f D_take (hr.mono (by decide)) (pa_cons (pv 0) (pa_cons pe_int pa_nil)))) pa_nil)))))
      (pss_one (ps_ret (pv 2))))), ?_⟩
  walk_at "go"
  refine ⟨a, ns, 3, rfl, ha, by omega, by decide, fun r ns1 H1 r0 r3 l1 h1 s1 => ?_⟩
  obtain ⟨r', rfl⟩ : ∃ r' : Nat, r = (r' : Int) := ⟨r.toNat, by omega⟩
  walk_at "go"
  refine ⟨by show 1 ≤ sizeLine; decide, fun p hp => ?_⟩
  walk_at "go"
  have pa : p ≠ a := fun z => by rw [z, h1] at hp; cases hp
  have hp0 : H p = none := s1.none_ hp pa
  refine r_rngK (m - 1) (by omega) (by omega) ?_
  refine r_forR (n := m - 1) (fun i σ H' => ∃ v3, σ = [some (.ref a), some (.int (m : Int)), some (.ref p), v3] ∧ SameBut a H H' ∧ (∃ ns' : List Int, H' a = some (.lst (ns'.map V.int)) ∧ ns'.length ≤ ns.length) ∧ ∃ (l : List Nat) (c : Nat), H' p = some (.lst (nV (l ++ [c]))) ∧ l.length = i ∧ (l ++ [c]).Pairwise (· < ·) ∧ c ≤ 2 + 4 * i)
    ⟨none, rfl, (s1.mut hp0), ⟨ns1, by rw [upd_ne (Ne.symm pa)]; exact h1, l1⟩, [], r', upd_same, rfl, by simp, by omega⟩ ?_ ?_
  · rintro i σ H2 hi ⟨v3, rfl, s2, ⟨ns2, h2, l2⟩, l, c, hp2, hlen, asc, hc⟩
    rw [Int.zero_add]
    walk_at "go"
    have hix : (nV (l ++ [c]))[i]? = some (.int (c : Int)) := nV_at' (by rw [← hlen]; simp)
    refine r_tyL (SqL.of hp2) ?_
    walk_at "go"
    refine r_ixL (SqL.of hp2) (atI_nat hix) ?_
    walk_at "go"
    refine ⟨a, ns2, 4, rfl, h2, by omega, by decide, fun r ns3 H3 r0 r4 l3 h3 s3 => ?_⟩
    obtain ⟨r', rfl⟩ : ∃ r' : Nat, r = (r' : Int) := ⟨r.toNat, by omega⟩
    have hp3 := s3 _ _ pa hp2
    walk_at "go"
    refine r_app hp3 (Nat.lt_of_le_of_lt (m := 7) (by rw [nV_len, List.length_append, List.length_singleton]; omega) (by decide)) ?_
    refine ⟨_, rfl, (s2.trans s3).mut hp0, ⟨ns3, by rw [upd_ne (Ne.symm pa)]; exact h3, by omega⟩, l ++ [c], c + 1 + r', ?_, by rw [List.length_append, hlen]; rfl, ?_, by omega⟩
    · rw [upd_same, nV_append (l ++ [c])]
      have e : (c : Int) + 1 + (r' : Int) = ((c + 1 + r' : Nat) : Int) := by omega
      rw [e]
      rfl
    · refine List.pairwise_append.mpr ⟨asc, by simp, fun x hx y hy => ?_⟩
      rw [List.mem_singleton.mp hy]
      rcases List.mem_append.mp hx with hx | hx
      · have := (List.pairwise_append.mp asc).2.2 x hx c (List.mem_singleton.mpr rfl)
        omega
      · rw [List.mem_singleton.mp hx]
        omega
  · rintro σ H2 ⟨v3, rfl, s2, ⟨ns2, h2, l2⟩, l, c, hp2, hlen, asc, hc⟩
    walk_at "go"
    refine k p (l ++ [c]) ns2 H2 (by rw [List.length_append, hlen, List.length_singleton]; omega) asc (fun x hx => ?_) l2 h2 s2 hp0 hp2
    rcases List.mem_append.mp hx with hx | hx
    · have := (List.pairwise_append.mp asc).2.2 x hx c (List.mem_singleton.mpr rfl)
      omega
    · rw [List.mem_singleton.mp hx]
      omega
theorem scFit : FnScope ["_law_looks_here", "_law_name", "_law_look", "_law_other", "_law_seen"] ["_law_looks_here"] (defScope sFit) := ⟨rfl, rfl, rfl, by decide +kernel, rfl, by decide +kernel, by decide +kernel⟩
theorem ok_fit {f : Addr} {fd : FuncData} (F : Fun K "_law_looks_fit" "_law_looks_fit" sFit f fd) (D_lwithin : Fok P w K mg base 1 "_law_within" ["_law_one", "_law_other"] (spLies K)) :
    FnOk P w K mg base (L2.CX P w) 2 f fd ["_law_looks_here"] (spFit K) := by
  refine F.okX scFit (fun vs H Q E h => ?_) (fun cdv A outer s H vs Q E hr h => ?_)
  · obtain ⟨t, ls, rfl, _⟩ := h
    rfl
  obtain ⟨t, ls, rfl, ⟨ys, ht, hP⟩, hF, hlk, k⟩ := h
  have sc := scFit
  refine ⟨_, (pss_cons (ps_for (passes_of rfl) rfl (pi_tup (pv 0)) (pg_tup (by rfl) (pgs_cons (pg_name (i := 1) sc.nd rfl (Or.inl rfl)) (pgs_cons (pg_name (i := 2) sc.nd rfl (Or.inl rfl)) pgs_nil))) (pss_cons (ps_if (pt_cmpR (ninK K) (pv 1) (pv 2) (by with_unfolding_all rfl)) (pss_one (ps_ret pe_bl)) pss_nil)
      (pss_one (ps_for (passes_of rfl) rfl (pi_tup (pv 0)) (pg_tup (by rfl) (pgs_cons (pg_name (i := 3) sc.nd rfl (Or.inl rfl)) (pgs_cons (pg_name (i := 4) sc.nd rfl (Or.inl rfl)) pgs_nil))) (pss_one (ps_if (PW.pt (pw_and (pt_not (pt_val (pe_f D_lwithin (hr.mono (by decide)) (pa_cons (pv 2) (pa_cons (pv 4) pa_nil))))) (pw_and1 (pt_not (pt_val (pe_f D_lwithin (hr.mono (by decide)) (pa_cons (pv 4) (pa_cons (pv 2) pa_nil)))))))) (pss_one (ps_ret pe_bl)) pss_nil))))))
      (pss_one (ps_ret pe_bl))), ?_⟩
  have at_ : ∀ {i : Nat} {y : V} {H1 : Hp}, Same H H1 → ys[i]? = some y → ∃ il p r, y = .ref p ∧ il ∈ ls ∧ H1 p = some (.tup [.int (il.1 : Int), .ref r]) ∧ H1 r = some (.tup (nV il.2)) := fun {i y H1} s hy => by
    have hi : i < ls.length := by rw [← hP.1]; exact (List.getElem?_eq_some_iff.mp hy).1
    obtain ⟨p, r, e1, e2, e3⟩ := hP.2 i y ls[i] hy (List.getElem?_eq_getElem hi)
    exact ⟨ls[i], p, r, e1, List.getElem_mem hi, s _ _ e2, s _ _ e3⟩
  walk_at "go"
  refine r_tupK (SqT.of ht) ?_
  refine r_forT (xs := ys) (fun i σ H' => ∃ v1 v2 v3 v4, σ = [some (.ref t), v1, v2, v3, v4] ∧ Same H H') ⟨none, none, none, none, rfl, Same.refl _⟩ (fun i σ H' hi p => SqT.of (p.choose_spec.choose_spec.choose_spec.choose_spec.2 _ _ ht)) ?_ ?_
  · rintro i y σ H1 hy ⟨v1, v2, v3, v4, rfl, s1⟩
    obtain ⟨il, p, r, rfl, hil, hp, hr⟩ := at_ s1 hy
    obtain ⟨hself, hall⟩ := hF il hil
    refine r_gT (SqT.of hp) rfl ?_
    walk_at "go"
    refine ⟨rfl, ?_⟩
    walk_at "go"
    refine r_ninX (SqX.T hr) ?_
    walk_at "go"
    rw [decide_eq_true hself]
    refine ite_no rfl ?_
    walk_at "go"
    refine r_tupK (SqT.of (s1 _ _ ht)) ?_
    refine r_forT (xs := ys) (fun i σ H' => ∃ v3 v4, σ = [some (.ref t), some (.int (il.1 : Int)), some (.ref r), v3, v4] ∧ Same H1 H') ⟨v3, v4, rfl, Same.refl _⟩ (fun i σ H' hi p => SqT.of (p.choose_spec.choose_spec.2 _ _ (s1 _ _ ht))) ?_ ?_
    · rintro j y2 σ H2 hy2 ⟨v3, v4, rfl, s2⟩
      obtain ⟨il2, p2, r2, rfl, hil2, hp2, hr2⟩ := at_ (s1.trans s2) hy2
      refine r_gT (SqT.of hp2) rfl ?_
      walk_at "go"
      refine ⟨rfl, ?_⟩
      walk_at "go"
      refine ⟨.ref r, .ref r2, il.2, il2.2, rfl, ⟨r, rfl, SqX.T (s2 _ _ hr)⟩, ⟨r2, rfl, SqX.T hr2⟩, hlk _ hil, fun H3 s3 => ?_⟩
      walk_at "go"
      cases e1 : liesB il.2 il2.2 with
      | true =>
        refine iteF ?_
        walk_at "go"
        exact ⟨_, _, rfl, s2.trans s3⟩
      | false =>
        refine iteT ?_
        walk_at "go"
        refine ⟨.ref r2, .ref r, il2.2, il.2, rfl, ⟨r2, rfl, SqX.T (s3 _ _ hr2)⟩, ⟨r, rfl, SqX.T (s3 _ _ (s2 _ _ hr))⟩, hlk _ hil2, fun H4 s4 => ?_⟩
        walk_at "go"
        rcases hall il2 hil2 with e | e
        · rw [e1] at e
          cases e
        · rw [e]
          refine iteF ?_
          walk_at "go"
          exact ⟨_, _, rfl, s2.trans (s3.trans s4)⟩
    · rintro σ H2 ⟨v3, v4, rfl, s2⟩
      exact ⟨_, _, _, _, rfl, s1.trans s2⟩
  · rintro σ H1 ⟨v1, v2, v3, v4, rfl, s1⟩
    walk_at "go"
    exact k H1 s1
end
end K9
namespace K9
open PySem L2 Er K7M
/-- one step of a plain reading -/
local macro_rules | `(tactic| walk_at "step") => `(tactic| first
  | with_reducible refine r_seq ?_ | with_reducible refine r_nx ?_ | with_reducible refine r_asgN ?_ | with_reducible refine r_asgS ?_ | with_reducible refine r_asgT ?_ | with_reducible refine r_ifS ?_
  | with_reducible refine r_ret ?_ | with_reducible refine r_retN ?_ | with_reducible refine r_drop ?_ | with_reducible refine r_test ?_ | with_reducible refine r_B ?_ | with_reducible refine r_not ?_
  | with_reducible refine r_and ?_ | with_reducible refine r_or ?_ | with_reducible refine r_andV ?_ | with_reducible refine r_orV ?_ | with_reducible refine r_notV ?_
  | ((with_reducible refine' r_var ?e ?_); (case e => exact rfl)) | with_reducible refine r_c ?_ | with_reducible refine r_op ?_ | with_reducible refine r_un ?_
  | with_reducible refine r_I0 ?_ | with_reducible refine r_eqI ?_ | with_reducible refine r_neI ?_ | with_reducible refine r_bl ?_ | with_reducible refine r_nil ?_ | with_reducible refine r_cons ?_
  | with_reducible refine r_cb ?_ | with_reducible refine r_call ?_ | with_reducible refine r_tup ?_ | with_reducible refine r_lst ?_ | with_reducible refine r_fld ?_ | with_reducible refine r_bm ?_ | with_reducible refine r_bm0 ?_
  | with_reducible refine r_for ?_ | with_reducible refine r_rng ?_ | with_reducible refine r_rng2 ?_ | with_reducible refine r_lstI ?_ | with_reducible refine r_tupI ?_ | with_reducible refine r_lc ?_
  | with_reducible refine r_augS ?_ | with_reducible refine r_ipI ?_
  | with_reducible refine r_meth ?_ | with_reducible refine r_prop ?_ | with_reducible refine r_make ?_ | with_reducible refine r_din ?_ | with_reducible refine r_dnin ?_ | with_reducible refine r_dput ?_ | with_reducible refine r_dget ?_
  | with_reducible refine r_gN ?_ | with_reducible refine r_tsl ?_ | with_reducible refine r_noP ?_ | with_reducible refine r_part ?_ | with_reducible refine r_pI ?_ | with_reducible refine r_tif ?_ | with_reducible refine r_SL ?_ | with_reducible refine r_gC ?_ | with_reducible refine r_U ?_ | with_reducible refine r_sfld ?_ | with_reducible refine r_dnew ?_ | with_reducible refine r_keys ?_
  | with_reducible refine r_mkE ?_ | with_reducible refine iteT ?_ | with_reducible refine iteF ?_
  | with_reducible refine r_int ?_ | with_reducible refine r_min2 ?_ | with_reducible refine r_isN ?_ | with_reducible refine r_notN ?_)
/-- as far as it goes by itself -/
local macro_rules | `(tactic| walk_at "go") => `(tactic| ((repeat walk_at "step"); (try dsimp only)))

theorem asc_sub {a b : List Nat} (ha : a.Pairwise (· < ·)) (hb : b.Pairwise (· < ·)) (h : ∀ c ∈ b, c ∈ a) : b.Sublist a := by
  have e : b = a.filter (fun c => decide (c ∈ b)) := asc_unique hb (ha.filter _) fun c => by
    rw [List.mem_filter, decide_eq_true_iff]
    exact ⟨fun z => ⟨h c z, z⟩, fun z => z.2⟩
  rw [e]
  exact List.filter_sublist
theorem getD_at {ws : List Nat} {i : Nat} (h : i < ws.length) : ws[i]? = some (ws.getD i 0) := by
  simp [List.getD, h]
theorem range_getD (ws : List Nat) : (List.range ws.length).map (fun k => ws.getD k 0) = ws := by
  refine List.ext_getElem? fun i => ?_
  rw [List.getElem?_map]
  rcases Nat.lt_or_ge i ws.length with h | h
  · rw [List.getElem?_range h, getD_at h]
    rfl
  · rw [List.getElem?_eq_none (by rw [List.length_range]; exact h), List.getElem?_eq_none h]
    rfl
def lookF (ws w : List Nat) (s : Nat) : List Nat := ((List.range ws.length).filter fun j => decide (w.getD j 0 ≤ s)).map fun j => ws.getD j 0
def looksF (ws w s : List Nat) : List (Nat × List Nat) := (List.range ws.length).map fun k => (ws.getD k 0, lookF ws w (s.getD k 0))
theorem looksF_fst (ws w s : List Nat) : (looksF ws w s).map (·.1) = ws := by
  unfold looksF
  rw [List.map_map]
  exact range_getD ws
theorem lookF_sub (ws w : List Nat) (s : Nat) : (lookF ws w s).Sublist ws := by
  have h : (lookF ws w s).Sublist ((List.range ws.length).map fun k => ws.getD k 0) := List.filter_sublist.map _
  rw [range_getD] at h
  exact h
theorem lookF_mem {ws w : List Nat} {s c : Nat} : c ∈ lookF ws w s ↔ ∃ j, j < ws.length ∧ w.getD j 0 ≤ s ∧ ws.getD j 0 = c := by
  unfold lookF
  rw [List.mem_map]
  constructor
  · rintro ⟨j, hj, e⟩
    obtain ⟨h1, h2⟩ := List.mem_filter.mp hj
    exact ⟨j, List.mem_range.mp h1, of_decide_eq_true h2, e⟩
  · rintro ⟨j, h1, h2, e⟩
    exact ⟨j, List.mem_filter.mpr ⟨List.mem_range.mpr h1, decide_eq_true h2⟩, e⟩
theorem looksF_rnd {ws w s : List Nat} (asc : ws.Pairwise (· < ·)) (lt : ∀ c ∈ ws, c < 60) (hle : ∀ j, j < ws.length → w.getD j 0 ≤ s.getD j 0) : Rnd 60 (looksF ws w s) := by
  have at_ : ∀ il ∈ looksF ws w s, ∃ k, k < ws.length ∧ il = (ws.getD k 0, lookF ws w (s.getD k 0)) := fun il h => by
    obtain ⟨k, hk, e⟩ := List.mem_map.mp h
    exact ⟨k, List.mem_range.mp hk, e.symm⟩
  have asc' : ∀ x, (lookF ws w x).Pairwise (· < ·) := fun x => asc.sublist (lookF_sub ws w x)
  refine ⟨by rw [looksF_fst]; exact asc, fun il h => ?_, fun il h => ?_, fun il h => ?_, fun il h c hc => ?_, fun a ha b hb hab c hc => ?_⟩
  · obtain ⟨k, hk, rfl⟩ := at_ il h
    exact lt _ (List.mem_of_getElem? (getD_at hk))
  · obtain ⟨k, hk, rfl⟩ := at_ il h
    exact lookF_mem.mpr ⟨k, hk, hle k hk, rfl⟩
  · obtain ⟨k, hk, rfl⟩ := at_ il h
    exact order_self (asc' _) fun c hc => lt c ((lookF_sub ws w _).subset hc)
  · obtain ⟨k, hk, rfl⟩ := at_ il h
    rw [looksF_fst]
    exact (lookF_sub ws w _).subset hc
  · obtain ⟨k, hk, rfl⟩ := at_ a ha
    obtain ⟨j, hj, rfl⟩ := at_ b hb
    rcases Nat.le_total (s.getD k 0) (s.getD j 0) with h | h
    · obtain ⟨i, h1, h2, h3⟩ := lookF_mem.mp hc
      exact lookF_mem.mpr ⟨i, h1, by omega, h3⟩
    · have sub : (lookF ws w (s.getD j 0)).Sublist (lookF ws w (s.getD k 0)) := asc_sub (asc' _) (asc' _) fun c hc => by
        obtain ⟨i, h1, h2, h3⟩ := lookF_mem.mp hc
        exact lookF_mem.mpr ⟨i, h1, by omega, h3⟩
      have e := sub.eq_of_length_le hab
      show c ∈ lookF ws w (s.getD j 0)
      rw [e]
      exact hc
theorem getD_app {l : List Nat} {c j : Nat} (h : j < l.length) : (l ++ [c]).getD j 0 = l.getD j 0 := by
  simp [List.getD, List.getElem?_append_left h]
theorem getD_last (l : List Nat) (c : Nat) : (l ++ [c]).getD l.length 0 = c := by
  simp [List.getD]
section
variable {P : Program} {w : World} {K : PySem.W.Frag} {mg : Str → Option Value} {base : Heap} {CN CR CM : Addr}
theorem scLooks : FnScope ["_law_found", "_law_names_here", "_law_wrote", "_law_saw", "_law_name", "_law_early", "_law_pairs", "_law_k", "_law_look", "_law_j"] ["_law_found", "_law_names_here"] (defScope sLooks) := ⟨rfl, rfl, rfl, by decide +kernel, rfl, by decide +kernel, by decide +kernel⟩
theorem ok_looks {f : Addr} {fd : FuncData} (F : Fun K "_law_looks" "_law_looks" sLooks f fd) (m_len : mg "len" = none) (m_range : mg "range" = none) (m_tuple : mg "tuple" = none) (D_take : Fok P w K mg base 1 "_law_take" ["_law_found", "_law_many"] spTake) :
    FnOk P w K mg base (L2.CX P w) 2 f fd ["_law_found", "_law_names_here"] spLooks := by
  refine F.okX scLooks (fun vs H Q E h => ?_) (fun cdv A outer s H vs Q E hr h => ?_)
  · obtain ⟨a, b, ns, ws, rfl, _⟩ := h
    rfl
  obtain ⟨a, b, ns, ws, rfl, ha, hl, hb, hba, asc, lt, m1, m6, k⟩ := h
  have sc := scLooks
  refine ⟨_, (pss_cons (ps_set (i := 2) sc.nd rfl (Or.inr rfl) (pe_lst pa_nil))
      (pss_cons (ps_set (i := 3) sc.nd rfl (Or.inr rfl) (pe_lst pa_nil))
      (pss_cons (ps_for (passes_of rfl) rfl (pi_list (pv 1)) (pg_name (i := 4) sc.nd rfl (Or.inl rfl)) (pss_cons (ps_set (i := 5) sc.nd rfl (Or.inl rfl) (pe_f D_take (hr.mono (by decide)) (pa_cons (pv 0) (pa_cons pe_int pa_nil))))
      (pss_cons (ps_expr (pe_bm PySem.F.plainAttrs_list PySem.F.slot_list_append PySem.F.type_list_append mt_append (pv 2) (pa_cons (pv 5) pa_nil)))
      (pss_one (ps_expr (pe_bm PySem.F.plainAttrs_list PySem.F.slot_list_append PySem.F.type_list_append mt_append (pv 3) (pa_cons (pe_op op_add (pv 5) (pe_f D_take (hr.mono (by decide)) (pa_cons (pv 0) (pa_cons (pe_op op_sub pe_int (pv 5)) pa_nil)))) pa_nil)))))))
      (pss_cons (ps_set (i := 6) sc.nd rfl (Or.inl rfl) (pe_lst pa_nil))
      (pss_cons (ps_for (passes_of rfl) rfl (pi_range1 (by rfl) m_range (pa_cons (pe_callB (lenK K) (by rfl) m_len PySem.boot_len (pa_cons (pv 1) pa_nil)) pa_nil)) (pg_name (i := 7) sc.nd rfl (Or.inr rfl)) (pss_cons (ps_setLc (i := 8) (own := [("_law_j", 9)]) (g := gName 9)  (by rfl) sc.nd rfl rfl (sw_true rfl rfl rfl (by decide +kernel)) (pi_range1 (by rfl) m_range (pa_cons (pe_callB (lenK K) (by rfl) m_len PySem.boot_len (pa_cons (pv 1) pa_nil)) pa_nil)) (blkOk_by (own := [("_law_j", 9)]) (N := ["_law_found", "_law_names_here", "_law_wrote", "_law_saw", "_law_name", "_law_early", "_law_pairs", "_law_k", "_law_look", "_law_j"]) (sc := defScope sLooks) (by decide +kernel)) (fun _ _ _ _ _ => pg_name (i := 9) sc.nd rfl (Or.inl rfl)) (fun _ _ _ _ _ => (pts_one (pt_cmpR op_le (pe_ix (ixL K) (pv 2) (pv 9) (fun _ _ => rfl)) (pe_ix (ixL K) (pv 3) (pv 7) (fun _ _ => rfl)) (nomark _)))) (fun _ _ _ _ _ => (pe_ix (ixL K) (pv 1) (pv 9) (fun _ _ => rfl))))
      (pss_one (ps_expr (pe_bm PySem.F.plainAttrs_list PySem.F.slot_list_append PySem.F.type_list_append mt_append (pv 6) (pa_cons (pe_tup (pa_cons (pe_ix (ixL K) (pv 1) (pv 7) (fun _ _ => rfl)) (pa_cons (pe_callTy (tupOK K) (by rfl) m_tuple (by decide +kernel) (pa_cons (pv 8) pa_nil)) pa_nil))) pa_nil))))))
      (pss_one (ps_ret (pe_callTy (tupOK K) (by rfl) m_tuple (by decide +kernel) (pa_cons (pv 6) pa_nil))))))))), ?_⟩
  walk_at "go"
  refine ⟨by show 0 ≤ sizeLine; decide, fun W hW => ?_⟩
  have sW := same_new (o := .lst []) hW
  walk_at "go"
  refine ⟨by show 0 ≤ sizeLine; decide, fun S hS => ?_⟩
  have hS0 : H S = none := none_of_same sW hS
  have WS : W ≠ S := fun z => by rw [← z, upd_same] at hS; cases hS
  have Wa : W ≠ a := fun z => by rw [z, ha] at hW; cases hW
  have Sa : S ≠ a := fun z => by rw [z, ha] at hS0; cases hS0
  have s2 := sW.trans (same_new (o := .lst []) hS)
  have hW2 : (upd (upd H W (.lst [])) S (.lst [])) W = some (.lst (nV [])) := (same_new hS) _ _ upd_same
  have hS2 : (upd (upd H W (.lst [])) S (.lst [])) S = some (.lst (nV [])) := upd_same
  generalize upd (upd H W (.lst [])) S (.lst []) = H2 at s2 hW2 hS2 ⊢
  clear sW hS
  walk_at "go"
  refine r_lstK (SqL.of (s2 _ _ hb)) ?_
  refine r_forL (xs := nV ws) (fun i σ H' => ∃ v4 v5, σ = [some (.ref a), some (.ref b), some (.ref W), some (.ref S), v4, v5, none, none, none, none] ∧ SameBut a H H' ∧ (∃ ns' : List Int, H' a = some (.lst (ns'.map V.int)) ∧ ns'.length ≤ ns.length) ∧ ∃ w s : List Nat, H' W = some (.lst (nV w)) ∧ H' S = some (.lst (nV s)) ∧ w.length = i ∧ s.length = i ∧ ∀ j, j < i → w.getD j 0 ≤ s.getD j 0)
    ⟨none, none, rfl, SameBut.of s2, ⟨ns, s2 _ _ ha, Nat.le_refl _⟩, [], [], hW2, hS2, rfl, rfl, fun j hj => by omega⟩ (fun i σ H' hi p => SqL.of (p.choose_spec.choose_spec.2.1 _ _ hba hb)) ?_ ?_
  · rintro i y σ H3 hy ⟨v4, v5, rfl, s3, ⟨ns3, h3, l3⟩, w, s, hw3, hs3, lw, ls, hle⟩
    have hi6 : i < 6 := by
      have := (List.getElem?_eq_some_iff.mp hy).1
      rw [nV_len] at this
      omega
    walk_at "go"
    refine ⟨a, ns3, 4, rfl, h3, by omega, by decide, fun r ns4 H4 r0 r4 l4 h4 s4 => ?_⟩
    obtain ⟨r', rfl⟩ : ∃ r' : Nat, r = (r' : Int) := ⟨r.toNat, by omega⟩
    have hw4 := s4 _ _ Wa hw3
    have hs4 := s4 _ _ Sa hs3
    walk_at "go"
    refine r_tyL (SqL.of hw4) ?_
    walk_at "go"
    refine r_app hw4 (Nat.lt_of_le_of_lt (m := 6) (by rw [nV_len]; omega) (by decide)) ?_
    walk_at "go"
    have hS5 : (upd H4 W (.lst (nV w ++ [.int (r' : Int)]))) S = some (.lst (nV s)) := by rw [upd_ne (Ne.symm WS)]; exact hs4
    have hW5 : (upd H4 W (.lst (nV w ++ [.int (r' : Int)]))) W = some (.lst (nV (w ++ [r']))) := by rw [upd_same, nV_append]; rfl
    have ha5 : (upd H4 W (.lst (nV w ++ [.int (r' : Int)]))) a = some (.lst (ns4.map V.int)) := by rw [upd_ne (Ne.symm Wa)]; exact h4
    have s5 : SameBut a H (upd H4 W (.lst (nV w ++ [.int (r' : Int)]))) := (s3.trans s4).mut hW
    generalize upd H4 W (.lst (nV w ++ [.int (r' : Int)])) = H5 at hS5 hW5 ha5 s5 ⊢
    refine r_tyL (SqL.of hS5) ?_
    walk_at "go"
    refine ⟨a, ns4, 4 - (r' : Int), rfl, ha5, by omega, by omega, fun q ns6 H6 q0 q4 l6 h6 s6 => ?_⟩
    obtain ⟨q', rfl⟩ : ∃ q' : Nat, q = (q' : Int) := ⟨q.toNat, by omega⟩
    walk_at "go"
    have hS6 := s6 _ _ Sa hS5
    have hW6 := s6 _ _ Wa hW5
    refine r_app hS6 (Nat.lt_of_le_of_lt (m := 6) (by rw [nV_len]; omega) (by decide)) ?_
    refine ⟨_, _, rfl, (s5.trans s6).mut hS0, ⟨ns6, by rw [upd_ne (Ne.symm Sa)]; exact h6, by omega⟩, w ++ [r'], s ++ [r' + q'], by rw [upd_ne WS]; exact hW6, ?_, by rw [List.length_append, lw]; rfl, by rw [List.length_append, ls]; rfl, fun j hj => ?_⟩
    · rw [upd_same, nV_append]
      have e : (r' : Int) + (q' : Int) = ((r' + q' : Nat) : Int) := by omega
      rw [e]
      rfl
    · rcases Nat.lt_or_ge j i with hji | hji
      · rw [getD_app (by omega), getD_app (by omega)]
        exact hle j hji
      · have e : j = i := by omega
        subst e
        have e1 : (w ++ [r']).getD j 0 = r' := by rw [← lw]; exact getD_last _ _
        have e2 : (s ++ [r' + q']).getD j 0 = r' + q' := by rw [← ls]; exact getD_last _ _
        rw [e1, e2]
        omega
  · rintro σ H3 ⟨v4, v5, rfl, s3, ⟨ns3, h3, l3⟩, w, s, hw3, hs3, lw, ls, hle⟩
    rw [nV_len] at lw ls hle
    have hb3 := s3 _ _ hba hb
    walk_at "go"
    refine ⟨by show 0 ≤ sizeLine; decide, fun P0 hP0 => ?_⟩
    have sP := same_new (o := .lst []) hP0
    have hP4 : (upd H3 P0 (.lst [])) P0 = some (.lst []) := upd_same
    generalize upd H3 P0 (.lst []) = H4 at sP hP4 ⊢
    walk_at "go"
    refine r_lenL (SqL.of (sP _ _ hb3)) ?_
    rw [nV_len]
    walk_at "go"
    refine r_rngK ws.length (by omega) (by omega) ?_
    refine r_forR (n := ws.length) (fun i σ H' => ∃ v7 v8 ys, σ = [some (.ref a), some (.ref b), some (.ref W), some (.ref S), v4, v5, some (.ref P0), v7, v8, none] ∧ Same H3 H' ∧ H' P0 = some (.lst ys) ∧ PairsAt H' ys ((List.range i).map fun k => (ws.getD k 0, lookF ws w (s.getD k 0))))
      ⟨none, none, [], rfl, sP, hP4, rfl, fun i y il hy => by simp at hy⟩ ?_ ?_
    · rintro i σ H5 hi ⟨v7, v8, ys, rfl, s5, hP5, hPA⟩
      rw [Int.zero_add]
      have hb5 := s5 _ _ hb3
      walk_at "go"
      refine r_lenL (SqL.of hb5) ?_
      rw [nV_len]
      walk_at "go"
      refine r_rngK ws.length (by omega) (by omega) ?_
      refine r_lcR (fun j => decide (w.getD j 0 ≤ s.getD i 0)) (fun j => .int ((ws.getD j 0 : Nat) : Int)) (by omega) (fun _ => rfl) (fun j H6 hj s6 QT q => ?_) (fun j H6 hj _ s6 Q q => ?_) fun cl H6 hcl s6 h6 => ?_
      · have hw6 := s6 _ _ (s5 _ _ hw3)
        have hs6 := s6 _ _ (s5 _ _ hs3)
        walk_at "go"
        refine r_ixL (SqL.of hw6) (atI_nat (nV_at' (getD_at (by omega)))) ?_
        walk_at "go"
        refine r_ixL (SqL.of hs6) (atI_nat (nV_at' (getD_at (by omega)))) ?_
        walk_at "go"
        have e : decide (((w.getD j 0 : Nat) : Int) ≤ ((s.getD i 0 : Nat) : Int)) = decide (w.getD j 0 ≤ s.getD i 0) := decide_eq_decide.mpr (by omega)
        have y := q H6 (Same.refl _)
        rw [← e] at y
        exact y
      · walk_at "go"
        refine r_ixL (SqL.of (s6 _ _ hb5)) (atI_nat (nV_at' (getD_at (by omega)))) ?_
        exact q H6 (Same.refl _)
      have h6 : H6 cl = some (.lst (nV (lookF ws w (s.getD i 0)))) := by
        rw [h6]
        unfold lookF nV
        rw [List.map_map]
        rfl
      have hP6 := s6 _ _ hP5
      walk_at "go"
      refine r_tyL (SqL.of hP6) ?_
      walk_at "go"
      refine r_ixL (SqL.of (s6 _ _ hb5)) (atI_nat (nV_at' (getD_at hi))) ?_
      walk_at "go"
      refine r_tupL (SqL.of h6) fun t7 ht7 => ?_
      walk_at "go"
      refine ⟨by show 2 ≤ sizeLine; decide, fun t8 ht8 => ?_⟩
      walk_at "go"
      have s68 := (same_new (o := .tup (nV (lookF ws w (s.getD i 0)))) ht7).trans (same_new (o := .tup [.int ((ws.getD i 0 : Nat) : Int), .ref t7]) ht8)
      have hpair : PairAt (upd (upd H6 t7 (.tup (nV (lookF ws w (s.getD i 0))))) t8 (.tup [.int ((ws.getD i 0 : Nat) : Int), .ref t7])) (.ref t8) (ws.getD i 0, lookF ws w (s.getD i 0)) := ⟨t8, t7, rfl, upd_same, (same_new ht8) _ _ upd_same⟩
      generalize upd (upd H6 t7 (.tup (nV (lookF ws w (s.getD i 0))))) t8 _ = H8 at s68 hpair ⊢
      have hP8 := s68 _ _ hP6
      have lys : ys.length ≤ 6 := by
        rw [hPA.1, List.length_map, List.length_range]
        omega
      refine r_app hP8 (Nat.lt_of_le_of_lt (m := 6) lys (by decide)) ?_
      refine ⟨_, _, ys ++ [.ref t8], rfl, Same.upd2 (s5.trans (s6.trans s68)) hP0, upd_same, ?_⟩
      rw [List.range_succ, List.map_append]
      exact (((hPA.keep s6).keep s68).snoc hpair).but hP8 fun b u nb z => by rw [upd_ne nb]; exact z
    · rintro σ H5 ⟨v7, v8, ys, rfl, s5, hP5, hPA⟩
      walk_at "go"
      refine r_tupL (SqL.of hP5) fun t6 ht6 => ?_
      have s6 := same_new (o := .tup ys) ht6
      refine k t6 (looksF ws w s) ns3 _ (looksF_rnd asc lt hle) (looksF_fst ws w s) l3 (s6 _ _ (s5 _ _ h3)) ((s3.trans (SameBut.of s5)).trans (SameBut.of s6)) ⟨ys, upd_same, hPA.keep s6⟩
end
end K9
namespace K9
open PySem L2 Er K7M
section
variable {K : PySem.W.Frag} {σ : L2.St} {H : Hp} {Q : VK} {te : TE}
theorem r_lcPd {α : Type} {g : TG} {vs : List Nat} {a : Addr} (rs : List α) (gv : α → V) (σt : α → L2.St) (Rl : Addr → α → V → Hp → Prop) (away : ∀ t v Dl zs H H', H Dl = some (.lst zs) → Rl Dl t v H → (∀ b u, b ≠ Dl → H b = some u → H' b = some u) → Rl Dl t v H') (st : ∀ Dl t v H H', Same H H' → Rl Dl t v H → Rl Dl t v H')
    (hn : rs.length ≤ 100000) (hx : SqX K H a (rs.map gv)) (hg : ∀ t ∈ rs, ∀ H', Same H H' → ∀ k : L2.St → Hp → Prop, k (σt t) H' → g (gv t) (wipe σ vs) H' k) (hw : ∀ t, wipe (σt t) vs = wipe σ vs)
    (he : ∀ t ∈ rs, ∀ Dl acc H', Same H H' → H' Dl = some (.lst acc) → ∀ Q : VK, (∀ y H2, Same H' H2 → Rl Dl t y H2 → Q y H2) → te (σt t) H' Q)
    (q : ∀ p ys H', H p = none → Same H H' → H' p = some (.lst ys) → ys.length = rs.length → (∀ (i : Nat) (t : α) (y : V), rs[i]? = some t → ys[i]? = some y → Rl p t y H') → Q (.ref p) H') :
    seqK K (.ref a) H (lcK g tYes te vs σ Q) ∧ (∀ h : SqL K H a (rs.map gv), lcK g tYes te vs σ Q (Itl K a) H) ∧ ∀ h : SqT K H a (rs.map gv), lcK g tYes te vs σ Q (Itt K a) H := by
  have at_ : ∀ {i : Nat} {x : V}, (rs.map gv)[i]? = some x → ∃ z, rs[i]? = some z ∧ x = gv z ∧ z ∈ rs := fun {i x} h => by
    rw [List.getElem?_map] at h
    cases e : rs[i]? with
    | none => rw [e] at h; cases h
    | some z => rw [e] at h; exact ⟨z, rfl, (Option.some.inj h).symm, List.mem_of_getElem? e⟩
  have turn : ∀ (Dl : Addr), H Dl = none → ∀ (i : Nat) (x : V) (H' : Hp), (rs.map gv)[i]? = some x → (Same H H' ∧ ∃ acc, H' Dl = some (.lst acc) ∧ acc.length = i ∧ ∀ (j : Nat) (y : V), acc[j]? = some y → ∃ t, rs[j]? = some t ∧ Rl Dl t y H') →
      g x (wipe σ vs) H' fun σ2 H2 => wipe σ2 vs = wipe σ vs ∧ tYes σ2 H2 fun b H3 => if b = true then te σ2 H3 fun y H4 => ∃ acc, H4 Dl = some (.lst acc) ∧ acc.length < sizeLine ∧ (Same H (upd H4 Dl (.lst (acc ++ [y]))) ∧ ∃ ac, (upd H4 Dl (.lst (acc ++ [y]))) Dl = some (.lst ac) ∧ ac.length = i + 1 ∧ ∀ (j : Nat) (y' : V), ac[j]? = some y' → ∃ t, rs[j]? = some t ∧ Rl Dl t y' (upd H4 Dl (.lst (acc ++ [y]))))
        else (Same H H3 ∧ ∃ acc, H3 Dl = some (.lst acc) ∧ acc.length = i + 1 ∧ ∀ (j : Nat) (y : V), acc[j]? = some y → ∃ t, rs[j]? = some t ∧ Rl Dl t y H3) := fun Dl hD i x H' hi p => by
    obtain ⟨s, acc, hl, la, ha⟩ := p
    obtain ⟨t, ht, rfl, hm⟩ := at_ hi
    refine hg t hm H' s _ ⟨hw t, ?_⟩
    refine r_tYes ?_
    refine iteT ?_
    refine lcm_core (n := rs.length) (Rl := fun i v H => ∃ t, rs[i]? = some t ∧ Rl Dl t v H) (fun i v H H' s p => ?_) hD s hl la ha (Nat.lt_of_lt_of_le (List.getElem?_eq_some_iff.mp ht).1 hn) (fun j y H H' h1 h2 h3 => ?_) fun Q k => ?_
    · obtain ⟨t, h1, h2⟩ := p
      exact ⟨t, h1, st Dl t v H H' s h2⟩
    · obtain ⟨t, e1, e2⟩ := h2
      exact ⟨t, e1, away t y Dl acc H H' h1 e2 h3⟩
    · exact he t hm Dl acc H' s hl Q fun y H2 s2 r => k y H2 s2 ⟨t, ht, r⟩
  have fin : ∀ (Dl : Addr), H Dl = none → ∀ H', (Same H H' ∧ ∃ acc, H' Dl = some (.lst acc) ∧ acc.length = (rs.map gv).length ∧ ∀ (j : Nat) (y : V), acc[j]? = some y → ∃ t, rs[j]? = some t ∧ Rl Dl t y H') → Q (.ref Dl) H' := fun Dl hD H' p => by
    obtain ⟨s, acc, hl, la, ha⟩ := p
    rw [List.length_map] at la
    refine q Dl acc H' hD s hl la fun i t y h1 h2 => ?_
    obtain ⟨t', h3, h4⟩ := ha i y h2
    rw [h1] at h3
    cases h3
    exact h4
  have h0 : ∀ (Dl : Addr), H Dl = none → (Same H (upd H Dl (.lst [])) ∧ ∃ acc, (upd H Dl (.lst [])) Dl = some (.lst acc) ∧ acc.length = 0 ∧ ∀ (j : Nat) (y : V), acc[j]? = some y → ∃ t, rs[j]? = some t ∧ Rl Dl t y (upd H Dl (.lst []))) := fun Dl hD => ⟨fun b o z => by rw [upd_ne (ne_of_none z hD)]; exact z, [], upd_same, rfl, fun j y h => by simp at h⟩
  have hL : ∀ h : SqL K H a (rs.map gv), lcK g tYes te vs σ Q (Itl K a) H := fun h Dl hD =>
    lc_list (xs := rs.map gv) (fun i H' => Same H H' ∧ ∃ acc, H' Dl = some (.lst acc) ∧ acc.length = i ∧ ∀ (j : Nat) (y : V), acc[j]? = some y → ∃ t, rs[j]? = some t ∧ Rl Dl t y H') (h0 Dl hD) (fun i H' _ p => p.1.seq h) (fun i x H' hi p => turn Dl hD i x H' hi p) fun H' p => fin Dl hD H' p
  have hT : ∀ h : SqT K H a (rs.map gv), lcK g tYes te vs σ Q (Itt K a) H := fun h Dl hD =>
    lc_tup (xs := rs.map gv) (fun i H' => Same H H' ∧ ∃ acc, H' Dl = some (.lst acc) ∧ acc.length = i ∧ ∀ (j : Nat) (y : V), acc[j]? = some y → ∃ t, rs[j]? = some t ∧ Rl Dl t y H') (h0 Dl hD) (fun i H' _ p => same_tup p.1 h) (fun i x H' hi p => turn Dl hD i x H' hi p) fun H' p => fin Dl hD H' p
  exact ⟨hx.elim (fun h => r_seqL h (hL h)) fun h => r_seqT h (hT h), hL, hT⟩
end
/-- one step of a plain reading -/
local macro_rules | `(tactic| walk_at "step") => `(tactic| first
  | with_reducible refine r_seq ?_ | with_reducible refine r_nx ?_ | with_reducible refine r_asgN ?_ | with_reducible refine r_asgS ?_ | with_reducible refine r_asgT ?_ | with_reducible refine r_ifS ?_
  | with_reducible refine r_ret ?_ | with_reducible refine r_retN ?_ | with_reducible refine r_drop ?_ | with_reducible refine r_test ?_ | with_reducible refine r_B ?_ | with_reducible refine r_not ?_
  | with_reducible refine r_and ?_ | with_reducible refine r_or ?_ | with_reducible refine r_andV ?_ | with_reducible refine r_orV ?_ | with_reducible refine r_notV ?_
  | ((with_reducible refine' r_var ?e ?_); (case e => exact rfl)) | with_reducible refine r_c ?_ | with_reducible refine r_op ?_ | with_reducible refine r_un ?_
  | with_reducible refine r_I0 ?_ | with_reducible refine r_eqI ?_ | with_reducible refine r_neI ?_ | with_reducible refine r_bl ?_ | with_reducible refine r_nil ?_ | with_reducible refine r_cons ?_
  | with_reducible refine r_cb ?_ | with_reducible refine r_call ?_ | with_reducible refine r_tup ?_ | with_reducible refine r_lst ?_ | with_reducible refine r_fld ?_ | with_reducible refine r_bm ?_ | with_reducible refine r_bm0 ?_
  | with_reducible refine r_for ?_ | with_reducible refine r_rng ?_ | with_reducible refine r_rng2 ?_ | with_reducible refine r_lstI ?_ | with_reducible refine r_tupI ?_ | with_reducible refine r_lc ?_
  | with_reducible refine r_augS ?_ | with_reducible refine r_ipI ?_
  | with_reducible refine r_meth ?_ | with_reducible refine r_prop ?_ | with_reducible refine r_make ?_ | with_reducible refine r_din ?_ | with_reducible refine r_dnin ?_ | with_reducible refine r_dput ?_ | with_reducible refine r_dget ?_
  | with_reducible refine r_gN ?_ | with_reducible refine r_tsl ?_ | with_reducible refine r_noP ?_ | with_reducible refine r_part ?_ | with_reducible refine r_pI ?_ | with_reducible refine r_tif ?_ | with_reducible refine r_SL ?_ | with_reducible refine r_gC ?_ | with_reducible refine r_U ?_ | with_reducible refine r_sfld ?_ | with_reducible refine r_dnew ?_ | with_reducible refine r_keys ?_
  | with_reducible refine r_mkE ?_ | with_reducible refine iteT ?_ | with_reducible refine iteF ?_
  | with_reducible refine r_int ?_ | with_reducible refine r_min2 ?_ | with_reducible refine r_isN ?_ | with_reducible refine r_notN ?_)
/-- as far as it goes by itself -/
local macro_rules | `(tactic| walk_at "go") => `(tactic| ((repeat walk_at "step"); (try dsimp only)))

/-- a list of rows of names, each a list -/
def ItsLL (H : Hp) (p : Addr) (bs : List (List Nat)) : Prop := ∃ ts : List (Addr × List Nat), H p = some (.lst (ts.map fun t => V.ref t.1)) ∧ ts.map (·.2) = bs ∧ ∀ t ∈ ts, H t.1 = some (.lst (nV t.2))
def spLP (K : PySem.W.Frag) : Sp := fun vs H Q _ => ∃ (a : Addr) (l : List Nat), vs = [.ref a] ∧ SqL K H a (nV l) ∧ l.length ≤ 6 ∧ ∀ p H', H p = none → Same H H' → ItsLL H' p ((partsF l).drop 1) → Q (.ref p) H'
def spDue (K : PySem.W.Frag) : Sp := fun vs H Q _ => ∃ (a : Addr) (ws : List Nat), vs = [.ref a] ∧ SqL K H a (nV ws) ∧ ws.Nodup ∧ 1 ≤ ws.length ∧ ws.length ≤ 5 ∧ ∀ p H', Same H H' → RowsLst H' p (WR ws) → Q (.ref p) H'
theorem RowsLst.keep {H H' : Hp} {p : Addr} {LS : List (List (Nat × List Nat))} (h : RowsLst H p LS) (s : Same H H') : RowsLst H' p LS := by
  obtain ⟨ts, h1, h2, h3⟩ := h
  exact ⟨ts, s _ _ h1, h2, fun t ht => (h3 t ht).keep s⟩
section
variable {P : Program} {w : World} {K : PySem.W.Frag} {mg : Str → Option Value} {base : Heap} {CN CR CM : Addr}
theorem scLP : FnScope ["_law_names_here", "_law_rows", "_law_name", "_law_row"] ["_law_names_here"] (defScope sLParts) := ⟨rfl, rfl, rfl, by decide +kernel, rfl, by decide +kernel, by decide +kernel⟩
theorem ok_lparts {f : Addr} {fd : FuncData} (F : Fun K "_law_parts_of" "_law_parts_of" sLParts f fd) (m_len : mg "len" = none) : FnOk P w K mg base (L2.CX P w) 1 f fd ["_law_names_here"] (spLP K) := by
  refine F.okX scLP (fun vs H Q E h => ?_) (fun cdv A outer s H vs Q E hr h => ?_)
  · obtain ⟨a, l, rfl, _⟩ := h
    rfl
  obtain ⟨a, l, rfl, ha, hl, k⟩ := h
  have sc := scLP
  refine ⟨_, (pss_cons (ps_set (i := 1) sc.nd rfl (Or.inl rfl) (pe_lst (pa_cons (pe_lst pa_nil) pa_nil)))
      (pss_cons (ps_for (passes_of rfl) rfl (pi_list (pv 0)) (pg_name (i := 2) sc.nd rfl (Or.inr rfl)) (pss_one (ps_set (i := 1) sc.nd rfl (Or.inl rfl) (pe_op op_cat (pv 1) (pe_lc (own := [("_law_row", 3)]) (g := gName 3) (tt := tYes) rfl sc.nd (pi_list (pv 1)) (blkOk_by (own := [("_law_row", 3)]) (N := ["_law_names_here", "_law_rows", "_law_name", "_law_row"]) (sc := defScope sLParts) (by decide +kernel)) (fun _ _ _ _ _ => pg_name (i := 3) sc.nd rfl (Or.inl rfl)) (fun _ _ _ _ _ => pts_nil) (fun _ _ _ _ _ => (pe_op op_cat (pv 3) (pe_lst (pa_cons (pv 2) pa_nil)))))))))
      (pss_one (ps_ret (pe_lc (own := [("_law_row", 3)]) (g := gName 3)  rfl sc.nd (pi_list (pv 1)) (blkOk_by (own := [("_law_row", 3)]) (N := ["_law_names_here", "_law_rows", "_law_name", "_law_row"]) (sc := defScope sLParts) (by decide +kernel)) (fun _ _ _ _ _ => pg_name (i := 3) sc.nd rfl (Or.inl rfl)) (fun _ _ _ _ _ => (pts_one (pt_cmpR op_gt (pe_callB (lenK K) (by rfl) m_len PySem.boot_len (pa_cons (pv 3) pa_nil)) pe_int (nomark _)))) (fun _ _ _ _ _ => (pv 3))))))), ?_⟩
  walk_at "go"
  refine ⟨by show 0 ≤ sizeLine; decide, fun t0 ht0 => ?_⟩
  walk_at "go"
  refine ⟨by show 1 ≤ sizeLine; decide, fun p0 hp0 => ?_⟩
  have s2 := (same_new (o := .lst []) ht0).trans (same_new (o := .lst [.ref t0]) hp0)
  have h2 : ItsLL (upd (upd H t0 (.lst [])) p0 (.lst [.ref t0])) p0 (partsF (l.take 0)) := ⟨[(t0, [])], upd_same, rfl, fun t ht => by
    rw [List.mem_singleton.mp ht]
    exact (same_new hp0) _ _ upd_same⟩
  generalize upd (upd H t0 (.lst [])) p0 (.lst [.ref t0]) = H2 at s2 h2 ⊢
  walk_at "go"
  refine r_lstK (s2.seq ha) ?_
  refine r_forL (xs := nV l) (fun i σ H' => ∃ p1 v2, σ = [some (.ref a), some (.ref p1), v2, none] ∧ Same H H' ∧ ItsLL H' p1 (partsF (l.take i))) ⟨p0, none, rfl, s2, h2⟩ (fun i σ H' hi p => p.choose_spec.choose_spec.2.1.seq ha) ?_ ?_
  · rintro i x σ H3 hx ⟨p1, v2, rfl, s3, ts, h3, ets, hts⟩
    obtain ⟨c, hc, rfl⟩ := nV_at hx
    have hi : i < l.length := (List.getElem?_eq_some_iff.mp hc).1
    have etk : l.take (i + 1) = l.take i ++ [c] := by rw [List.take_add_one, hc]; rfl
    have epf : partsF (l.take (i + 1)) = prtS (partsF (l.take i)) c := by
      rw [etk]
      unfold partsF
      rw [List.foldl_append]
      rfl
    have elen : ts.length ≤ 64 := by
      have e1 := congrArg List.length ets
      rw [List.length_map, parts_len, List.length_take] at e1
      have : 2 ^ min i l.length ≤ 2 ^ 6 := Nat.pow_le_pow_right (by decide) (by omega)
      omega
    have eit : ∀ t ∈ ts, t.2.length ≤ 6 := fun t ht => by
      have : t.2 ∈ partsF (l.take i) := by rw [← ets]; exact List.mem_map.mpr ⟨t, ht, rfl⟩
      have := (parts_mem.mp this).length_le
      rw [List.length_take] at this
      omega
    walk_at "go"
    refine r_lstK (SqL.of h3) ?_
    refine (r_lcPd ts (fun t => V.ref t.1) (fun t => [some (.ref a), some (.ref p1), some (.int (c : Int)), some (.ref t.1)]) (fun Dl t y H => ∃ q, y = .ref q ∧ H q = some (.lst (nV (t.2 ++ [c]))) ∧ q ≠ Dl) (fun t v Dl zs H H' h1 h2 h3 => ?_) (fun Dl t v H H' s h => ?_) (by omega) (.inl (SqL.of h3)) (fun t ht H4 s4 k2 hk2 => ?_) (fun t => rfl) (fun t ht Dl acc H4 s4 hDl Q y => ?_) fun p ys H4 hp s4 hys hlen hat => ?_).2.1 (SqL.of h3)
    · obtain ⟨q, e1, e2, e3⟩ := h2
      exact ⟨q, e1, h3 _ _ e3 e2, e3⟩
    · obtain ⟨q, e1, e2, e3⟩ := h
      exact ⟨q, e1, s _ _ e2, e3⟩
    · exact hk2
    · walk_at "go"
      refine ⟨by show 1 ≤ sizeLine; decide, fun q hq => ?_⟩
      have sq := same_new (o := .lst [.int (c : Int)]) hq
      refine r_catL (sq _ _ (s4 _ _ (hts t ht))) upd_same (by rw [nV_len, List.length_singleton]; have := eit t ht; omega) fun p hp => ?_
      refine y _ _ (sq.trans (same_new hp)) ⟨p, rfl, ?_, fun z => ?_⟩
      · rw [upd_same, nV_append]
        rfl
      · rw [z, sq _ _ hDl] at hp
        cases hp
    obtain ⟨bs, rfl, ekb, hbs⟩ := collect (ka := fun t : Addr × List Nat => t.2 ++ [c]) (kb := Prod.snd) (vb := fun b : Addr × List Nat => V.ref b.1) (At := fun b : Addr × List Nat => H4 b.1 = some (.lst (nV b.2))) ts ys hlen fun i t y h1 h2 => by
      obtain ⟨q, e1, e2, _⟩ := hat i t y h1 h2
      exact ⟨(q, t.2 ++ [c]), e1, rfl, e2⟩
    have hbl : bs.length = ts.length := by rw [← hlen, List.length_map]
    refine r_catL (s4 _ _ h3) hys (by rw [List.length_map, List.length_map]; omega) fun p5 hp5 => ?_
    have s5 := same_new (o := .lst (ts.map (fun t => V.ref t.1) ++ bs.map fun b => V.ref b.1)) hp5
    refine ⟨p5, _, rfl, s3.trans (s4.trans s5), ts ++ bs, by rw [upd_same, List.map_append], ?_, fun t ht => s5 _ _ ?_⟩
    · rw [epf, List.map_append, ekb, ets]
      unfold prtS
      rw [← ets, List.map_map]
      rfl
    · rcases List.mem_append.mp ht with ht | ht
      · exact s4 _ _ (hts t ht)
      · exact hbs t ht
  · rintro σ H3 ⟨p1, v2, rfl, s3, ts, h3, ets, hts⟩
    rw [nV_len, List.take_length] at ets
    have elen : ts.length ≤ 64 := by
      have e1 := congrArg List.length ets
      rw [List.length_map, parts_len] at e1
      have : 2 ^ l.length ≤ 2 ^ 6 := Nat.pow_le_pow_right (by decide) (by omega)
      omega
    walk_at "go"
    refine r_lstK (SqL.of h3) ?_
    refine (r_lcZX ts (fun t => V.ref t.1) (fun t => !t.2.isEmpty) (fun t => V.ref t.1) (.inl (SqL.of h3)) (by omega) (fun _ => rfl) (fun t ht H4 s4 QT y => ?_) (fun t ht H4 _ s4 Q y => ?_) fun p4 H4 hp4 s4 h4 => ?_).2.1 (SqL.of h3)
    · walk_at "go"
      refine r_lenL (SqL.of (s4 _ _ (hts t ht))) ?_
      rw [nV_len]
      walk_at "go"
      have e : decide ((0 : Int) < (t.2.length : Int)) = !t.2.isEmpty := by
        cases t.2 with
        | nil => rfl
        | cons x xs =>
          rw [List.length_cons]
          exact decide_eq_true (by omega)
      have y := y H4 (Same.refl _)
      rw [← e] at y
      exact y
    · walk_at "go"
      exact y H4 (Same.refl _)
    · refine k p4 H4 (none_of_same s3 hp4) (s3.trans s4) ⟨ts.filter fun t => !t.2.isEmpty, h4, ?_, fun t ht => s4 _ _ (hts t (List.mem_filter.mp ht).1)⟩
      rw [← parts_drop, ← ets, List.filter_map]
      rfl
theorem scDue : FnScope ["_law_names_here", "_law_rounds", "_law_lone", "_law_most", "_law_some", "_law_pairs", "_law_name"] ["_law_names_here"] (defScope sDue) := ⟨rfl, rfl, rfl, by decide +kernel, rfl, by decide +kernel, by decide +kernel⟩
theorem ok_due {f : Addr} {fd : FuncData} (F : Fun K "_law_waiting_due" "_law_waiting_due" sDue f fd) (m_tuple : mg "tuple" = none) (m_sorted : mg "sorted" = none) (D_lparts : Fok P w K mg base 1 "_law_parts_of" ["_law_names_here"] (spLP K)) : FnOk P w K mg base (L2.CX P w) 2 f fd ["_law_names_here"] (spDue K) := by
  refine F.okX scDue (fun vs H Q E h => ?_) (fun cdv A outer s H vs Q E hr h => ?_)
  · obtain ⟨a, ws, rfl, _⟩ := h
    rfl
  obtain ⟨b0, ws, rfl, hb, ndw, lw1, lw5, k⟩ := h
  have sc := scDue
  refine ⟨_, (pss_cons (ps_set (i := 1) sc.nd rfl (Or.inl rfl) (pe_lst (pa_cons (pe_callTy (tupOK K) (by rfl) m_tuple (by decide +kernel) (pa_cons (pe_lc (own := [("_law_name", 6)]) (g := gName 6) (tt := tYes) rfl sc.nd (pi_list (pv 0)) (blkOk_by (own := [("_law_name", 6)]) (N := ["_law_names_here", "_law_rounds", "_law_lone", "_law_most", "_law_some", "_law_pairs", "_law_name"]) (sc := defScope sDue) (by decide +kernel)) (fun _ _ _ _ _ => pg_name (i := 6) sc.nd rfl (Or.inl rfl)) (fun _ _ _ _ _ => pts_nil) (fun _ _ _ _ _ => (pe_tup (pa_cons (pv 6) (pa_cons (pe_callTy (tupOK K) (by rfl) m_tuple (by decide +kernel) (pa_cons (pv 0) pa_nil)) pa_nil))))) pa_nil)) pa_nil)))
      (pss_cons (ps_for (passes_of rfl) rfl (pi_list (pv 0)) (pg_name (i := 2) sc.nd rfl (Or.inr rfl)) (pss_cons (ps_setLc (i := 3) (own := [("_law_name", 6)]) (g := gName 6)  (by rfl) sc.nd rfl rfl (sw_true rfl rfl rfl (by decide +kernel)) (pi_list (pv 0)) (blkOk_by (own := [("_law_name", 6)]) (N := ["_law_names_here", "_law_rounds", "_law_lone", "_law_most", "_law_some", "_law_pairs", "_law_name"]) (sc := defScope sDue) (by decide +kernel)) (fun _ _ _ _ _ => pg_name (i := 6) sc.nd rfl (Or.inl rfl)) (fun _ _ _ _ _ => (pts_one (pt_cmpR op_ne (pv 6) (pv 2) (nomark _)))) (fun _ _ _ _ _ => (pv 6)))
      (pss_one (ps_for (passes_of rfl) rfl (pi_list (pe_f D_lparts (hr.mono (by decide)) (pa_cons (pv 3) pa_nil))) (pg_name (i := 4) sc.nd rfl (Or.inl rfl)) (pss_cons (ps_set (i := 5) sc.nd rfl (Or.inl rfl) (pe_lst pa_nil))
      (pss_cons (ps_for (passes_of rfl) rfl (pi_list (pv 0)) (pg_name (i := 6) sc.nd rfl (Or.inl rfl)) (pss_one (ps_if (pt_cmpR (inK K) (pv 6) (pv 4) (by with_unfolding_all rfl)) (pss_one (ps_expr (pe_bm PySem.F.plainAttrs_list PySem.F.slot_list_append PySem.F.type_list_append mt_append (pv 5) (pa_cons (pe_tup (pa_cons (pv 6) (pa_cons (pe_callTy (tupOK K) (by rfl) m_tuple (by decide +kernel) (pa_cons (pv 3) pa_nil)) pa_nil))) pa_nil)))) (pss_one (ps_expr (pe_bm PySem.F.plainAttrs_list PySem.F.slot_list_append PySem.F.type_list_append mt_append (pv 5) (pa_cons (pe_tup (pa_cons (pv 6) (pa_cons (pe_callTy (tupOK K) (by rfl) m_tuple (by decide +kernel) (pa_cons (pv 0) pa_nil)) pa_nil))) pa_nil)))))))
      (pss_one (ps_expr (pe_bm PySem.F.plainAttrs_list PySem.F.slot_list_append PySem.F.type_list_append mt_append (pv 1) (pa_cons (pe_callTy (tupOK K) (by rfl) m_tuple (by decide +kernel) (pa_cons (pv 5) pa_nil)) pa_nil))))))))))
      (pss_one (ps_ret (pe_callB (c_sortDat hr.units) (by rfl) m_sorted (by decide +kernel) (pa_cons (pv 1) pa_nil)))))), ?_⟩
  walk_at "go"
  refine r_lstK hb ?_
  refine (r_lcPm ws (fun (c : Nat) => V.int (c : Int)) (fun c => [some (.ref b0), none, none, none, none, none, some (.int (c : Int))]) (fun c y H => PairAt H y (c, ws)) (fun t v Dl zs H H' h1 h2 h3 => h2.but h1 h3) (fun t v H H' s h => h.keep s) (by omega) (.inl hb) (fun t ht H4 s4 k2 hk2 => ?_) (fun t => rfl) (fun c hc H4 s4 Q y => ?_) fun p ys H4 hp s4 hys hlen hat => ?_).2.1 hb
  · exact hk2
  · walk_at "go"
    refine r_tupL (s4.seq hb) fun t1 ht1 => ?_
    walk_at "go"
    refine ⟨by show 2 ≤ sizeLine; decide, fun q hq => ?_⟩
    have sq := (same_new (o := .tup (nV ws)) ht1).trans (same_new (o := .tup [.int (c : Int), .ref t1]) hq)
    exact y _ _ sq ⟨q, t1, rfl, upd_same, (same_new hq) _ _ upd_same⟩
  have hP := pairs_at (F := fun c => (c, ws)) hlen hat
  walk_at "go"
  refine r_tupL (SqL.of hys) fun t5 ht5 => ?_
  walk_at "go"
  refine ⟨by show 1 ≤ sizeLine; decide, fun p0 hp0 => ?_⟩
  walk_at "go"
  have s5 := (same_new (o := .tup ys) ht5).trans (same_new (o := .lst [.ref t5]) hp0)
  have hR0 : RowsLst (upd (upd H4 t5 (.tup ys)) p0 (.lst [.ref t5])) p0 (fullR ws :: (ws.take 0).flatMap (lates ws)) := ⟨[(t5, fullR ws)], upd_same, rfl, fun t ht => by
    rw [List.mem_singleton.mp ht]
    exact ⟨ys, (same_new hp0) _ _ upd_same, hP.keep s5⟩⟩
  have hp00 : H p0 = none := none_of_same (s4.trans (same_new (o := .tup ys) ht5)) hp0
  have s05 := s4.trans s5
  generalize upd (upd H4 t5 (.tup ys)) p0 (.lst [.ref t5]) = H5 at s05 hR0 ⊢
  clear s5 s4 hat hP hys ht5 hp0 hp
  walk_at "go"
  refine r_lstK (s05.seq hb) ?_
  refine r_forL (xs := nV ws) (fun i σ H' => ∃ v2 v3 v4 v5 v6, σ = [some (.ref b0), some (.ref p0), v2, v3, v4, v5, v6] ∧ Same H H' ∧ RowsLst H' p0 (fullR ws :: (ws.take i).flatMap (lates ws)))
    ⟨none, none, none, none, none, rfl, s05, hR0⟩ (fun i σ H' hi p => p.choose_spec.choose_spec.choose_spec.choose_spec.choose_spec.2.1.seq hb) ?_ ?_
  · rintro i y σ H6 hy ⟨v2, v3, v4, v5, v6, rfl, s6, hR6⟩
    obtain ⟨late, hc, rfl⟩ := nV_at hy
    have hi : i < ws.length := (List.getElem?_eq_some_iff.mp hc).1
    have hlate := List.mem_of_getElem? hc
    have etk : ws.take (i + 1) = ws.take i ++ [late] := by rw [List.take_add_one, hc]; rfl
    have eL : (ws.take (i + 1)).flatMap (lates ws) = (ws.take i).flatMap (lates ws) ++ lates ws late := by
      rw [etk, List.flatMap_append]
      simp
    have lL : ((ws.take i).flatMap (lates ws)).length ≤ 100 := by
      have h1 := ln_flat (lates ws) 15 (ws.take i) fun c hc => by
        rw [lates_len ndw (List.mem_of_mem_take hc)]
        have : 2 ^ (ws.length - 1) ≤ 2 ^ 4 := Nat.pow_le_pow_right (by decide) (by omega)
        omega
      rw [List.length_take] at h1
      have : min i ws.length * 15 ≤ 5 * 15 := Nat.mul_le_mul_right 15 (by omega)
      omega
    have lO : (oth ws late).length + 1 = ws.length := oth_len ndw hlate
    walk_at "go"
    refine r_lstK (s6.seq hb) ?_
    refine (r_lcZX ws (fun (c : Nat) => V.int (c : Int)) (fun c => !decide (c = late)) (fun (c : Nat) => V.int (c : Int)) (.inl (s6.seq hb)) (by omega) (fun _ => rfl) (fun c hc H7 s7 QT y => ?_) (fun c hc H7 _ s7 Q y => ?_) fun p7 H7 hp7 s7 h7 => ?_).2.1 (s6.seq hb)
    · walk_at "go"
      have e : decide ((c : Int) = (late : Int)) = decide (c = late) := decide_eq_decide.mpr (by omega)
      have y := y H7 (Same.refl _)
      rw [← e] at y
      exact y
    · walk_at "go"
      exact y H7 (Same.refl _)
    have h7 : H7 p7 = some (.lst (nV (oth ws late))) := h7
    generalize hO : oth ws late = O at h7 lO
    obtain ⟨ts6, r1, r2, r3⟩ := hR6
    have p0p7 : p7 ≠ p0 := fun z => by
      rw [z, r1] at hp7
      cases hp7
    walk_at "go"
    refine ⟨p7, O, rfl, SqL.of h7, by omega, fun p9 H9 hn9 s9 hI9 => ?_⟩
    obtain ⟨es, h9, ees, hes⟩ := hI9
    have s89 := s7.trans s9
    have h79 := s9 _ _ h7
    have hR9 : RowsLst H9 p0 (fullR ws :: (ws.take i).flatMap (lates ws)) := ⟨ts6, s89 _ _ r1, r2, fun t ht => (r3 t ht).keep s89⟩
    have hd9 : (.ref p0 : V) = .ref p0 := rfl
    have p0p9 : p9 ≠ p0 := fun z => by
      rw [z, s7 _ _ r1] at hn9
      cases hn9
    have s09 := s6.trans s89
    walk_at "go"
    refine r_lstK (SqL.of h9) ?_
    have les : es.length ≤ 16 := by
      have e1 := congrArg List.length ees
      rw [List.length_map, List.length_drop, parts_len] at e1
      have : 2 ^ O.length ≤ 2 ^ 4 := Nat.pow_le_pow_right (by decide) (by omega)
      omega
    have esp : ∀ t ∈ es, t.1 ≠ p0 := fun t ht z => by
      have a1 := hes t ht
      rw [z, s89 _ _ r1] at a1
      injection a1 with a1
      injection a1 with a1
      obtain ⟨t0, ts9, ets9⟩ : ∃ t0 ts9, ts6 = t0 :: ts9 := by
        cases ts6 with
        | nil => cases r2
        | cons t0 ts9 => exact ⟨t0, ts9, rfl⟩
      subst ets9
      cases e2 : t.2 with
      | nil =>
        rw [e2] at a1
        cases a1
      | cons c cs =>
        rw [e2] at a1
        injection a1 with a1 _
        cases a1
    refine r_forL (xs := es.map fun t => V.ref t.1) (fun j σ H' => ∃ v4 v5 v6, σ = [some (.ref b0), some (.ref p0), some (.int (late : Int)), some (.ref p7), v4, v5, v6] ∧ Same H H' ∧ SameBut p0 H9 H' ∧ RowsLst H' p0 ((fullR ws :: (ws.take i).flatMap (lates ws)) ++ ((es.map (·.2)).take j).map fun e => lateR ws O e))
      ⟨v4, v5, v6, rfl, s09, fun b o _ h => h, by simpa using hR9⟩ (fun j σ H' hj p => SqL.of (p.choose_spec.choose_spec.choose_spec.2.2.1 _ _ p0p9 h9)) ?_ ?_
    · rintro j y σ H10 hy ⟨v4, v5, v6, rfl, s10, sb10, ts10, q1, q2, q3⟩
      rw [List.getElem?_map] at hy
      cases ej : es[j]? with
      | none => rw [ej] at hy; cases hy
      | some e0 =>
      rw [ej] at hy
      cases hy
      have he0 := List.mem_of_getElem? ej
      have etk2 : (es.map (·.2)).take (j + 1) = (es.map (·.2)).take j ++ [e0.2] := by rw [List.take_add_one, List.getElem?_map, ej]; rfl
      have h710 := sb10 _ _ p0p7 h79
      have he10 := sb10 _ _ (esp e0 he0) (hes e0 he0)
      have hb10 := s10.seq hb
      walk_at "go"
      refine ⟨by show 0 ≤ sizeLine; decide, fun D hD => ?_⟩
      have sD := same_new (o := .lst []) hD
      have hD11 : (upd H10 D (.lst [])) D = some (.lst []) := upd_same
      generalize upd H10 D (.lst []) = H11 at sD hD11 ⊢
      walk_at "go"
      refine r_lstK (sD.seq hb10) ?_
      refine r_forL (xs := nV ws) (fun m σ H' => ∃ v6 ys, σ = [some (.ref b0), some (.ref p0), some (.int (late : Int)), some (.ref p7), some (.ref e0.1), some (.ref D), v6] ∧ Same H10 H' ∧ H' D = some (.lst ys) ∧ PairsAt H' ys ((ws.take m).map fun c => (c, if c ∈ e0.2 then O else ws)))
        ⟨v6, [], rfl, sD, hD11, rfl, fun i y il hy => by simp at hy⟩ (fun m σ H' hm p => p.choose_spec.choose_spec.2.1.seq hb10) ?_ ?_
      · rintro m z σ H12 hz ⟨v6, ys, rfl, s12, hD12, hPA⟩
        obtain ⟨c, hcm, rfl⟩ := nV_at hz
        have etk3 : ws.take (m + 1) = ws.take m ++ [c] := by rw [List.take_add_one, hcm]; rfl
        have lys : ys.length ≤ 6 := by
          rw [hPA.1, List.length_map, List.length_take]
          omega
        walk_at "go"
        refine r_inX (SqX.L (s12 _ _ he10)) ?_
        walk_at "go"
        have put : ∀ (look : List Nat) (t13 : Addr) (H13 : Hp), Same H12 H13 → H13 t13 = some (.tup (nV look)) → (if c ∈ e0.2 then O else ws) = look → ∀ q, H13 q = none → ∃ v6' ys', ([some (.ref b0), some (.ref p0), some (.int (late : Int)), some (.ref p7), some (.ref e0.1), some (.ref D), some (.int (c : Int))] : L2.St) = [some (.ref b0), some (.ref p0), some (.int (late : Int)), some (.ref p7), some (.ref e0.1), some (.ref D), v6'] ∧ Same H10 (upd (upd H13 q (.tup [.int (c : Int), .ref t13])) D (.lst (ys ++ [.ref q]))) ∧ (upd (upd H13 q (.tup [.int (c : Int), .ref t13])) D (.lst (ys ++ [.ref q]))) D = some (.lst ys') ∧ PairsAt (upd (upd H13 q (.tup [.int (c : Int), .ref t13])) D (.lst (ys ++ [.ref q]))) ys' ((ws.take (m + 1)).map fun c => (c, if c ∈ e0.2 then O else ws)) := fun look t13 H13 s13 h13 el q hq => by
          have s14 := s13.trans (same_new (o := .tup [.int (c : Int), .ref t13]) hq)
          have hpair : PairAt (upd H13 q (.tup [.int (c : Int), .ref t13])) (.ref q) (c, if c ∈ e0.2 then O else ws) := ⟨q, t13, rfl, upd_same, by rw [el]; exact (same_new hq) _ _ h13⟩
          refine ⟨_, ys ++ [.ref q], rfl, Same.upd2 (s12.trans s14) hD, upd_same, ?_⟩
          rw [etk3, List.map_append]
          exact ((hPA.keep s14).snoc hpair).but (s14 _ _ hD12) fun b u nb z => by rw [upd_ne nb]; exact z
        refine iteB ?_ ?_
        · intro hm
          walk_at "go"
          refine r_tyL (SqL.of hD12) ?_
          walk_at "go"
          refine r_tupL (SqL.of (s12 _ _ h710)) fun t13 ht13 => ?_
          walk_at "go"
          refine ⟨by show 2 ≤ sizeLine; decide, fun q hq => ?_⟩
          walk_at "go"
          refine r_app (((same_new ht13).trans (same_new hq)) _ _ hD12) (Nat.lt_of_le_of_lt (m := 6) lys (by decide)) ?_
          exact put O t13 _ (same_new ht13) upd_same (if_pos (of_decide_eq_true hm)) q hq
        · intro hm
          walk_at "go"
          refine r_tyL (SqL.of hD12) ?_
          walk_at "go"
          refine r_tupL (s12.seq hb10) fun t13 ht13 => ?_
          walk_at "go"
          refine ⟨by show 2 ≤ sizeLine; decide, fun q hq => ?_⟩
          walk_at "go"
          refine r_app (((same_new ht13).trans (same_new hq)) _ _ hD12) (Nat.lt_of_le_of_lt (m := 6) lys (by decide)) ?_
          exact put ws t13 _ (same_new ht13) upd_same (if_neg (of_decide_eq_false hm)) q hq
      · rintro σ H12 ⟨v6, ys, rfl, s12, hD12, hPA⟩
        rw [nV_len, List.take_length] at hPA
        walk_at "go"
        have q1' := s12 _ _ q1
        refine r_tyL (SqL.of q1') ?_
        walk_at "go"
        refine r_tupL (SqL.of hD12) fun t13 ht13 => ?_
        have s13 := s12.trans (same_new (o := .tup ys) ht13)
        have hP13 : PairsT (upd H12 t13 (.tup ys)) t13 (lateR ws O e0.2) := ⟨ys, upd_same, hPA.keep (same_new ht13)⟩
        generalize upd H12 t13 (.tup ys) = H13 at s13 hP13 ⊢
        walk_at "go"
        have lts : ts10.length ≤ 200 := by
          have e1 := congrArg List.length q2
          rw [List.length_map, List.length_append, List.length_cons, List.length_map, List.length_take, List.length_map] at e1
          omega
        refine r_app (s13 _ _ q1) (Nat.lt_of_le_of_lt (m := 200) (by rw [List.length_map]; exact lts) (by decide)) ?_
        have sb : SameBut p0 H13 (upd H13 p0 (.lst (ts10.map rwV ++ [.ref t13]))) := fun b o n h => by rw [upd_ne n]; exact h
        refine ⟨_, _, _, rfl, ?_, ?_, ts10 ++ [(t13, lateR ws O e0.2)], ?_, ?_, fun t ht => ?_⟩
        · exact Same.upd2 (s10.trans s13) hp00
        · exact fun b o n h => by rw [upd_ne n]; exact s13 _ _ (sb10 b o n h)
        · rw [upd_same, List.map_append]
          rfl
        · rw [List.map_append, q2, etk2, List.map_append, ← List.append_assoc]
          rfl
        · rcases List.mem_append.mp ht with ht | ht
          · exact ((q3 t ht).keep s13).but sb (s13 _ _ q1)
          · rw [List.mem_singleton.mp ht]
            exact hP13.but sb (s13 _ _ q1)
    · rintro σ H10 ⟨v4, v5, v6, rfl, s10, sb10, hR10⟩
      refine ⟨_, _, _, _, _, rfl, s10, ?_⟩
      have e : (es.map (·.2)).take es.length = (partsF O).drop 1 := by rw [List.take_of_length_le (by rw [List.length_map]; exact Nat.le_refl _), ees]
      have e2 : lates ws late = ((partsF O).drop 1).map fun e => lateR ws O e := by
        unfold lates
        rw [hO]
      rw [List.length_map, e] at hR10
      rw [eL, e2]
      exact hR10
  · rintro σ H6 ⟨v2, v3, v4, v5, v6, rfl, s6, hR6⟩
    rw [nV_len, List.take_length] at hR6
    walk_at "go"
    have hR6 : RowsLst H6 p0 (rowsF ws) := hR6
    have lR : (rowsF ws).length ≤ 200 := by
      rw [rowsF_len ndw]
      have : 2 ^ (ws.length - 1) ≤ 2 ^ 4 := Nat.pow_le_pow_right (by decide) (by omega)
      have : ws.length * (2 ^ (ws.length - 1) - 1) ≤ 5 * 15 := Nat.mul_le_mul (by omega) (by omega)
      omega
    have wne : ws ≠ [] := fun z => by rw [z] at lw1; simp at lw1
    refine r_sortRows hR6 (by omega) (fun ls hls z => ?_) fun p7 hp7 H7 s7 hR7 => ?_
    · subst z
      have : ∀ f : Nat → Nat × List Nat, ws.map f ≠ [] := fun f z => wne (List.map_eq_nil_iff.mp z)
      rcases List.mem_cons.mp hls with e | e
      · exact this _ e.symm
      · obtain ⟨late, _, e⟩ := List.mem_flatMap.mp e
        obtain ⟨e9, _, e⟩ := List.mem_map.mp e
        exact this _ e
    exact k p7 H7 (s6.trans s7) hR7
end
end K9
namespace K9
section
open PySem PySem.Spec PyProof.Rows L2 Er K7M
def rIsB : R2 := fun x y H Q => ∃ a b, x = .bl a ∧ y = .bl b ∧ Q (.bl (decide (a = b))) H
def rNotB : R2 := fun x y H Q => ∃ a b, x = .bl a ∧ y = .bl b ∧ Q (.bl (!decide (a = b))) H
theorem isBl {X : Cx} : OpR X (compareOp .Is) rIsB := by
  intro pins s σ H x y v u Q I rx ry h
  obtain ⟨a, b, rfl, rfl, q⟩ := h
  cases rx
  cases ry
  exact wpAny_is_plain rfl (fin_bl I q (by cases a <;> cases b <;> rfl))
theorem notBl {X : Cx} : OpR X (compareOp .IsNot) rNotB := by
  intro pins s σ H x y v u Q I rx ry h
  obtain ⟨a, b, rfl, rfl, q⟩ := h
  cases rx
  cases ry
  exact wpAny_isNot_plain rfl (fin_bl I q (by cases a <;> cases b <;> rfl))
end
open PySem L2 Er K7M
/-- one step of a plain reading -/
local macro_rules | `(tactic| walk_at "step") => `(tactic| first
  | with_reducible refine r_seq ?_ | with_reducible refine r_nx ?_ | with_reducible refine r_asgN ?_ | with_reducible refine r_asgS ?_ | with_reducible refine r_asgT ?_ | with_reducible refine r_ifS ?_
  | with_reducible refine r_ret ?_ | with_reducible refine r_retN ?_ | with_reducible refine r_drop ?_ | with_reducible refine r_test ?_ | with_reducible refine r_B ?_ | with_reducible refine r_not ?_
  | with_reducible refine r_and ?_ | with_reducible refine r_or ?_ | with_reducible refine r_andV ?_ | with_reducible refine r_orV ?_ | with_reducible refine r_notV ?_
  | ((with_reducible refine' r_var ?e ?_); (case e => exact rfl)) | with_reducible refine r_c ?_ | with_reducible refine r_op ?_ | with_reducible refine r_un ?_
  | with_reducible refine r_I0 ?_ | with_reducible refine r_eqI ?_ | with_reducible refine r_neI ?_ | with_reducible refine r_bl ?_ | with_reducible refine r_nil ?_ | with_reducible refine r_cons ?_
  | with_reducible refine r_cb ?_ | with_reducible refine r_call ?_ | with_reducible refine r_tup ?_ | with_reducible refine r_lst ?_ | with_reducible refine r_fld ?_ | with_reducible refine r_bm ?_ | with_reducible refine r_bm0 ?_
  | with_reducible refine r_for ?_ | with_reducible refine r_rng ?_ | with_reducible refine r_rng2 ?_ | with_reducible refine r_lstI ?_ | with_reducible refine r_tupI ?_ | with_reducible refine r_lc ?_
  | with_reducible refine r_augS ?_ | with_reducible refine r_ipI ?_
  | with_reducible refine r_meth ?_ | with_reducible refine r_prop ?_ | with_reducible refine r_make ?_ | with_reducible refine r_din ?_ | with_reducible refine r_dnin ?_ | with_reducible refine r_dput ?_ | with_reducible refine r_dget ?_
  | with_reducible refine r_gN ?_ | with_reducible refine r_tsl ?_ | with_reducible refine r_noP ?_ | with_reducible refine r_part ?_ | with_reducible refine r_pI ?_ | with_reducible refine r_tif ?_ | with_reducible refine r_SL ?_ | with_reducible refine r_gC ?_ | with_reducible refine r_U ?_ | with_reducible refine r_sfld ?_ | with_reducible refine r_dnew ?_ | with_reducible refine r_keys ?_
  | with_reducible refine r_mkE ?_ | with_reducible refine iteT ?_ | with_reducible refine iteF ?_
  | with_reducible refine r_int ?_ | with_reducible refine r_min2 ?_ | with_reducible refine r_isN ?_ | with_reducible refine r_notN ?_)
/-- as far as it goes by itself -/
local macro_rules | `(tactic| walk_at "go") => `(tactic| ((repeat walk_at "step"); (try dsimp only)))

theorem order_order (n : Nat) (l : List Nat) : inOrder n (inOrder n l) = inOrder n l := order_self (order_lt n l) fun c h => (order_mem.mp h).1
/-- what the looks of a run are -/
structure LrFit (n : Nat) (p : LR) : Prop where
  self : ∀ c ∈ p.g, c ∈ p.f c
  ord : ∀ c ∈ p.g, inOrder n (p.f c) = p.f c
  inW : ∀ c ∈ p.g, ∀ d ∈ p.f c, d ∈ p.wr
  chain : ∀ c ∈ p.g, ∀ d ∈ p.g, (∀ x ∈ p.f c, x ∈ p.f d) ∨ (∀ x ∈ p.f d, x ∈ p.f c)
theorem lrS_fit {n c : Nat} {p : LR} (h : LrFit n p) (ok : LrOk n p) (hc : c < n) : LrFit n (lrS n p c) := by
  unfold lrS
  by_cases h1 : c ∈ p.wr
  · rw [if_pos h1]
    by_cases h2 : c ∈ p.g
    · rw [if_pos h2]; exact h
    · rw [if_neg h2]
      have ne : ∀ d ∈ p.g, ¬ d = c := fun d hd z => h2 (z ▸ hd)
      have up : ∀ d ∈ p.g, ∀ x ∈ p.f d, x ∈ inOrder n p.wr := fun d hd x hx => order_mem.mpr ⟨ok.lt x (h.inW d hd x hx), h.inW d hd x hx⟩
      refine ⟨fun d hd => ?_, fun d hd => ?_, fun d hd x hx => ?_, fun d hd e he => ?_⟩
      all_goals try dsimp only at *
      · rcases List.mem_append.mp hd with hd | hd
        · rw [if_neg (ne d hd)]; exact h.self d hd
        · rw [List.mem_singleton.mp hd, if_pos rfl]; exact order_mem.mpr ⟨hc, h1⟩
      · rcases List.mem_append.mp hd with hd | hd
        · rw [if_neg (ne d hd)]; exact h.ord d hd
        · rw [List.mem_singleton.mp hd, if_pos rfl]; exact order_order n _
      · rcases List.mem_append.mp hd with hd | hd
        · rw [if_neg (ne d hd)] at hx; exact h.inW d hd x hx
        · rw [List.mem_singleton.mp hd, if_pos rfl] at hx; exact (order_mem.mp hx).2
      · rcases List.mem_append.mp hd with hd | hd
        · rcases List.mem_append.mp he with he | he
          · rw [if_neg (ne d hd), if_neg (ne e he)]; exact h.chain d hd e he
          · rw [if_neg (ne d hd), List.mem_singleton.mp he, if_pos rfl]; exact .inl (up d hd)
        · rcases List.mem_append.mp he with he | he
          · rw [List.mem_singleton.mp hd, if_pos rfl, if_neg (ne e he)]; exact .inr (up e he)
          · rw [List.mem_singleton.mp hd, List.mem_singleton.mp he]; exact .inl fun x hx => hx
  · rw [if_neg h1]
    exact ⟨h.self, h.ord, fun d hd x hx => List.mem_append_left _ (h.inW d hd x hx), h.chain⟩
theorem lr_fitI {n : Nat} : ∀ (ks : List Nat) (p : LR), (∀ c ∈ ks, c < n) → LrFit n p → LrOk n p → LrFit n (ks.foldl (lrS n) p)
  | [], p, _, h, _ => h
  | c :: ks, p, hk, h, ok => lr_fitI ks _ (fun d hd => hk d (List.mem_cons_of_mem _ hd)) (lrS_fit h ok (hk c (List.mem_cons_self ..))) (lrS_ok ok (hk c (List.mem_cons_self ..)))
theorem lr_fit {n : Nat} {ks : List Nat} (h : ∀ c ∈ ks, c < n) : LrFit n (lr n ks) := lr_fitI ks _ h ⟨fun c hc => (by cases hc), fun c hc => (by cases hc), fun c hc => (by cases hc), fun c hc => (by cases hc)⟩ ⟨List.nodup_nil, List.nodup_nil, fun c hc => (by cases hc), fun c hc => by cases hc⟩
theorem lrS_grow {n c d : Nat} {p : LR} (h : d ∈ p.wr ∨ d = c) : d ∈ (lrS n p c).wr := by
  unfold lrS
  by_cases h1 : c ∈ p.wr
  · rw [if_pos h1]
    have : d ∈ p.wr := h.elim id fun z => z ▸ h1
    by_cases h2 : c ∈ p.g
    · rw [if_pos h2]; exact this
    · rw [if_neg h2]; exact this
  · rw [if_neg h1]
    rcases h with h | h
    · exact List.mem_append_left _ h
    · exact List.mem_append_right _ (List.mem_singleton.mpr h)
theorem lr_wrI {n d : Nat} : ∀ (ks : List Nat) (p : LR), d ∈ p.wr ∨ d ∈ ks → d ∈ (ks.foldl (lrS n) p).wr
  | [], p, h => h.elim id fun z => by cases z
  | c :: ks, p, h => lr_wrI ks _ (by
    rcases h with h | h
    · exact .inl (lrS_grow (.inl h))
    · rcases List.mem_cons.mp h with h | h
      · exact .inl (lrS_grow (.inr h))
      · exact .inr h)
theorem lr_wr {n d : Nat} {ks : List Nat} (h : d ∈ ks) : d ∈ (lr n ks).wr := lr_wrI ks _ (.inr h)
theorem looks_at {n : Nat} {R : LR} {il : Nat × List Nat} (h : il ∈ lrLooks n R) : il.1 < n ∧ il.1 ∈ R.g ∧ il.2 = R.f il.1 := by
  obtain ⟨c, hc, rfl⟩ := List.mem_map.mp h
  exact ⟨(order_mem.mp hc).1, (order_mem.mp hc).2, rfl⟩
theorem looks_fst (n : Nat) (R : LR) : (lrLooks n R).map (·.1) = inOrder n R.g := by
  unfold lrLooks
  rw [List.map_map]
  exact List.map_id' _
theorem lr_FitP {n : Nat} {ks : List Nat} (h : ∀ c ∈ ks, c < n) : FitP (lrLooks n (lr n ks)) := fun a ha => by
  obtain ⟨_, a2, a3⟩ := looks_at ha
  have F := lr_fit h
  refine ⟨by rw [a3]; exact F.self _ a2, fun b hb => ?_⟩
  obtain ⟨_, b2, b3⟩ := looks_at hb
  rw [a3, b3]
  exact (F.chain _ a2 _ b2).imp lies_of lies_of
theorem lr_sub {n : Nat} {ks : List Nat} (h : ∀ c ∈ ks, c < n) : (inOrder n (lr n ks).g).Sublist (inOrder n (lr n ks).wr) := asc_sub (order_lt n _) (order_lt n _) fun c hc => order_mem.mpr ⟨(order_mem.mp hc).1, (lr_ok h).sub c (order_mem.mp hc).2⟩
theorem lr_Rnd {n : Nat} {ks : List Nat} (h : ∀ c ∈ ks, c < n) (e : (inOrder n (lr n ks).wr).length = (inOrder n (lr n ks).g).length) : Rnd n (lrLooks n (lr n ks)) := by
  have F := lr_fit h
  have ee := (lr_sub h).eq_of_length_le (Nat.le_of_eq e)
  have ok := lr_ok h
  have asc : ∀ c ∈ (lr n ks).g, ((lr n ks).f c).Pairwise (· < ·) := fun c hc => by rw [← F.ord c hc]; exact order_lt n _
  refine ⟨by rw [looks_fst]; exact order_lt n _, fun il hil => (looks_at hil).1, fun il hil => ?_, fun il hil => ?_, fun il hil c hc => ?_, fun a ha b hb hab c hc => ?_⟩
  · obtain ⟨_, a2, a3⟩ := looks_at hil
    rw [a3]; exact F.self _ a2
  · obtain ⟨_, a2, a3⟩ := looks_at hil
    rw [a3]; exact F.ord _ a2
  · obtain ⟨_, a2, a3⟩ := looks_at hil
    rw [a3] at hc
    have := F.inW _ a2 c hc
    rw [looks_fst, ee]
    exact order_mem.mpr ⟨ok.lt c this, this⟩
  · obtain ⟨_, a2, a3⟩ := looks_at ha
    obtain ⟨_, b2, b3⟩ := looks_at hb
    rw [a3] at hc hab
    rw [b3] at hab ⊢
    rcases F.chain _ a2 _ b2 with z | z
    · exact z c hc
    · rw [(asc_sub (asc _ a2) (asc _ b2) z).eq_of_length_le hab]
      exact hc
/-- a row of pairs, made of tuples, is one that the program reads -/
theorem PairsT.rnd {K : PySem.W.Frag} {H : Hp} {t : Addr} {ls : List (Nat × List Nat)} (h : PairsT H t ls) : ∃ rs : List RP, RoundR K H t rs ∧ rs.map RP.k = ls := by
  obtain ⟨ys, h1, h2⟩ := h
  obtain ⟨bs, rfl, e, hb⟩ := collect (α := Nat × List Nat) (ka := id) (kb := RP.k) (vb := RP.v) (At := fun b => RPAt K H b) ls ys h2.1 fun i il y a1 a2 => by
    obtain ⟨p, r, e1, e2, e3⟩ := h2.2 i y il a2 a1
    exact ⟨⟨p, il.1, r, il.2⟩, e1, rfl, .inr (SqT.of e2), .inr (SqT.of e3)⟩
  refine ⟨bs, ⟨.inr (SqT.of h1), hb⟩, ?_⟩
  rw [e]
  exact List.map_id' _
theorem Rnd.len {n : Nat} {ls : List (Nat × List Nat)} (R : Rnd n ls) : ls.length ≤ n ∧ ∀ il ∈ ls, il.2.length ≤ n := by
  have h1 : ∀ l : List Nat, l.Pairwise (· < ·) → (∀ c ∈ l, c < n) → l.length ≤ n := fun l h1 h2 => by
    have := len_inOrder n l
    rwa [order_self h1 h2] at this
  refine ⟨?_, fun il hil => ?_⟩
  · have := h1 _ R.asc fun c hc => by
      obtain ⟨il, hil, rfl⟩ := List.mem_map.mp hc
      exact R.lt il hil
    rwa [List.length_map] at this
  · have := len_inOrder n il.2
    rwa [R.look il hil] at this
theorem PairsT.good {K : PySem.W.Frag} {H : Hp} {t : Addr} {ls : List (Nat × List Nat)} {n : Nat} (h : PairsT H t ls) (R : Rnd n ls) (n60 : n ≤ 1000) (ne : ls ≠ []) : ∃ rs : List RP, GoodRd K H t rs ∧ rs.map RP.k = ls := by
  obtain ⟨rs, h1, h2⟩ := h.rnd (K := K)
  obtain ⟨l1, l2⟩ := R.len
  refine ⟨rs, ⟨h1, ?_, fun t ht => ?_, by rw [h2]; exact R.round ne⟩, h2⟩
  · have := congrArg List.length h2
    rw [List.length_map] at this
    omega
  · have := l2 t.k (by rw [← h2]; exact List.mem_map.mpr ⟨t, ht, rfl⟩)
    show t.l.length ≤ 1000
    have e : t.k.2.length = t.l.length := rfl
    omega
def spAny : Sp := fun vs H Q _ => ∃ (a b : Addr) (ns : List Int) (ws : List Nat), vs = [.ref a, .ref b] ∧ H a = some (.lst (ns.map V.int)) ∧ ns.length ≤ 100000 ∧ H b = some (.lst (nV ws)) ∧ b ≠ a ∧ ws.Pairwise (· < ·) ∧ (∀ c ∈ ws, c < 60) ∧ 1 ≤ ws.length ∧ ws.length ≤ 6 ∧
  ∀ (ns' : List Int) H', ns'.length ≤ ns.length → H' a = some (.lst (ns'.map V.int)) → SameBut a H H' → Q (.bl true) H'
section
variable {P : Program} {w : World} {K : PySem.W.Frag} {mg : Str → Option Value} {base : Heap} {CN CR CM : Addr}
theorem scAny : FnScope ["_law_found", "_law_names_here", "_law_many", "_law_schedule", "_law_kept", "_law_told", "_law_wrote", "_law_looks_here", "_law_turn"] ["_law_found", "_law_names_here"] (defScope sAny) := ⟨rfl, rfl, rfl, by decide +kernel, rfl, by decide +kernel, by decide +kernel⟩
theorem ok_any {f : Addr} {fd : FuncData} (F : Fun K "_law_any_schedule" "_law_any_schedule" sAny f fd) (m_len : mg "len" = none) (m_range : mg "range" = none) (m_tuple : mg "tuple" = none) (m_list : mg "list" = none) (D_take : Fok P w K mg base 1 "_law_take" ["_law_found", "_law_many"] spTake)
    (D_run : Fok P w K mg base 3 "look_run" ["schedule"] (spLRun K CN)) (D_own : Fok P w K mg base 1 "_law_own_run" ["_law_schedule"] (spOwn K)) (D_fit : Fok P w K mg base 2 "_law_looks_fit" ["_law_looks_here"] (spFit K)) (D_isround : Fok P w K mg base 6 "is_round" ["thing"] (spRound K)) :
    FnOk P w K mg base (L2.CX P w) 7 f fd ["_law_found", "_law_names_here"] spAny := by
  refine F.okX scAny (fun vs H Q E h => ?_) (fun cdv A outer s H vs Q E hr h => ?_)
  · obtain ⟨a, b, ns, ws, rfl, _⟩ := h
    rfl
  obtain ⟨a, b, ns, ws, rfl, ha, hl, hb, hba, asc, lt, m1, m6, k⟩ := h
  have sc := scAny
  refine ⟨_, (pss_cons (ps_set (i := 2) sc.nd rfl (Or.inl rfl) (pe_op op_add (pe_f D_take (hr.mono (by decide)) (pa_cons (pv 0) (pa_cons pe_int pa_nil))) (pe_f D_take (hr.mono (by decide)) (pa_cons (pv 0) (pa_cons pe_int pa_nil)))))
      (pss_cons (ps_setLc (i := 3) (own := [("_law_turn", 8)]) (g := gName 8) (tt := tYes) (by rfl) sc.nd rfl rfl (sw_true rfl rfl rfl (by decide +kernel)) (pi_range1 (by rfl) m_range (pa_cons (pv 2) pa_nil)) (blkOk_by (own := [("_law_turn", 8)]) (N := ["_law_found", "_law_names_here", "_law_many", "_law_schedule", "_law_kept", "_law_told", "_law_wrote", "_law_looks_here", "_law_turn"]) (sc := defScope sAny) (by decide +kernel)) (fun _ _ _ _ _ => pg_name (i := 8) sc.nd rfl (Or.inl rfl)) (fun _ _ _ _ _ => pts_nil) (fun _ _ _ _ _ => (pe_ix (ixL K) (pv 1) (pe_f D_take (hr.mono (by decide)) (pa_cons (pv 0) (pa_cons (pe_callB (lenK K) (by rfl) m_len PySem.boot_len (pa_cons (pv 1) pa_nil)) pa_nil))) (fun _ _ => rfl))))
      (pss_cons (ps_set (i := 4) sc.nd rfl (Or.inl rfl) (pe_callTy (listOK K) (by rfl) m_list (by decide +kernel) (pa_cons (pv 3) pa_nil)))
      (pss_cons (ps_set (i := 5) sc.nd rfl (Or.inl rfl) (pe_f D_run (hr.mono (by decide)) (pa_cons (pv 3) pa_nil)))
      (pss_cons (ps_if (PW.pt (pw_or (pt_cmpR (op_neD hr.units) (pv 5) (pe_f D_own (hr.mono (by decide)) (pa_cons (pv 4) pa_nil)) (nomark _)) (pw_or (pt_cmpR (op_neD hr.units) (pv 3) (pv 4) (nomark _)) (pw_or1 (pt_cmpR (op_neD hr.units) (pe_f D_run (hr.mono (by decide)) (pa_cons (pe_callTy (tupOK K) (by rfl) m_tuple (by decide +kernel) (pa_cons (pv 3) pa_nil)) pa_nil)) (pv 5) (nomark _)))))) (pss_one (ps_ret pe_bl)) pss_nil)
      (pss_cons (ps_asg (pv 5) (pg_tup (by rfl) (pgs_cons (pg_name (i := 6) sc.nd rfl (Or.inl rfl)) (pgs_cons (pg_name (i := 7) sc.nd rfl (Or.inl rfl)) pgs_nil))))
      (pss_cons (ps_if (pt_not (pt_val (pe_f D_fit (hr.mono (by decide)) (pa_cons (pv 7) pa_nil)))) (pss_one (ps_ret pe_bl)) pss_nil)
      (pss_cons (ps_if (PW.pt (pw_and (pt_cmpR op_eq (pe_callB (lenK K) (by rfl) m_len PySem.boot_len (pa_cons (pv 6) pa_nil)) (pe_callB (lenK K) (by rfl) m_len PySem.boot_len (pa_cons (pv 7) pa_nil)) (nomark _)) (pw_and1 (pt_cmpR op_gt (pe_callB (lenK K) (by rfl) m_len PySem.boot_len (pa_cons (pv 6) pa_nil)) pe_int (nomark _))))) (pss_one (ps_ret (pe_cmpR (isBl) (pe_f D_isround (hr.mono (by decide)) (pa_cons (pv 7) pa_nil)) pe_bl (nomark _)))) pss_nil)
      (pss_one (ps_ret (pe_or (pe_cmpR op_lt (pe_callB (lenK K) (by rfl) m_len PySem.boot_len (pa_cons (pv 7) pa_nil)) (pe_callB (lenK K) (by rfl) m_len PySem.boot_len (pa_cons (pv 6) pa_nil)) (nomark _)) (pe_one (pe_cmpR op_eq (pe_callB (lenK K) (by rfl) m_len PySem.boot_len (pa_cons (pv 3) pa_nil)) pe_int (nomark _)))))))))))))), ?_⟩
  walk_at "go"
  refine ⟨a, ns, 25, rfl, ha, by omega, by decide, fun r1 ns1 H1 r0 r25 l1 h1 s1 => ?_⟩
  obtain ⟨r1, rfl⟩ : ∃ r' : Nat, r1 = (r' : Int) := ⟨r1.toNat, by omega⟩
  walk_at "go"
  refine ⟨a, ns1, 17, rfl, h1, by omega, by decide, fun r2 ns2 H2 r0' r17 l2 h2 s2 => ?_⟩
  obtain ⟨r2, rfl⟩ : ∃ r' : Nat, r2 = (r' : Int) := ⟨r2.toNat, by omega⟩
  walk_at "go"
  refine r_rngK (r1 + r2) (by omega) (by omega) ?_
  intro D hD
  have s02 := s1.trans s2
  have hDa : D ≠ a := fun z => by rw [z, h2] at hD; cases hD
  have hD0 : H D = none := s02.none_ hD hDa
  refine lc_range (fun i H' => SameBut a H H' ∧ (∃ ns' : List Int, H' a = some (.lst (ns'.map V.int)) ∧ ns'.length ≤ ns.length) ∧ ∃ ks : List Nat, H' D = some (.lst (nV ks)) ∧ ks.length = i ∧ ∀ c ∈ ks, c ∈ ws)
    ⟨s02.trans (SameBut.of (same_new hD)), ⟨ns2, by rw [upd_ne (Ne.symm hDa)]; exact h2, by omega⟩, [], upd_same, rfl, fun c hc => by cases hc⟩ (fun i H3 hi p => ?_) fun H3 p => ?_
  · obtain ⟨s3, ⟨ns3, h3, l3⟩, ks, hk3, lk, hks⟩ := p
    refine ⟨rfl, ?_⟩
    refine r_tYes ?_
    refine iteT ?_
    have hb3 := s3 _ _ hba hb
    walk_at "go"
    refine r_lenL (SqL.of hb3) ?_
    rw [nV_len]
    walk_at "go"
    refine ⟨a, ns3, (ws.length : Int), rfl, h3, by omega, by omega, fun r ns4 H4 r0 rm l4 h4 s4 => ?_⟩
    obtain ⟨r', rfl⟩ : ∃ r' : Nat, r = (r' : Int) := ⟨r.toNat, by omega⟩
    have hr' : r' < ws.length := by omega
    refine r_ixL (SqL.of (s4 _ _ hba hb3)) (atI_nat (nV_at' (getD_at hr'))) ?_
    have hk4 := s4 _ _ hDa hk3
    refine ⟨_, hk4, ?_, (s3.trans s4).mut hD0, ⟨ns4, by rw [upd_ne (Ne.symm hDa)]; exact h4, by omega⟩, ks ++ [ws.getD r' 0], by rw [upd_same, nV_append]; rfl, by rw [List.length_append, lk]; rfl, fun c hc => ?_⟩
    · rw [nV_len]
      exact Nat.lt_of_le_of_lt (m := 100) (by omega) (by decide)
    · rcases List.mem_append.mp hc with hc | hc
      · exact hks c hc
      · rw [List.mem_singleton.mp hc]
        exact List.mem_of_getElem? (getD_at hr')
  · obtain ⟨s3, ⟨ns3, h3, l3⟩, ks, hk3, lk, hks⟩ := p
    have hk60 : ∀ c ∈ ks, c < 60 := fun c hc => lt c (hks c hc)
    walk_at "go"
    refine r_listO (.inl (SqL.of hk3)) fun D2 hD2 => ?_
    have s4 := same_new (o := .lst (nV ks)) hD2
    have hk4 : (upd H3 D2 (.lst (nV ks))) D = some (.lst (nV ks)) := s4 _ _ hk3
    have hk42 : (upd H3 D2 (.lst (nV ks))) D2 = some (.lst (nV ks)) := upd_same
    have h4 := s4 _ _ h3
    have s04 := s3.trans (SameBut.of s4)
    generalize upd H3 D2 (.lst (nV ks)) = H4 at hk4 hk42 h4 s04 ⊢
    clear s4 hD2
    walk_at "go"
    refine ⟨.ref D, rfl, .inr ⟨D, 60, ks, rfl, SqX.L hk4, hk60, by decide, fun t5 H5 s5 ht5 => ?_⟩⟩
    walk_at "go"
    refine ⟨D2, 60, ks, rfl, SqX.L (s5 _ _ hk42), hk60, by decide, fun t6 H6 s6 ht6 => ?_⟩
    walk_at "go"
    refine r_neSame (dp_run (ht5.keep s6)) (dp_run ht6) (okd_run _ _) (by decide) ?_
    walk_at "go"
    have s46 := s5.trans s6
    refine r_neSame (dp_lstN (SqL.of (s46 _ _ hk4))) (dp_lstN (SqL.of (s46 _ _ hk42))) (okd_lstN _) (by decide) ?_
    walk_at "go"
    refine r_tupL (SqL.of (s46 _ _ hk4)) fun t7 ht7 => ?_
    have s7 := same_new (o := .tup (nV ks)) ht7
    walk_at "go"
    refine ⟨.ref t7, rfl, .inr ⟨t7, 60, ks, rfl, SqX.T upd_same, hk60, by decide, fun t8 H8 s8 ht8 => ?_⟩⟩
    have s68 := s7.trans s8
    walk_at "go"
    refine r_neSame (dp_run ht8) (dp_run (ht5.keep (s6.trans s68))) (okd_run _ _) (by decide) ?_
    walk_at "go"
    have ht := ht5.keep (s6.trans s68)
    have s48 := s46.trans s68
    obtain ⟨tw, tl, ys, e1, e2, e3, e4⟩ := ht
    refine r_gT (SqT.of e1) rfl ?_
    walk_at "go"
    refine ⟨rfl, ?_⟩
    walk_at "go"
    have hR60 : ∀ il ∈ lrLooks 60 (lr 60 ks), il.2.length ≤ 1000 := fun il hil => by
      obtain ⟨_, a2, a3⟩ := looks_at hil
      have := len_inOrder 60 il.2
      rw [a3, (lr_fit hk60).ord _ a2] at this
      rw [a3]
      omega
    refine ⟨tl, lrLooks 60 (lr 60 ks), rfl, ⟨ys, e3, e4⟩, lr_FitP hk60, hR60, fun H9 s9 => ?_⟩
    walk_at "go"
    refine ite_no rfl ?_
    walk_at "go"
    have s49 := s48.trans s9
    have fin : ∀ H10, Same H9 H10 → Q (.bl true) H10 := fun H10 s10 => k ns3 H10 l3 ((s49.trans s10) _ _ h4) (s04.trans (SameBut.of (s49.trans s10)))
    have ll : ys.length = (inOrder 60 (lr 60 ks).g).length := by
      rw [e4.1]
      have := congrArg List.length (looks_fst 60 (lr 60 ks))
      rwa [List.length_map] at this
    have hsub := (lr_sub hk60).length_le
    refine r_lenT (SqT.of (s9 _ _ e2)) ?_
    rw [nV_len]
    walk_at "go"
    refine r_lenT (SqT.of (s9 _ _ e3)) ?_
    rw [ll]
    walk_at "go"
    have iff1 : decide (((inOrder 60 (lr 60 ks).wr).length : Int) = ((inOrder 60 (lr 60 ks).g).length : Int)) = decide ((inOrder 60 (lr 60 ks).wr).length = (inOrder 60 (lr 60 ks).g).length) := decide_eq_decide.mpr (by omega)
    rw [iff1]
    have orEnd : ∀ (b1 : Bool), b1 = true → b1 = true := fun _ h => h
    refine iteB (fun e => ?_) fun e => ?_
    · have e := of_decide_eq_true e
      walk_at "go"
      refine r_lenT (SqT.of (s9 _ _ e2)) ?_
      rw [nV_len]
      walk_at "go"
      refine iteB (fun e5 => ?_) fun e5 => ?_
      · have e5 := of_decide_eq_true e5
        walk_at "go"
        have hPT : PairsT H9 tl (lrLooks 60 (lr 60 ks)) := ⟨ys, s9 _ _ e3, e4.keep s9⟩
        obtain ⟨rs, hg, _⟩ := hPT.good (K := K) (lr_Rnd hk60 e) (by decide) fun z => by
          have := e4.1
          rw [z] at this
          rw [this] at ll
          have ll : 0 = (inOrder 60 (lr 60 ks).g).length := ll
          omega
        refine good_round hg fun H10 s10 => ?_
        walk_at "go"
        exact ⟨true, true, rfl, rfl, fin H10 s10⟩
      · have e5 := of_decide_eq_false e5
        walk_at "go"
        refine r_lenT (SqT.of (s9 _ _ e3)) ?_
        rw [ll]
        walk_at "go"
        refine r_lenT (SqT.of (s9 _ _ e2)) ?_
        rw [nV_len]
        walk_at "go"
        refine ite_no (decide_eq_false (by omega)) ?_
        walk_at "go"
        refine r_lenL (SqL.of (s49 _ _ hk4)) ?_
        rw [nV_len]
        walk_at "go"
        have ek : ks = [] := by
          cases ks with
          | nil => rfl
          | cons c ks =>
            have h1 : c ∈ inOrder 60 (lr 60 (c :: ks)).wr := order_mem.mpr ⟨hk60 c (List.mem_cons_self ..), lr_wr (List.mem_cons_self ..)⟩
            have := List.length_pos_of_mem h1
            omega
        have e0 : decide ((ks.length : Int) = 0) = true := by rw [ek]; rfl
        rw [e0]
        exact fin H9 (Same.refl _)
    · have e := of_decide_eq_false e
      walk_at "go"
      refine r_lenT (SqT.of (s9 _ _ e3)) ?_
      rw [ll]
      walk_at "go"
      refine r_lenT (SqT.of (s9 _ _ e2)) ?_
      rw [nV_len]
      walk_at "go"
      refine ite_yes (decide_eq_true (by omega)) ?_
      exact fin H9 (Same.refl _)
end
end K9
namespace K9
open PySem L2 Er K7M
/-- one step of a plain reading -/
local macro_rules | `(tactic| walk_at "step") => `(tactic| first
  | with_reducible refine r_seq ?_ | with_reducible refine r_nx ?_ | with_reducible refine r_asgN ?_ | with_reducible refine r_asgS ?_ | with_reducible refine r_asgT ?_ | with_reducible refine r_ifS ?_
  | with_reducible refine r_ret ?_ | with_reducible refine r_retN ?_ | with_reducible refine r_drop ?_ | with_reducible refine r_test ?_ | with_reducible refine r_B ?_ | with_reducible refine r_not ?_
  | with_reducible refine r_and ?_ | with_reducible refine r_or ?_ | with_reducible refine r_andV ?_ | with_reducible refine r_orV ?_ | with_reducible refine r_notV ?_
  | ((with_reducible refine' r_var ?e ?_); (case e => exact rfl)) | with_reducible refine r_c ?_ | with_reducible refine r_op ?_ | with_reducible refine r_un ?_
  | with_reducible refine r_I0 ?_ | with_reducible refine r_eqI ?_ | with_reducible refine r_neI ?_ | with_reducible refine r_bl ?_ | with_reducible refine r_nil ?_ | with_reducible refine r_cons ?_
  | with_reducible refine r_cb ?_ | with_reducible refine r_call ?_ | with_reducible refine r_tup ?_ | with_reducible refine r_lst ?_ | with_reducible refine r_fld ?_ | with_reducible refine r_bm ?_ | with_reducible refine r_bm0 ?_
  | with_reducible refine r_for ?_ | with_reducible refine r_rng ?_ | with_reducible refine r_rng2 ?_ | with_reducible refine r_lstI ?_ | with_reducible refine r_tupI ?_ | with_reducible refine r_lc ?_
  | with_reducible refine r_augS ?_ | with_reducible refine r_ipI ?_
  | with_reducible refine r_meth ?_ | with_reducible refine r_prop ?_ | with_reducible refine r_make ?_ | with_reducible refine r_din ?_ | with_reducible refine r_dnin ?_ | with_reducible refine r_dput ?_ | with_reducible refine r_dget ?_
  | with_reducible refine r_gN ?_ | with_reducible refine r_tsl ?_ | with_reducible refine r_noP ?_ | with_reducible refine r_part ?_ | with_reducible refine r_pI ?_ | with_reducible refine r_tif ?_ | with_reducible refine r_SL ?_ | with_reducible refine r_gC ?_ | with_reducible refine r_U ?_ | with_reducible refine r_sfld ?_ | with_reducible refine r_dnew ?_ | with_reducible refine r_keys ?_
  | with_reducible refine r_mkE ?_ | with_reducible refine iteT ?_ | with_reducible refine iteF ?_
  | with_reducible refine r_int ?_ | with_reducible refine r_min2 ?_ | with_reducible refine r_isN ?_ | with_reducible refine r_notN ?_)
/-- as far as it goes by itself -/
local macro_rules | `(tactic| walk_at "go") => `(tactic| ((repeat walk_at "step"); (try dsimp only)))

/-- [e for x, y in xs if c], e as it is -/
theorem r_lcZG {K : PySem.W.Frag} {σ : L2.St} {H : Hp} {Q : VK} {te : TE} {tt : TT} {α : Type} {g : TG} {vs : List Nat} {a : Addr} (zs : List α) (gv : α → V) (σt : α → L2.St) (f : α → Bool) (hv : α → V) (hx : SqT K H a (zs.map gv)) (hn : zs.length ≤ 100000)
    (hg : ∀ t ∈ zs, ∀ H', Same H H' → ∀ k : L2.St → Hp → Prop, k (σt t) H' → g (gv t) (wipe σ vs) H' k) (hw : ∀ t, wipe (σt t) vs = wipe σ vs)
    (ht : ∀ z ∈ zs, ∀ H', Same H H' → ∀ QT : Bool → Hp → Prop, (∀ H2, Same H' H2 → QT (f z) H2) → tt (σt z) H' QT)
    (he : ∀ z ∈ zs, ∀ H', f z = true → Same H H' → ∀ Q : VK, (∀ H2, Same H' H2 → Q (hv z) H2) → te (σt z) H' Q)
    (q : ∀ p H', H p = none → Same H H' → H' p = some (.lst ((zs.filter f).map hv)) → Q (.ref p) H') : lcK g tt te vs σ Q (Itt K a) H := fun Dl hD =>
  lc_tup (xs := zs.map gv) (fun i H' => Same H H' ∧ H' Dl = some (.lst (((zs.take i).filter f).map hv))) ⟨same_new hD, upd_same⟩ (fun i H' _ p => same_tup p.1 hx) (fun i x H' hi p => by
    obtain ⟨s, hl⟩ := p
    rw [List.getElem?_map] at hi
    cases e : zs[i]? with
    | none => rw [e] at hi; cases hi
    | some z =>
    rw [e] at hi
    cases hi
    have hm := List.mem_of_getElem? e
    have hiz : i < zs.length := (List.getElem?_eq_some_iff.mp e).1
    have etk : zs.take (i + 1) = zs.take i ++ [z] := by rw [List.take_add_one, e]; rfl
    refine hg z hm H' s _ ⟨hw z, ?_⟩
    refine ht z hm H' s _ fun H2 s2 => ?_
    refine iteB (fun ef => ?_) fun ef => ?_
    · refine he z hm H2 ef (s.trans s2) _ fun H3 s3 => ⟨_, s3 _ _ (s2 _ _ hl), ?_, Same.upd2 (s.trans (s2.trans s3)) hD, ?_⟩
      · refine Nat.lt_of_le_of_lt (m := 100000) ?_ (by decide)
        rw [List.length_map]
        have := List.length_filter_le f (zs.take i)
        rw [List.length_take] at this
        omega
      · rw [upd_same, etk, List.filter_append, List.map_append]
        simp [ef]
    · refine ⟨s.trans s2, ?_⟩
      rw [s2 _ _ hl, etk, List.filter_append]
      simp [ef]) fun H' p => by
    have hl := p.2
    rw [List.length_map, List.take_length] at hl
    exact q Dl H' hD p.1 hl
/-- a round, told in lists -/
def RdL (H : Hp) (L : Addr) (rs : List RP) : Prop := H L = some (.lst (rs.map RP.v)) ∧ ∀ t ∈ rs, H t.p = some (.lst [.int (t.c : Int), .ref t.r]) ∧ H t.r = some (.lst (nV t.l))
theorem RdL.keep {H H' : Hp} {L : Addr} {rs : List RP} (h : RdL H L rs) (s : Same H H') : RdL H' L rs := ⟨s _ _ h.1, fun t ht => ⟨s _ _ (h.2 t ht).1, s _ _ (h.2 t ht).2⟩⟩
theorem RdL.rnd {K : PySem.W.Frag} {H : Hp} {L : Addr} {rs : List RP} (h : RdL H L rs) : RoundR K H L rs := ⟨SqX.L h.1, fun t ht => ⟨SqX.L (h.2 t ht).1, SqX.L (h.2 t ht).2⟩⟩
/-- a round, told in tuples -/
def RdT (H : Hp) (t : Addr) (rs : List RP) : Prop := H t = some (.tup (rs.map RP.v)) ∧ ∀ x ∈ rs, H x.p = some (.tup [.int (x.c : Int), .ref x.r]) ∧ H x.r = some (.tup (nV x.l))
theorem RdT.keep {H H' : Hp} {L : Addr} {rs : List RP} (h : RdT H L rs) (s : Same H H') : RdT H' L rs := ⟨s _ _ h.1, fun t ht => ⟨s _ _ (h.2 t ht).1, s _ _ (h.2 t ht).2⟩⟩
theorem RdT.rnd {K : PySem.W.Frag} {H : Hp} {L : Addr} {rs : List RP} (h : RdT H L rs) : RoundR K H L rs := ⟨SqX.T h.1, fun t ht => ⟨SqX.T (h.2 t ht).1, SqX.T (h.2 t ht).2⟩⟩
theorem PairsT.rdT {H : Hp} {t : Addr} {ls : List (Nat × List Nat)} (h : PairsT H t ls) : ∃ rs : List RP, RdT H t rs ∧ rs.map RP.k = ls := by
  obtain ⟨ys, h1, h2⟩ := h
  obtain ⟨bs, rfl, e, hb⟩ := collect (α := Nat × List Nat) (ka := id) (kb := RP.k) (vb := RP.v) (At := fun b => H b.p = some (.tup [.int (b.c : Int), .ref b.r]) ∧ H b.r = some (.tup (nV b.l))) ls ys h2.1 fun i il y a1 a2 => by
    obtain ⟨p, r, e1, e2, e3⟩ := h2.2 i y il a2 a1
    exact ⟨⟨p, il.1, r, il.2⟩, e1, rfl, e2, e3⟩
  refine ⟨bs, ⟨h1, hb⟩, ?_⟩
  rw [e]
  exact List.map_id' _
def pairL (il : Nat × List Nat) : PyData := .list [.int (il.1 : Int), namesL il.2]
theorem RdL.dp {K : PySem.W.Frag} {H : Hp} {L : Addr} {rs : List RP} (h : RdL H L rs) : Dp K H (.ref L) (.list ((rs.map RP.k).map pairL)) := by
  rw [List.map_map]
  refine .lst (SqL.of h.1) (dpAll_of (pairL ∘ RP.k) (by rw [List.length_map]) fun i y t e1 e2 => ?_)
  rw [List.getElem?_map, e2] at e1
  rw [← Option.some.inj e1]
  obtain ⟨h1, h2⟩ := h.2 t (List.mem_of_getElem? e2)
  exact .lst (SqL.of h1) (.cons (.int _) (.cons (dp_lstN (SqL.of h2)) .nil))
theorem okd_RdL (ls : List (Nat × List Nat)) : Okd 3 (.list (ls.map pairL)) := okd_lst (k := 2) fun e he => by
  obtain ⟨il, _, rfl⟩ := List.mem_map.mp he
  refine okd_lst (k := 1) fun z hz => ?_
  rcases List.mem_cons.mp hz with rfl | hz
  · exact (okd_int _).up (by decide)
  rcases List.mem_cons.mp hz with rfl | hz
  · exact okd_lstN _
  cases hz
def dbl (ws : List Nat) : List Int := ((ws ++ ws).map fun (c : Nat) => (c : Int)).mergeSort fun a b => decide (a ≤ b)
theorem dbl_perm (ws : List Nat) : (dbl ws).Perm ((ws ++ ws).map fun (c : Nat) => (c : Int)) := List.mergeSort_perm _ _
theorem dbl_up (ws : List Nat) : (dbl ws).Pairwise (· ≤ ·) := by
  have h := List.pairwise_mergeSort (le := fun a b : Int => decide (a ≤ b)) (fun a b c h1 h2 => by
    have h1 := of_decide_eq_true h1
    have h2 := of_decide_eq_true h2
    exact decide_eq_true (by omega)) (fun a b => by
    rcases Int.le_total a b with h | h
    · rw [decide_eq_true h]; rfl
    · rw [decide_eq_true h, Bool.or_true]) ((ws ++ ws).map fun (c : Nat) => (c : Int))
  exact h.imp fun h => of_decide_eq_true h
theorem few_B (ls : List (Nat × List Nat)) : decide ((((ls.filter fun il => decide ((il.2.length : Int) + 1 < (ls.length : Int))).length : Nat) : Int) = 0) = waitsB ls := by
  have e : (ls.filter fun il => decide ((il.2.length : Int) + 1 < (ls.length : Int))) = [] ↔ waitsB ls = true := by
    rw [List.filter_eq_nil_iff]
    unfold waitsB
    rw [List.all_eq_true]
    refine forall_congr' fun il => forall_congr' fun _ => ?_
    rw [decide_eq_true_iff, decide_eq_true_iff]
    omega
  cases h : waitsB ls with
  | true => rw [e.mpr h]; rfl
  | false =>
    refine decide_eq_false fun z => ?_
    have z : (ls.filter fun il => decide ((il.2.length : Int) + 1 < (ls.length : Int))).length = 0 := Int.ofNat.inj z
    have := e.mp (List.length_eq_zero_iff.mp z)
    rw [h] at this
    cases this
def spEach : Sp := fun vs H Q _ => ∃ (a b : Addr) (ns : List Int) (ws : List Nat), vs = [.ref a, .ref b] ∧ H a = some (.lst (ns.map V.int)) ∧ ns.length ≤ 100000 ∧ H b = some (.lst (nV ws)) ∧ b ≠ a ∧ ws.Pairwise (· < ·) ∧ (∀ c ∈ ws, c < 60) ∧ 1 ≤ ws.length ∧ ws.length ≤ 6 ∧
  ∀ (ns' : List Int) H', ns'.length ≤ ns.length → H' a = some (.lst (ns'.map V.int)) → SameBut a H H' → Q (.bl true) H'
section
variable {P : Program} {w : World} {K : PySem.W.Frag} {mg : Str → Option Value} {base : Heap} {CN CR CM : Addr}
theorem scEach : FnScope ["_law_found", "_law_names_here", "_law_row", "_law_lists", "_law_schedule", "_law_again", "_law_kept", "_law_few", "_law_name", "_law_look"] ["_law_found", "_law_names_here"] (defScope sEach) := ⟨rfl, rfl, rfl, by decide +kernel, rfl, by decide +kernel, by decide +kernel⟩
theorem ok_each {f : Addr} {fd : FuncData} (F : Fun K "_law_each_comes" "_law_each_comes" sEach f fd) (m_len : mg "len" = none) (m_tuple : mg "tuple" = none) (m_list : mg "list" = none) (m_bool : mg "bool" = none) (m_sorted : mg "sorted" = none) (m_isinstance : mg "isinstance" = none)
    (D_looks : Fok P w K mg base 2 "_law_looks" ["_law_found", "_law_names_here"] spLooks) (D_sched : Fok P w K mg base 7 "look_schedule" ["row"] (spSched K CR))
    (D_run : Fok P w K mg base 3 "look_run" ["schedule"] (spLRun K CN)) (D_own : Fok P w K mg base 1 "_law_own_run" ["_law_schedule"] (spOwn K)) (D_waits : Fok P w K mg base 7 "waits" ["row"] (spWaits K CR)) :
    FnOk P w K mg base (L2.CX P w) 8 f fd ["_law_found", "_law_names_here"] spEach := by
  refine F.okX scEach (fun vs H Q E h => ?_) (fun cdv A outer s H vs Q E hr h => ?_)
  · obtain ⟨a, b, ns, ws, rfl, _⟩ := h
    rfl
  obtain ⟨a, b, ns, ws, rfl, ha, hl, hb, hba, asc, lt, m1, m6, k⟩ := h
  have sc := scEach
  refine ⟨_, (pss_cons (ps_set (i := 2) sc.nd rfl (Or.inr rfl) (pe_f D_looks (hr.mono (by decide)) (pa_cons (pv 0) (pa_cons (pv 1) pa_nil))))
      (pss_cons (ps_setLc (i := 3) (own := [("_law_name", 8), ("_law_look", 9)]) (g := gAny K 2 (gCons (gName 8) (gCons (gName 9) gNil))) (tt := tYes) (by rfl) sc.nd rfl rfl (sw_true rfl rfl rfl (by decide +kernel)) (pi_tup (pv 2)) (blkOk_by (own := [("_law_name", 8), ("_law_look", 9)]) (N := ["_law_found", "_law_names_here", "_law_row", "_law_lists", "_law_schedule", "_law_again", "_law_kept", "_law_few", "_law_name", "_law_look"]) (sc := defScope sEach) (by decide +kernel)) (fun _ _ _ _ _ => pg_any (by rfl) (pgs_cons (pg_name (i := 8) sc.nd rfl (Or.inl rfl)) (pgs_cons (pg_name (i := 9) sc.nd rfl (Or.inl rfl)) pgs_nil))) (fun _ _ _ _ _ => pts_nil) (fun _ _ _ _ _ => (pe_lst (pa_cons (pv 8) (pa_cons (pe_callTy (listOK K) (by rfl) m_list (by decide +kernel) (pa_cons (pv 9) pa_nil)) pa_nil)))))
      (pss_cons (ps_set (i := 4) sc.nd rfl (Or.inl rfl) (pe_f D_sched (hr.mono (by decide)) (pa_cons (pv 2) pa_nil)))
      (pss_cons (ps_set (i := 5) sc.nd rfl (Or.inl rfl) (pe_f D_sched (hr.mono (by decide)) (pa_cons (pv 3) pa_nil)))
      (pss_cons (ps_if (PW.pt (pw_or (pt_not (pt_val (pe_callB call_isi (by rfl) m_isinstance (by decide +kernel) (pa_cons (pv 4) (pa_cons (pe_bltn (v := .ty "tuple") (u := .type "tuple") (by rfl) m_tuple (by decide +kernel) rfl) pa_nil))))) (pw_or (pt_cmpR (op_neD hr.units) (pe_f D_sched (hr.mono (by decide)) (pa_cons (pv 2) pa_nil)) (pv 4) (nomark _)) (pw_or1 (pt_cmpR (op_neD hr.units) (pe_callB (sortA K) (by rfl) m_sorted (by decide +kernel) (pa_cons (pv 4) pa_nil)) (pe_callB (sortA K) (by rfl) m_sorted (by decide +kernel) (pa_cons (pe_op op_cat (pv 1) (pv 1)) pa_nil)) (nomark _)))))) (pss_one (ps_ret pe_bl)) pss_nil)
      (pss_cons (ps_if (pt_cmpR (op_neD hr.units) (pe_f D_own (hr.mono (by decide)) (pa_cons (pv 5) pa_nil)) (pe_tup (pa_cons (pe_callTy (tupOK K) (by rfl) m_tuple (by decide +kernel) (pa_cons (pv 1) pa_nil)) (pa_cons (pv 2) pa_nil))) (nomark _)) (pss_one (ps_ret pe_bl)) pss_nil)
      (pss_cons (ps_if (PW.pt (pw_or (pt_cmpR (op_neD hr.units) (pe_f D_own (hr.mono (by decide)) (pa_cons (pv 4) pa_nil)) (pe_tup (pa_cons (pe_callTy (tupOK K) (by rfl) m_tuple (by decide +kernel) (pa_cons (pv 1) pa_nil)) (pa_cons (pv 2) pa_nil))) (nomark _)) (pw_or1 (pt_cmpR (op_neD hr.units) (pe_f D_run (hr.mono (by decide)) (pa_cons (pe_callTy (listOK K) (by rfl) m_list (by decide +kernel) (pa_cons (pv 4) pa_nil)) pa_nil)) (pe_tup (pa_cons (pe_callTy (tupOK K) (by rfl) m_tuple (by decide +kernel) (pa_cons (pv 1) pa_nil)) (pa_cons (pv 2) pa_nil))) (nomark _))))) (pss_one (ps_ret pe_bl)) pss_nil)
      (pss_cons (ps_setLc (i := 6) (own := [("_law_name", 8), ("_law_look", 9)]) (g := gAny K 2 (gCons (gName 8) (gCons (gName 9) gNil))) (tt := tYes) (by rfl) sc.nd rfl rfl (sw_true rfl rfl rfl (by decide +kernel)) (pi_tup (pv 2)) (blkOk_by (own := [("_law_name", 8), ("_law_look", 9)]) (N := ["_law_found", "_law_names_here", "_law_row", "_law_lists", "_law_schedule", "_law_again", "_law_kept", "_law_few", "_law_name", "_law_look"]) (sc := defScope sEach) (by decide +kernel)) (fun _ _ _ _ _ => pg_any (by rfl) (pgs_cons (pg_name (i := 8) sc.nd rfl (Or.inl rfl)) (pgs_cons (pg_name (i := 9) sc.nd rfl (Or.inl rfl)) pgs_nil))) (fun _ _ _ _ _ => pts_nil) (fun _ _ _ _ _ => (pe_lst (pa_cons (pv 8) (pa_cons (pe_callTy (listOK K) (by rfl) m_list (by decide +kernel) (pa_cons (pv 9) pa_nil)) pa_nil)))))
      (pss_cons (ps_set (i := 7) sc.nd rfl (Or.inl rfl) (pe_cmpR op_eq (pe_callB (lenK K) (by rfl) m_len PySem.boot_len (pa_cons (pe_lc (own := [("_law_name", 8), ("_law_look", 9)]) (g := gAny K 2 (gCons (gName 8) (gCons (gName 9) gNil)))  rfl sc.nd (pi_tup (pv 2)) (blkOk_by (own := [("_law_name", 8), ("_law_look", 9)]) (N := ["_law_found", "_law_names_here", "_law_row", "_law_lists", "_law_schedule", "_law_again", "_law_kept", "_law_few", "_law_name", "_law_look"]) (sc := defScope sEach) (by decide +kernel)) (fun _ _ _ _ _ => pg_any (by rfl) (pgs_cons (pg_name (i := 8) sc.nd rfl (Or.inl rfl)) (pgs_cons (pg_name (i := 9) sc.nd rfl (Or.inl rfl)) pgs_nil))) (fun _ _ _ _ _ => (pts_one (pt_cmpR op_lt (pe_op op_add (pe_callB (lenK K) (by rfl) m_len PySem.boot_len (pa_cons (pv 9) pa_nil)) pe_int) (pe_callB (lenK K) (by rfl) m_len PySem.boot_len (pa_cons (pv 2) pa_nil)) (nomark _)))) (fun _ _ _ _ _ => (pv 8))) pa_nil)) pe_int (nomark _)))
      (pss_one (ps_ret (pe_and (pe_cmpR (op_eqD hr.units) (pv 3) (pv 6) (nomark _)) (pe_and (pe_callB call_isi (by rfl) m_isinstance (by decide +kernel) (pa_cons (pe_f D_waits (hr.mono (by decide)) (pa_cons (pv 3) pa_nil)) (pa_cons (pe_bltn (v := .ty "bool") (u := .type "bool") (by rfl) m_bool (by decide +kernel) rfl) pa_nil))) (pe_and (pe_cmpR op_eq (pe_f D_waits (hr.mono (by decide)) (pa_cons (pv 3) pa_nil)) (pv 7) (nomark _)) (pe_one (pe_cmpR op_eq (pe_f D_waits (hr.mono (by decide)) (pa_cons (pv 2) pa_nil)) (pv 7) (nomark _))))))))))))))))), ?_⟩
  walk_at "go"
  refine ⟨a, b, ns, ws, rfl, ha, hl, hb, hba, asc, lt, m1, m6, fun t0 ls ns1 H1 R ews l1 h1 s1 ht0 => ?_⟩
  have hb1 := s1 _ _ hba hb
  have lls : ls.length = ws.length := by rw [← ews, List.length_map]
  have lne : ls ≠ [] := fun z => by rw [z] at lls; simp at lls; omega
  obtain ⟨rs, hT, ers⟩ := ht0.rdT
  have lrs : rs.length = ws.length := by rw [← lls, ← ers, List.length_map]
  have asc10 : ∀ l : List Nat, l.Pairwise (· < ·) → (∀ c ∈ l, c ∈ ws) → l.length ≤ 6 := fun l h1 h2 => Nat.le_trans (asc_sub asc h1 h2).length_le m6
  have l10 : ∀ il ∈ ls, il.2.length ≤ 6 := fun il hil => asc10 _ (R.lookAsc hil) fun c hc => by rw [← ews]; exact R.sub il hil c hc
  have lrl : ∀ t ∈ rs, t.l.length ≤ 6 := fun t ht => l10 t.k (by rw [← ers]; exact List.mem_map.mpr ⟨t, ht, rfl⟩)
  have hrb : roundB ls = true := R.round lne
  have hG : ∀ H', Same H1 H' → GoodRd K H' t0 rs := fun H' s => ⟨(hT.keep s).rnd, by omega, fun t ht => by have := lrl t ht; omega, by rw [ers]; exact hrb⟩
  obtain ⟨u1, u2, u3, u4⟩ := sched_run R
  rw [ews] at u1 u4
  have hRun : ∀ {H' : Hp} {t : Addr}, RunAt H' t (inOrder 60 (lr 60 (schedOf ls)).wr) (lrLooks 60 (lr 60 (schedOf ls))) → Dp K H' (.ref t) (runD ws ls) := fun h => by
    have := dp_run (K := K) h
    rw [u1, u2] at this
    exact this
  have lsch : (schedOf ls).length = ws.length + ws.length := by rw [u4.length_eq, List.length_append]
  walk_at "go"
  refine r_tupK (SqT.of hT.1) ?_
  refine (r_lcPd rs RP.v (fun t => [some (.ref a), some (.ref b), some (.ref t0), none, none, none, none, none, some (.int (t.c : Int)), some (.ref t.r)]) (fun Dl t y H => ∃ b : RP, y = b.v ∧ b.k = t.k ∧ H b.p = some (.lst [.int (b.c : Int), .ref b.r]) ∧ H b.r = some (.lst (nV b.l)) ∧ b.p ≠ Dl ∧ b.r ≠ Dl) (fun t v Dl zs H H' h1 h2 h3 => ?_) (fun Dl t v H H' s h => ?_) (by omega) (SqX.T hT.1) (fun t ht H4 s4 k2 hk2 => ?_) (fun t => rfl) (fun t ht Dl acc H4 s4 hDl Q y => ?_) fun L ys H2 hp0 s2 hys hlen hat => ?_).2.2 (SqT.of hT.1)
  · obtain ⟨b, e1, e2, e3, e4, e5, e6⟩ := h2
    exact ⟨b, e1, e2, h3 _ _ e5 e3, h3 _ _ e6 e4, e5, e6⟩
  · obtain ⟨b, e1, e2, e3, e4, e5, e6⟩ := h
    exact ⟨b, e1, e2, s _ _ e3, s _ _ e4, e5, e6⟩
  · refine r_gA (SqX.T (s4 _ _ (hT.2 t ht).1)) rfl ?_
    walk_at "go"
    exact ⟨rfl, hk2⟩
  · walk_at "go"
    refine r_listO (.inr (SqT.of (s4 _ _ (hT.2 t ht).2))) fun r hr => ?_
    walk_at "go"
    refine ⟨by show 2 ≤ sizeLine; decide, fun p hp => ?_⟩
    have sr := same_new (o := .lst (nV t.l)) hr
    have sp := same_new (o := .lst [.int (t.c : Int), .ref r]) hp
    refine y _ _ (sr.trans sp) ⟨⟨p, t.c, r, t.l⟩, rfl, rfl, upd_same, sp _ _ upd_same, fun z => ?_, fun z => ?_⟩
    · have z : p = Dl := z
      rw [z, sr _ _ hDl] at hp
      cases hp
    · have z : r = Dl := z
      rw [z, hDl] at hr
      cases hr
  obtain ⟨rs2, rfl, er2, hbs⟩ := collect (ka := RP.k) (kb := RP.k) (vb := RP.v) (At := fun b => H2 b.p = some (.lst [.int (b.c : Int), .ref b.r]) ∧ H2 b.r = some (.lst (nV b.l))) rs ys hlen fun i t y h1 h2 => by
    obtain ⟨b, e1, e2, e3, e4, _⟩ := hat i t y h1 h2
    exact ⟨b, e1, e2, e3, e4⟩
  rw [ers] at er2
  have hL : RdL H2 L rs2 := ⟨hys, hbs⟩
  have lr2 : rs2.length = ws.length := by rw [← lls, ← er2, List.length_map]
  have l2 : ∀ t ∈ rs2, t.l.length ≤ 6 := fun t ht => l10 t.k (by rw [← er2]; exact List.mem_map.mpr ⟨t, ht, rfl⟩)
  clear hys hlen hat hbs hp0
  have s12 := s2
  walk_at "go"
  have hb2 := s2 _ _ hb1
  refine ⟨.ref t0, rfl, .inr ⟨t0, rs, rfl, hG _ s2, by omega, fun t ht => by have := lrl t ht; omega, fun t5 H3 s3 ht5 => ?_⟩⟩
  rw [ers] at ht5
  walk_at "go"
  have s13 := s2.trans s3
  have hGL : ∀ H', Same H2 H' → GoodRd K H' L rs2 := fun H' s => ⟨(hL.keep s).rnd, by omega, fun t ht => by have := l2 t ht; omega, by rw [er2]; exact hrb⟩
  refine ⟨.ref L, rfl, .inr ⟨L, rs2, rfl, hGL _ s3, by omega, fun t ht => by have := l2 t ht; omega, fun t6 H4 s4 ht6 => ?_⟩⟩
  rw [er2] at ht6
  walk_at "go"
  have ht54 := s4 _ _ ht5
  have s14 := s13.trans s4
  refine ⟨.ref t5, .ty "tuple", .type "tuple", .type "tuple", true, rfl, .ty _, sm_ty (.tup (SqT.of ht54)), kit_ty (by decide +kernel), _, rfl, ?_⟩
  refine ite_no rfl ?_
  walk_at "go"
  refine ⟨.ref t0, rfl, .inr ⟨t0, rs, rfl, hG _ s14, by omega, fun t ht => by have := lrl t ht; omega, fun t7 H5 s5 ht7 => ?_⟩⟩
  rw [ers] at ht7
  walk_at "go"
  have s15 := s14.trans s5
  have ht55 := s5 _ _ ht54
  refine r_neSame (dp_tupN (SqT.of ht7)) (dp_tupN (SqT.of ht55)) (okd_names _) (by decide) ?_
  walk_at "go"
  have pmS : (dbl ws).Perm ((schedOf ls).map fun (c : Nat) => (c : Int)) := (dbl_perm ws).trans (u4.symm.map _)
  refine r_sortedA (ks := (schedOf ls).map fun (c : Nat) => (c : Int)) (ss := dbl ws) (by rw [← ints_nV]; exact SqX.T ht55) (by rw [List.length_map]; omega) pmS (dbl_up ws) fun q1 hq1 => ?_
  have sq1 := same_new (o := .lst ((dbl ws).map V.int)) hq1
  have hq1' : (upd H5 q1 (.lst ((dbl ws).map V.int))) q1 = some (.lst ((dbl ws).map V.int)) := upd_same
  generalize upd H5 q1 (.lst ((dbl ws).map V.int)) = H6 at sq1 hq1' ⊢
  walk_at "go"
  have hb6 := sq1 _ _ (s15 _ _ hb1)
  refine r_catL hb6 hb6 (by rw [nV_len]; omega) fun q2 hq2 => ?_
  rw [← nV_append]
  walk_at "go"
  have sq2 := same_new (o := .lst (nV (ws ++ ws))) hq2
  refine r_sortedA (ks := (ws ++ ws).map fun (c : Nat) => (c : Int)) (ss := dbl ws) (by rw [← ints_nV]; exact SqX.L upd_same) (by rw [List.length_map, List.length_append]; omega) (dbl_perm ws) (dbl_up ws) fun q3 hq3 => ?_
  have s67 := sq2.trans (same_new (o := .lst ((dbl ws).map V.int)) hq3)
  have hq3' : (upd (upd H6 q2 (.lst (nV (ws ++ ws)))) q3 (.lst ((dbl ws).map V.int))) q3 = some (.lst ((dbl ws).map V.int)) := upd_same
  generalize upd (upd H6 q2 (.lst (nV (ws ++ ws)))) q3 (.lst ((dbl ws).map V.int)) = H7 at s67 hq3' ⊢
  refine r_neSame (d := .list ((dbl ws).map PyData.int)) (.lst (SqL.of (s67 _ _ hq1')) (dp_ints _)) (.lst (SqL.of hq3') (dp_ints _)) (okd_lst (okd_ints _)) (by decide) ?_
  have s57 := sq1.trans s67
  have s17 := s15.trans s57
  have ht67 := s57 _ _ (s5 _ _ ht6)
  have ht57 := s57 _ _ ht55
  walk_at "go"
  refine ⟨t6, 60, schedOf ls, rfl, SqX.T ht67, u3, by decide, fun t8 H8 s8 ht8 => ?_⟩
  have s18 := s17.trans s8
  walk_at "go"
  refine r_tupL (SqL.of (s18 _ _ hb1)) fun t9 ht9 => ?_
  walk_at "go"
  refine ⟨by show 2 ≤ sizeLine; decide, fun t10 ht10 => ?_⟩
  walk_at "go"
  have s8x := (same_new (o := .tup (nV ws)) ht9).trans (same_new (o := .tup [.ref t9, .ref t0]) ht10)
  refine r_neSame (d := runD ws ls) ((hRun (ht8.keep s8x))) (.tup (SqT.of upd_same) (.cons (dp_tupN (SqT.of ((same_new ht10) _ _ upd_same))) (.cons (dp_pairs (ht0.keep (s18.trans s8x))) .nil))) (okd_run ws ls) (by decide) ?_
  generalize upd (upd _ t9 _) t10 _ = H9 at s8x ⊢
  walk_at "go"
  refine ⟨t5, 60, schedOf ls, rfl, SqX.T (s8x _ _ (s8 _ _ ht57)), u3, by decide, fun t11 H10 s10 ht11 => ?_⟩
  have s1a := (s18.trans s8x).trans s10
  have ht5a := s10 _ _ (s8x _ _ (s8 _ _ ht57))
  walk_at "go"
  refine r_tupL (SqL.of (s1a _ _ hb1)) fun t12 ht12 => ?_
  walk_at "go"
  refine ⟨by show 2 ≤ sizeLine; decide, fun t13 ht13 => ?_⟩
  walk_at "go"
  have s10x := (same_new (o := .tup (nV ws)) ht12).trans (same_new (o := .tup [.ref t12, .ref t0]) ht13)
  refine r_neSame (d := runD ws ls) ((hRun (ht11.keep s10x))) (.tup (SqT.of upd_same) (.cons (dp_tupN (SqT.of ((same_new ht13) _ _ upd_same))) (.cons (dp_pairs (ht0.keep (s1a.trans s10x))) .nil))) (okd_run ws ls) (by decide) ?_
  generalize upd (upd _ t12 _) t13 _ = H11 at s10x ⊢
  walk_at "go"
  refine r_listO (.inr (SqT.of (s10x _ _ ht5a))) fun q4 hq4 => ?_
  have sq4 := same_new (o := .lst (nV (schedOf ls))) hq4
  walk_at "go"
  refine ⟨.ref q4, rfl, .inr ⟨q4, 60, schedOf ls, rfl, SqX.L upd_same, u3, by decide, fun t14 H12 s12a ht14 => ?_⟩⟩
  have s1c := (s1a.trans s10x).trans (sq4.trans s12a)
  walk_at "go"
  refine r_tupL (SqL.of (s1c _ _ hb1)) fun t15 ht15 => ?_
  walk_at "go"
  refine ⟨by show 2 ≤ sizeLine; decide, fun t16 ht16 => ?_⟩
  walk_at "go"
  have s12x := (same_new (o := .tup (nV ws)) ht15).trans (same_new (o := .tup [.ref t15, .ref t0]) ht16)
  refine r_neSame (d := runD ws ls) ((hRun (ht14.keep s12x))) (.tup (SqT.of upd_same) (.cons (dp_tupN (SqT.of ((same_new ht16) _ _ upd_same))) (.cons (dp_pairs (ht0.keep (s1c.trans s12x))) .nil))) (okd_run ws ls) (by decide) ?_
  generalize upd (upd _ t15 _) t16 _ = H13 at s12x ⊢
  walk_at "go"
  have s1d := s1c.trans s12x
  have hTd := hT.keep s1d
  refine r_tupK (SqT.of hTd.1) ?_
  refine (r_lcPd rs RP.v (fun t => [some (.ref a), some (.ref b), some (.ref t0), some (.ref L), some (.ref t5), some (.ref t6), none, none, some (.int (t.c : Int)), some (.ref t.r)]) (fun Dl t y H => ∃ b : RP, y = b.v ∧ b.k = t.k ∧ H b.p = some (.lst [.int (b.c : Int), .ref b.r]) ∧ H b.r = some (.lst (nV b.l)) ∧ b.p ≠ Dl ∧ b.r ≠ Dl) (fun t v Dl zs H H' h1 h2 h3 => ?_) (fun Dl t v H H' s h => ?_) (by omega) (SqX.T hTd.1) (fun t ht H4 s4 k2 hk2 => ?_) (fun t => rfl) (fun t ht Dl acc H4 s4 hDl Q y => ?_) fun L3 ys H14 hp0 s14e hys hlen hat => ?_).2.2 (SqT.of hTd.1)
  · obtain ⟨b, e1, e2, e3, e4, e5, e6⟩ := h2
    exact ⟨b, e1, e2, h3 _ _ e5 e3, h3 _ _ e6 e4, e5, e6⟩
  · obtain ⟨b, e1, e2, e3, e4, e5, e6⟩ := h
    exact ⟨b, e1, e2, s _ _ e3, s _ _ e4, e5, e6⟩
  · refine r_gA (SqX.T (s4 _ _ (hTd.2 t ht).1)) rfl ?_
    walk_at "go"
    exact ⟨rfl, hk2⟩
  · walk_at "go"
    refine r_listO (.inr (SqT.of (s4 _ _ (hTd.2 t ht).2))) fun r hr => ?_
    walk_at "go"
    refine ⟨by show 2 ≤ sizeLine; decide, fun p hp => ?_⟩
    have sr := same_new (o := .lst (nV t.l)) hr
    have sp := same_new (o := .lst [.int (t.c : Int), .ref r]) hp
    refine y _ _ (sr.trans sp) ⟨⟨p, t.c, r, t.l⟩, rfl, rfl, upd_same, sp _ _ upd_same, fun z => ?_, fun z => ?_⟩
    · have z : p = Dl := z
      rw [z, sr _ _ hDl] at hp
      cases hp
    · have z : r = Dl := z
      rw [z, hDl] at hr
      cases hr
  obtain ⟨rs3, rfl, er3, hbs⟩ := collect (ka := RP.k) (kb := RP.k) (vb := RP.v) (At := fun b => H14 b.p = some (.lst [.int (b.c : Int), .ref b.r]) ∧ H14 b.r = some (.lst (nV b.l))) rs ys hlen fun i t y h1 h2 => by
    obtain ⟨b, e1, e2, e3, e4, _⟩ := hat i t y h1 h2
    exact ⟨b, e1, e2, e3, e4⟩
  rw [ers] at er3
  have hL3 : RdL H14 L3 rs3 := ⟨hys, hbs⟩
  have lr2 : rs3.length = ws.length := by rw [← lls, ← er3, List.length_map]
  have l3 : ∀ t ∈ rs3, t.l.length ≤ 6 := fun t ht => l10 t.k (by rw [← er3]; exact List.mem_map.mpr ⟨t, ht, rfl⟩)
  clear hys hlen hat hbs hp0
  have s1e := s1d.trans s14e
  walk_at "go"
  have hTe := hT.keep s1e
  refine r_tupK (SqT.of hTe.1) ?_
  refine r_lcZG rs RP.v (fun t => [some (.ref a), some (.ref b), some (.ref t0), some (.ref L), some (.ref t5), some (.ref t6), some (.ref L3), none, some (.int (t.c : Int)), some (.ref t.r)]) (fun t => decide ((t.l.length : Int) + 1 < (ls.length : Int))) (fun t => .int (t.c : Int)) (SqT.of hTe.1) (by omega) (fun t ht H15 s15 k2 hk2 => ?_) (fun t => rfl) (fun t ht H15 s15 QT y => ?_) (fun t ht H15 _ s15 Q y => ?_) fun p15 H15 hp15 s15e h15 => ?_
  · refine r_gA (SqX.T (s15 _ _ (hTe.2 t ht).1)) rfl ?_
    walk_at "go"
    exact ⟨rfl, hk2⟩
  · walk_at "go"
    refine r_lenT (SqT.of (s15 _ _ (hTe.2 t ht).2)) ?_
    rw [nV_len]
    walk_at "go"
    refine r_lenT (SqT.of (s15 _ _ hTe.1)) ?_
    rw [List.length_map, lrs, ← lls]
    walk_at "go"
    exact y H15 (Same.refl _)
  · walk_at "go"
    exact y H15 (Same.refl _)
  walk_at "go"
  refine r_lenL (SqL.of h15) ?_
  walk_at "go"
  have efew : decide ((((((rs.filter fun t => decide ((t.l.length : Int) + 1 < (ls.length : Int))).map fun t => V.int (t.c : Int)).length : Nat)) : Int) = 0) = waitsB ls := by
    rw [← few_B, List.length_map]
    have e : (ls.filter fun il => decide ((il.2.length : Int) + 1 < (ls.length : Int))).length = (rs.filter fun t => decide ((t.l.length : Int) + 1 < (ls.length : Int))).length := by
      rw [← congrArg (List.filter fun il : Nat × List Nat => decide ((il.2.length : Int) + 1 < (ls.length : Int))) ers, List.filter_map, List.length_map]
      rfl
    rw [e]
  rw [efew]
  have s1f := s1e.trans s15e
  walk_at "go"
  have hLf := hL.keep (((((s3.trans s4).trans s5).trans s57).trans s8).trans ((((s8x.trans s10).trans s10x).trans (sq4.trans s12a)).trans (s12x.trans (s14e.trans s15e))))
  have hL3f := hL3.keep s15e
  have dL : Dp K H15 (.ref L) (.list (ls.map pairL)) := by have := hLf.dp (K := K); rw [er2] at this; exact this
  have dL3 : Dp K H15 (.ref L3) (.list (ls.map pairL)) := by have := hL3f.dp (K := K); rw [er3] at this; exact this
  refine r_eqSame dL dL3 (okd_RdL ls) (by decide) ?_
  walk_at "go"
  have hGLf : ∀ H', Same H15 H' → GoodRd K H' L rs2 := fun H' s => ⟨(hLf.keep s).rnd, by omega, fun t ht => by have := l2 t ht; omega, by rw [er2]; exact hrb⟩
  refine ⟨.ref L, rfl, .inr ⟨L, rs2, rfl, hGLf _ (Same.refl _), fun H16 s16 => ?_⟩⟩
  rw [er2]
  walk_at "go"
  refine ⟨.bl (waitsB ls), .ty "bool", .type "bool", .type "bool", true, rfl, .ty _, sm_ty (.bl _), kit_ty (by decide +kernel), _, rfl, ?_⟩
  refine ite_yes rfl ?_
  walk_at "go"
  refine ⟨.ref L, rfl, .inr ⟨L, rs2, rfl, hGLf _ s16, fun H17 s17a => ?_⟩⟩
  rw [er2]
  walk_at "go"
  refine ⟨rfl, ?_⟩
  rw [show decide (V.bl (waitsB ls) = V.bl (waitsB ls)) = true from decide_eq_true rfl]
  walk_at "go"
  refine ⟨.ref t0, rfl, .inr ⟨t0, rs, rfl, hG _ (s1f.trans (s16.trans s17a)), fun H18 s18a => ?_⟩⟩
  rw [ers]
  walk_at "go"
  refine ⟨rfl, ?_⟩
  rw [show decide (V.bl (waitsB ls) = V.bl (waitsB ls)) = true from decide_eq_true rfl]
  have sfin := s1f.trans ((s16.trans s17a).trans s18a)
  exact k ns1 H18 l1 (sfin _ _ h1) (s1.trans (SameBut.of sfin))
end
end K9
namespace K9
open PySem L2 Er K7M
/-! equal as data, equal -/
theorem eqv_ints : ∀ {a b : List Nat}, PyData.eqvAll ((a.map fun (c : Nat) => (c : Int)).map PyData.int) ((b.map fun (c : Nat) => (c : Int)).map PyData.int) = true → a = b
  | [], [], _ => rfl
  | [], _ :: _, h => by simp [PyData.eqvAll] at h
  | _ :: _, [], h => by simp [PyData.eqvAll] at h
  | x :: a, y :: b, h => by
    simp only [List.map_cons, PyData.eqvAll, PyData.eqv, Bool.and_eq_true, beq_iff_eq] at h
    rw [eqv_ints h.2, show x = y by omega]
theorem eqv_pair {x y : Nat × List Nat} (h : PyData.eqv (pairD x) (pairD y) = true) : x = y := by
  unfold pairD namesD at h
  simp only [PyData.eqvAll, PyData.eqv, Bool.and_eq_true, beq_iff_eq] at h
  have h1 : x.1 = y.1 := by omega
  have h2 := eqv_ints h.2.1
  exact Prod.ext h1 h2
theorem eqv_pairs : ∀ {a b : List (Nat × List Nat)}, PyData.eqvAll (a.map pairD) (b.map pairD) = true → a = b
  | [], [], _ => rfl
  | [], _ :: _, h => by simp [PyData.eqvAll] at h
  | _ :: _, [], h => by simp [PyData.eqvAll] at h
  | x :: a, y :: b, h => by
    simp only [List.map_cons, PyData.eqvAll, Bool.and_eq_true] at h
    rw [eqv_pairs h.2, eqv_pair h.1]
theorem eqv_rowD {a b : List (Nat × List Nat)} : PyData.eqv (rowD a) (rowD b) = true ↔ a = b := by
  constructor
  · intro h
    unfold rowD at h
    rw [PyData.eqv] at h
    exact eqv_pairs h
  · rintro rfl
    exact SeqAt.eqv_refl _ (okd_pairs a).1
/-! the waiting rounds -/
theorem fst_inj : ∀ {ls : List (Nat × List Nat)}, (ls.map (·.1)).Pairwise (· < ·) → ∀ {c : Nat} {l l' : List Nat}, (c, l) ∈ ls → (c, l') ∈ ls → l = l'
  | [], _, _, _, _, h, _ => by cases h
  | x :: ls, hp, c, l, l', h, h' => by
    rw [List.map_cons] at hp
    obtain ⟨h1, h2⟩ := List.pairwise_cons.mp hp
    rcases List.mem_cons.mp h with e | h
    · rcases List.mem_cons.mp h' with e' | h'
      · rw [← e] at e'
        exact (Prod.mk.inj e').2.symm
      · have := h1 c (List.mem_map.mpr ⟨_, h', rfl⟩)
        rw [← e] at this
        exact absurd this (Nat.lt_irrefl _)
    · rcases List.mem_cons.mp h' with e' | h'
      · have := h1 c (List.mem_map.mpr ⟨_, h, rfl⟩)
        rw [← e'] at this
        exact absurd this (Nat.lt_irrefl _)
      · exact fst_inj h2 h h'
theorem oth_mem {ws : List Nat} {late c : Nat} : c ∈ oth ws late ↔ c ∈ ws ∧ c ≠ late := by
  unfold oth
  rw [List.mem_filter]
  simp
theorem map_pair_fst (ws : List Nat) (g : Nat → List Nat) : (ws.map fun c => (c, g c)).map (·.1) = ws := by
  rw [List.map_map]
  exact List.map_id' ws
/-- rows whose looks are all the names, or all but one -/
theorem rnd_two {ws o e : List Nat} (asc : ws.Pairwise (· < ·)) (lt : ∀ c ∈ ws, c < 60) (ho : o.Sublist ws) (hl : o.length + 1 = ws.length) (he : ∀ c ∈ e, c ∈ o) : Rnd 60 (lateR ws o e) ∧ waitsB (lateR ws o e) = true ∧ (lateR ws o e).map (·.1) = ws := by
  have at_ : ∀ il ∈ lateR ws o e, ∃ c, c ∈ ws ∧ il = (c, if c ∈ e then o else ws) := fun il h => by
    obtain ⟨c, hc, z⟩ := List.mem_map.mp h
    exact ⟨c, hc, z.symm⟩
  have hf : (lateR ws o e).map (·.1) = ws := map_pair_fst ws _
  have hsub : ∀ c, (if c ∈ e then o else ws).Sublist ws := fun c => by
    by_cases z : c ∈ e
    · rw [if_pos z]; exact ho
    · rw [if_neg z]; exact List.Sublist.refl _
  have hlen : ∀ c, ws.length ≤ (if c ∈ e then o else ws).length + 1 := fun c => by
    by_cases z : c ∈ e
    · rw [if_pos z]; omega
    · rw [if_neg z]; omega
  refine ⟨⟨by rw [hf]; exact asc, fun il h => ?_, fun il h => ?_, fun il h => ?_, fun il h c hc => ?_, fun a ha b hb hab c hc => ?_⟩, ?_, hf⟩
  · obtain ⟨c, hc, rfl⟩ := at_ il h
    exact lt c hc
  · obtain ⟨c, hc, rfl⟩ := at_ il h
    show c ∈ (if c ∈ e then o else ws)
    by_cases z : c ∈ e
    · rw [if_pos z]; exact he c z
    · rw [if_neg z]; exact hc
  · obtain ⟨c, hc, rfl⟩ := at_ il h
    exact order_self (asc.sublist (hsub c)) fun d hd => lt d ((hsub c).subset hd)
  · obtain ⟨d, hd, rfl⟩ := at_ il h
    rw [hf]
    exact (hsub d).subset hc
  · obtain ⟨d, hd, rfl⟩ := at_ a ha
    obtain ⟨d', hd', rfl⟩ := at_ b hb
    show c ∈ (if d' ∈ e then o else ws)
    by_cases z' : d' ∈ e
    · by_cases z : d ∈ e
      · rw [if_pos z']
        have hc : c ∈ (if d ∈ e then o else ws) := hc
        rwa [if_pos z] at hc
      · have hab : (if d ∈ e then o else ws).length ≤ (if d' ∈ e then o else ws).length := hab
        rw [if_pos z', if_neg z] at hab
        omega
    · rw [if_neg z']
      exact (hsub d).subset hc
  · unfold waitsB
    rw [List.all_eq_true]
    intro il h
    obtain ⟨c, hc, rfl⟩ := at_ il h
    have h1 := hlen c
    have h2 : (lateR ws o e).length = ws.length := by unfold lateR; rw [List.length_map]
    rw [h2]
    refine decide_eq_true ?_
    show (ws.length : Int) - ((if c ∈ e then o else ws).length : Int) ≤ 1
    omega
theorem rnd_full {ws : List Nat} (asc : ws.Pairwise (· < ·)) (lt : ∀ c ∈ ws, c < 60) : Rnd 60 (fullR ws) ∧ waitsB (fullR ws) = true ∧ (fullR ws).map (·.1) = ws := by
  have hf : (fullR ws).map (·.1) = ws := map_pair_fst ws _
  have at_ : ∀ il ∈ fullR ws, ∃ c, c ∈ ws ∧ il = (c, ws) := fun il h => by
    obtain ⟨c, hc, z⟩ := List.mem_map.mp h
    exact ⟨c, hc, z.symm⟩
  refine ⟨⟨by rw [hf]; exact asc, fun il h => ?_, fun il h => ?_, fun il h => ?_, fun il h c hc => ?_, fun a ha b hb hab c hc => ?_⟩, ?_, hf⟩
  · obtain ⟨c, hc, rfl⟩ := at_ il h
    exact lt c hc
  · obtain ⟨c, hc, rfl⟩ := at_ il h
    exact hc
  · obtain ⟨c, hc, rfl⟩ := at_ il h
    exact order_self asc lt
  · obtain ⟨d, hd, rfl⟩ := at_ il h
    rw [hf]
    exact hc
  · obtain ⟨d, hd, rfl⟩ := at_ a ha
    obtain ⟨d', hd', rfl⟩ := at_ b hb
    exact hc
  · unfold waitsB
    rw [List.all_eq_true]
    intro il h
    obtain ⟨c, hc, rfl⟩ := at_ il h
    have h2 : (fullR ws).length = ws.length := by unfold fullR; rw [List.length_map]
    rw [h2]
    refine decide_eq_true ?_
    show (ws.length : Int) - (ws.length : Int) ≤ 1
    omega
theorem oth_sub (ws : List Nat) (late : Nat) : (oth ws late).Sublist ws := List.filter_sublist
theorem rows_waits {ws : List Nat} (asc : ws.Pairwise (· < ·)) (lt : ∀ c ∈ ws, c < 60) {ls : List (Nat × List Nat)} (h : ls ∈ rowsF ws) : Rnd 60 ls ∧ waitsB ls = true ∧ ls.map (·.1) = ws := by
  have nd : ws.Nodup := asc.imp fun h => Nat.ne_of_lt h
  rcases List.mem_cons.mp h with rfl | h
  · exact rnd_full asc lt
  · obtain ⟨late, hlate, h⟩ := List.mem_flatMap.mp h
    obtain ⟨e, he, rfl⟩ := List.mem_map.mp h
    exact rnd_two asc lt (oth_sub ws late) (oth_len nd hlate) fun c hc => (parts_mem.mp (List.mem_of_mem_drop he)).subset hc
theorem waits_rows {ws : List Nat} (asc : ws.Pairwise (· < ·)) {n : Nat} {ls : List (Nat × List Nat)} (R : Rnd n ls) (hf : ls.map (·.1) = ws) (hw : waitsB ls = true) : ls ∈ rowsF ws := by
  have nd : ws.Nodup := asc.imp fun h => Nat.ne_of_lt h
  have lls : ls.length = ws.length := by rw [← hf, List.length_map]
  have hsub : ∀ il ∈ ls, il.2.Sublist ws := fun il hil => asc_sub asc (R.lookAsc hil) fun c hc => by rw [← hf]; exact R.sub il hil c hc
  have hlen : ∀ il ∈ ls, ws.length ≤ il.2.length + 1 := fun il hil => by
    unfold waitsB at hw
    have := of_decide_eq_true (List.all_eq_true.mp hw il hil)
    rw [lls] at this
    omega
  have eself : ∀ g : Nat → List Nat, (∀ il ∈ ls, il.2 = g il.1) → ls = ws.map fun c => (c, g c) := fun g hg => by
    rw [← hf, List.map_map]
    have : ls.map ((fun c => (c, g c)) ∘ fun il : Nat × List Nat => il.1) = ls.map id := List.map_congr_left fun il hil => by
      show (il.1, g il.1) = il
      rw [← hg il hil]
    rw [this, List.map_id]
  by_cases hall : ∀ il ∈ ls, il.2 = ws
  · refine List.mem_cons.mpr (.inl ?_)
    exact eself (fun _ => ws) hall
  · refine List.mem_cons.mpr (.inr ?_)
    obtain ⟨il, hil, hne⟩ : ∃ il ∈ ls, il.2 ≠ ws := by
      refine Classical.byContradiction fun z => hall fun il hil => ?_
      exact Classical.byContradiction fun z2 => z ⟨il, hil, z2⟩
    have hs := hsub il hil
    have hl := hlen il hil
    have hlt : il.2.length < ws.length := by
      rcases Nat.lt_or_ge il.2.length ws.length with z | z
      · exact z
      · exact absurd (hs.eq_of_length_le z) hne
    obtain ⟨late, hlate, hmiss⟩ : ∃ late ∈ ws, late ∉ il.2 := by
      refine Classical.byContradiction fun z => ?_
      have h1 : ws.Sublist il.2 := asc_sub (R.lookAsc hil) asc fun c hc => Classical.byContradiction fun z2 => z ⟨c, hc, z2⟩
      have := h1.length_le
      omega
    have eo : il.2 = oth ws late := (asc_sub (asc.sublist (oth_sub ws late)) (R.lookAsc hil) fun c hc => oth_mem.mpr ⟨hs.subset hc, fun z => hmiss (z ▸ hc)⟩).eq_of_length_le (by have := oth_len nd hlate; omega)
    have two : ∀ il' ∈ ls, il'.2 = ws ∨ il'.2 = oth ws late := fun il' hil' => by
      rcases Nat.lt_or_ge il'.2.length ws.length with z | z
      · right
        have h1 := hlen il' hil'
        have e1 : il'.2.length = il.2.length := by omega
        have s1 : il'.2.Sublist il.2 := asc_sub (R.lookAsc hil) (R.lookAsc hil') (R.nest il' hil' il hil (Nat.le_of_eq e1))
        rw [← eo]
        exact s1.eq_of_length_le (Nat.le_of_eq e1.symm)
      · left
        exact (hsub il' hil').eq_of_length_le z
    have hasc : (ls.map (·.1)).Pairwise (· < ·) := R.asc
    refine List.mem_flatMap.mpr ⟨late, hlate, List.mem_map.mpr ⟨ws.filter fun c => decide ((c, oth ws late) ∈ ls), ?_, ?_⟩⟩
    · have hm : (ws.filter fun c => decide ((c, oth ws late) ∈ ls)) ∈ partsF (oth ws late) := parts_mem.mpr (asc_sub (asc.sublist (oth_sub ws late)) (asc.filter _) fun c hc => by
        have := of_decide_eq_true (List.mem_filter.mp hc).2
        exact R.self _ this)
      obtain ⟨T, eT, hT⟩ := parts_head (oth ws late)
      rw [eT] at hm ⊢
      rcases List.mem_cons.mp hm with z | z
      · exfalso
        have : il.1 ∈ ws.filter fun c => decide ((c, oth ws late) ∈ ls) := List.mem_filter.mpr ⟨by rw [← hf]; exact List.mem_map.mpr ⟨il, hil, rfl⟩, decide_eq_true (by rw [← eo]; exact hil)⟩
        rw [z] at this
        cases this
      · exact z
    · refine (eself (fun c => if c ∈ (ws.filter fun c => decide ((c, oth ws late) ∈ ls)) then oth ws late else ws) fun il' hil' => ?_).symm
      have hin : il'.1 ∈ ws := by rw [← hf]; exact List.mem_map.mpr ⟨il', hil', rfl⟩
      by_cases z : (il'.1, oth ws late) ∈ ls
      · rw [if_pos (List.mem_filter.mpr ⟨hin, decide_eq_true z⟩)]
        exact fst_inj hasc hil' z
      · have hn : il'.1 ∉ ws.filter fun c => decide ((c, oth ws late) ∈ ls) := fun y => z (of_decide_eq_true (List.mem_filter.mp y).2)
        rw [if_neg hn]
        rcases two il' hil' with y | y
        · exact y
        · exact absurd (by rw [← y]; exact hil') z
/-- a round waits iff it is one of them -/
theorem any_rows {ws : List Nat} (asc : ws.Pairwise (· < ·)) (lt : ∀ c ∈ ws, c < 60) {ls : List (Nat × List Nat)} (R : Rnd 60 ls) (hf : ls.map (·.1) = ws) : (((WR ws).map rowD).any fun z => PyData.eqv z (rowD ls)) = waitsB ls := by
  have e : (((WR ws).map rowD).any fun z => PyData.eqv z (rowD ls)) = true ↔ waitsB ls = true := by
    rw [List.any_eq_true]
    constructor
    · rintro ⟨d, hd, he⟩
      obtain ⟨l, hl, rfl⟩ := List.mem_map.mp hd
      rw [← eqv_rowD.mp he]
      exact (rows_waits asc lt ((List.mergeSort_perm _ _).mem_iff.mp hl)).2.1
    · intro h
      exact ⟨rowD ls, List.mem_map.mpr ⟨ls, (List.mergeSort_perm _ _).mem_iff.mpr (waits_rows asc R hf h), rfl⟩, eqv_rowD.mpr rfl⟩
  cases h : waitsB ls with
  | true => exact e.mpr h
  | false =>
    cases h2 : (((WR ws).map rowD).any fun z => PyData.eqv z (rowD ls)) with
    | false => rfl
    | true => rw [e.mp h2] at h; cases h
/-! the round of blocks -/
theorem both_mem {n : Nat} {D b : List Nat} {c : Nat} : c ∈ both n D b ↔ c < n ∧ (c ∈ D ∨ c ∈ b) := by
  unfold both
  rw [List.mem_filter, List.mem_range, decide_eq_true_iff]
theorem both_asc (n : Nat) (D b : List Nat) : (both n D b).Pairwise (· < ·) := List.pairwise_lt_range.filter _
/-- what holds of each pair told -/
theorem due_mem {n : Nat} : ∀ {bs : List (List Nat)} {D : List Nat} {il : Nat × List Nat}, il ∈ dueOf n D bs → ∃ b ∈ bs, il.1 ∈ b ∧ (∃ D', il.2 = both n D' b ∧ (∀ c ∈ D, c ∈ D') ∧ ∀ c ∈ D', c ∈ D ∨ c ∈ bs.flatten)
  | [], _, _, h => by cases h
  | b :: bs, D, il, h => by
    rcases List.mem_append.mp h with h | h
    · obtain ⟨c, hc, rfl⟩ := List.mem_map.mp h
      exact ⟨b, List.mem_cons_self .., hc, D, rfl, fun _ h => h, fun _ h => .inl h⟩
    · obtain ⟨b', hb', h1, D', h2, h3, h4⟩ := due_mem h
      refine ⟨b', List.mem_cons_of_mem _ hb', h1, D', h2, fun c hc => h3 c (List.mem_append_left _ hc), fun c hc => ?_⟩
      rw [List.flatten_cons]
      rcases h4 c hc with h | h
      · rcases List.mem_append.mp h with h | h
        · exact .inl h
        · exact .inr (List.mem_append_left _ h)
      · exact .inr (List.mem_append_right _ h)
theorem due_chain {n : Nat} : ∀ {bs : List (List Nat)} {D : List Nat} {x y : Nat × List Nat}, x ∈ dueOf n D bs → y ∈ dueOf n D bs → (∀ c ∈ x.2, c ∈ y.2) ∨ (∀ c ∈ y.2, c ∈ x.2)
  | [], _, _, _, h, _ => by cases h
  | b :: bs, D, x, y, hx, hy => by
    have up : ∀ z ∈ dueOf n (D ++ b) bs, ∀ c ∈ both n D b, c ∈ z.2 := fun z hz c hc => by
      obtain ⟨b', _, _, D', e, h3, _⟩ := due_mem hz
      obtain ⟨h1, h2⟩ := both_mem.mp hc
      rw [e]
      exact both_mem.mpr ⟨h1, .inl (h3 c (List.mem_append.mpr h2))⟩
    rcases List.mem_append.mp hx with hx | hx
    · obtain ⟨c, _, rfl⟩ := List.mem_map.mp hx
      rcases List.mem_append.mp hy with hy | hy
      · obtain ⟨d, _, rfl⟩ := List.mem_map.mp hy
        exact .inl fun _ h => h
      · exact .inl (up y hy)
    · rcases List.mem_append.mp hy with hy | hy
      · obtain ⟨d, _, rfl⟩ := List.mem_map.mp hy
        exact .inr (up x hx)
      · exact due_chain hx hy
theorem due_fst (n : Nat) : ∀ (bs : List (List Nat)) (D : List Nat), (dueOf n D bs).map (·.1) = bs.flatten
  | [], _ => rfl
  | b :: bs, D => by
    show (_ ++ dueOf n (D ++ b) bs).map _ = _
    rw [List.map_append, due_fst n bs, List.map_map, List.flatten_cons]
    congr 1
    show b.map (fun c => c) = b
    exact List.map_id' b
theorem due_snoc (n : Nat) : ∀ (bs : List (List Nat)) (D b : List Nat), dueOf n D (bs ++ [b]) = dueOf n D bs ++ b.map fun c => (c, both n (D ++ bs.flatten) b)
  | [], D, b => by simp [dueOf]
  | d :: bs, D, b => by
    show _ ++ dueOf n (D ++ d) (bs ++ [b]) = (_ ++ dueOf n (D ++ d) bs) ++ _
    rw [due_snoc n bs (D ++ d) b]
    simp only [List.append_assoc, List.flatten_cons]
theorem both_order {n : Nat} {D b : List Nat} : both n D b = inOrder n (D ++ b) := List.filter_congr fun j _ => decide_eq_decide.mpr List.mem_append.symm
theorem due_rnd {ws : List Nat} {bs : List (List Nat)} {ls : List (Nat × List Nat)} (asc : ws.Pairwise (· < ·)) (lt : ∀ c ∈ ws, c < 60) (pb : bs.flatten.Perm ws) (pl : ls.Perm (dueOf 60 [] bs)) (up : ls.Pairwise fun x y => x.1 ≤ y.1) : Rnd 60 ls ∧ ls.map (·.1) = ws := by
  have hf : ls.map (·.1) = ws := by
    refine List.Perm.eq_of_pairwise (le := fun a b => a ≤ b) (fun x y _ _ h1 h2 => Nat.le_antisymm h1 h2) (List.pairwise_map.mpr up) (asc.imp fun h => Nat.le_of_lt h) ?_
    have := pl.map (·.1)
    rw [due_fst] at this
    exact this.trans pb
  have at_ : ∀ il ∈ ls, ∃ b ∈ bs, il.1 ∈ b ∧ ∃ D', il.2 = both 60 D' b ∧ ∀ c ∈ D', c ∈ bs.flatten := fun il hil => by
    obtain ⟨b, hb, h1, D', h2, _, h4⟩ := due_mem (pl.mem_iff.mp hil)
    exact ⟨b, hb, h1, D', h2, fun c hc => (h4 c hc).elim (fun z => by cases z) id⟩
  have ba : ∀ il ∈ ls, il.2.Pairwise (· < ·) := fun il hil => by
    obtain ⟨b, _, _, D', e, _⟩ := at_ il hil
    rw [e]
    exact both_asc ..
  refine ⟨⟨by rw [hf]; exact asc, fun il hil => lt _ (by rw [← hf]; exact List.mem_map.mpr ⟨il, hil, rfl⟩), fun il hil => ?_, fun il hil => ?_, fun il hil c hc => ?_, fun a ha b hb hab c hc => ?_⟩, hf⟩
  · obtain ⟨b, hb, h1, D', e, _⟩ := at_ il hil
    rw [e]
    exact both_mem.mpr ⟨lt _ (by rw [← hf]; exact List.mem_map.mpr ⟨il, hil, rfl⟩), .inr h1⟩
  · obtain ⟨b, hb, h1, D', e, _⟩ := at_ il hil
    rw [e]
    exact order_self (both_asc ..) fun c hc => (both_mem.mp hc).1
  · obtain ⟨b, hb, h1, D', e, h4⟩ := at_ il hil
    rw [e] at hc
    rw [hf]
    refine pb.mem_iff.mp ?_
    rcases (both_mem.mp hc).2 with z | z
    · exact h4 c z
    · exact List.mem_flatten.mpr ⟨b, hb, z⟩
  · rcases due_chain (pl.mem_iff.mp ha) (pl.mem_iff.mp hb) with z | z
    · exact z c hc
    · rw [(asc_sub (ba a ha) (ba b hb) z).eq_of_length_le hab]
      exact hc
end K9
namespace K9
open PySem L2 Er K7M
/-- one step of a plain reading -/
local macro_rules | `(tactic| walk_at "step") => `(tactic| first
  | with_reducible refine r_seq ?_ | with_reducible refine r_nx ?_ | with_reducible refine r_asgN ?_ | with_reducible refine r_asgS ?_ | with_reducible refine r_asgT ?_ | with_reducible refine r_ifS ?_
  | with_reducible refine r_ret ?_ | with_reducible refine r_retN ?_ | with_reducible refine r_drop ?_ | with_reducible refine r_test ?_ | with_reducible refine r_B ?_ | with_reducible refine r_not ?_
  | with_reducible refine r_and ?_ | with_reducible refine r_or ?_ | with_reducible refine r_andV ?_ | with_reducible refine r_orV ?_ | with_reducible refine r_notV ?_
  | ((with_reducible refine' r_var ?e ?_); (case e => exact rfl)) | with_reducible refine r_c ?_ | with_reducible refine r_op ?_ | with_reducible refine r_un ?_
  | with_reducible refine r_I0 ?_ | with_reducible refine r_eqI ?_ | with_reducible refine r_neI ?_ | with_reducible refine r_bl ?_ | with_reducible refine r_nil ?_ | with_reducible refine r_cons ?_
  | with_reducible refine r_cb ?_ | with_reducible refine r_call ?_ | with_reducible refine r_tup ?_ | with_reducible refine r_lst ?_ | with_reducible refine r_fld ?_ | with_reducible refine r_bm ?_ | with_reducible refine r_bm0 ?_
  | with_reducible refine r_for ?_ | with_reducible refine r_rng ?_ | with_reducible refine r_rng2 ?_ | with_reducible refine r_lstI ?_ | with_reducible refine r_tupI ?_ | with_reducible refine r_lc ?_
  | with_reducible refine r_augS ?_ | with_reducible refine r_ipI ?_
  | with_reducible refine r_meth ?_ | with_reducible refine r_prop ?_ | with_reducible refine r_make ?_ | with_reducible refine r_din ?_ | with_reducible refine r_dnin ?_ | with_reducible refine r_dput ?_ | with_reducible refine r_dget ?_
  | with_reducible refine r_gN ?_ | with_reducible refine r_tsl ?_ | with_reducible refine r_noP ?_ | with_reducible refine r_part ?_ | with_reducible refine r_pI ?_ | with_reducible refine r_tif ?_ | with_reducible refine r_SL ?_ | with_reducible refine r_gC ?_ | with_reducible refine r_U ?_ | with_reducible refine r_sfld ?_ | with_reducible refine r_dnew ?_ | with_reducible refine r_keys ?_
  | with_reducible refine r_mkE ?_ | with_reducible refine iteT ?_ | with_reducible refine iteF ?_
  | with_reducible refine r_int ?_ | with_reducible refine r_min2 ?_ | with_reducible refine r_isN ?_ | with_reducible refine r_notN ?_)
/-- as far as it goes by itself -/
local macro_rules | `(tactic| walk_at "go") => `(tactic| ((repeat walk_at "step"); (try dsimp only)))

abbrev unNP (t : NP) : Nat × List Nat := (t.c, t.l)
theorem np_of {H : Hp} : ∀ {ys : List V} {ls : List (Nat × List Nat)}, PairsAt H ys ls → ∃ ts : List NP, refsN ts = ys ∧ ts.map unNP = ls ∧ ∀ t ∈ ts, PairAt H (.ref t.p) (unNP t)
  | [], [], _ => ⟨[], rfl, rfl, fun t h => by cases h⟩
  | [], _ :: _, h => by cases h.1
  | _ :: _, [], h => by cases h.1
  | y :: ys, (c, l) :: ls, h => by
    obtain ⟨p, r, rfl, a1, a2⟩ := h.2 0 y (c, l) rfl rfl
    obtain ⟨ts, e1, e2, h3⟩ := np_of (ys := ys) (ls := ls) ⟨Nat.succ.inj h.1, fun i y' il h1 h2 => h.2 (i + 1) y' il h1 h2⟩
    refine ⟨⟨p, c, l⟩ :: ts, by unfold refsN at e1 ⊢; rw [List.map_cons, e1], by rw [List.map_cons, e2], fun t ht => ?_⟩
    rcases List.mem_cons.mp ht with rfl | ht
    · exact ⟨p, r, rfl, a1, a2⟩
    · exact h3 t ht
theorem np_dp {K : PySem.W.Frag} {H : Hp} {t : NP} (h : PairAt H (.ref t.p) (unNP t)) : Dp K H (.ref t.p) t.enc := by
  obtain ⟨p, r, e, h1, h2⟩ := h
  cases e
  exact .tup (SqT.of h1) (.cons (.int _) (.cons (dp_tupN (SqT.of h2)) .nil))
theorem np_pairs {H : Hp} : ∀ {ts : List NP}, (∀ t ∈ ts, PairAt H (.ref t.p) (unNP t)) → PairsAt H (refsN ts) (ts.map unNP) := fun {ts} h => by
  refine ⟨by unfold refsN; rw [List.length_map, List.length_map], fun i y il h1 h2 => ?_⟩
  unfold refsN at h1
  rw [List.getElem?_map] at h1 h2
  cases e : ts[i]? with
  | none => rw [e] at h1; cases h1
  | some t =>
    rw [e] at h1 h2
    cases h1
    cases h2
    exact h t (List.mem_of_getElem? e)
theorem LBlk.but {H H' : Hp} {p a : Addr} {bs : List (List Nat)} {zs : List V} (h : LBlk H p bs) (s : SameBut a H H') (ha : H a = some (.lst zs)) (n : p ≠ a) : LBlk H' p bs := by
  obtain ⟨ys, h1, h2⟩ := h
  exact ⟨ys, s _ _ n h1, h2.but ha fun b u nb z => s b u nb z⟩
theorem RowsLst.but {H H' : Hp} {p a : Addr} {LS : List (List (Nat × List Nat))} {zs : List V} (h : RowsLst H p LS) (s : SameBut a H H') (ha : H a = some (.lst zs)) (n : p ≠ a) : RowsLst H' p LS := by
  obtain ⟨ts, h1, h2, h3⟩ := h
  exact ⟨ts, s _ _ n h1, h2, fun t ht => (h3 t ht).but s ha⟩
theorem RowsLst.dp {K : PySem.W.Frag} {H : Hp} {p : Addr} {LS : List (List (Nat × List Nat))} (h : RowsLst H p LS) : Dp K H (.ref p) (.list (LS.map rowD)) := by
  obtain ⟨ts, h1, rfl, h3⟩ := h
  rw [List.map_map]
  refine .lst (SqL.of h1) (dpAll_of (rowD ∘ fun t : Addr × List (Nat × List Nat) => t.2) (by rw [List.length_map]) fun i y t e1 e2 => ?_)
  rw [List.getElem?_map, e2] at e1
  rw [← Option.some.inj e1]
  exact dp_pairs (h3 t (List.mem_of_getElem? e2))
theorem okd_rowsL (LS : List (List (Nat × List Nat))) : Okd 4 (.list (LS.map rowD)) := okd_lst fun d hd => by
  obtain ⟨ls, _, rfl⟩ := List.mem_map.mp hd
  exact okd_pairs ls
theorem RowsP.lst {H : Hp} {out : List V} {LS : List (List (Nat × List Nat))} {p : Addr} (h : RowsP H out LS) (hp : H p = none) : RowsLst (upd H p (.lst out)) p LS := by
  obtain ⟨ts, rfl, h2, h3⟩ := h
  exact ⟨ts, upd_same, h2, fun t ht => (h3 t ht).keep (same_new hp)⟩
theorem small_len {ws : List Nat} {bs : List (List Nat)} (h : bs.flatten.Perm ws) (ne : ∀ b ∈ bs, b ≠ []) : bs.length ≤ ws.length := by
  rw [← h.length_eq]
  clear h
  induction bs with
  | nil => exact Nat.zero_le _
  | cons b bs ih =>
    rw [List.flatten_cons, List.length_append, List.length_cons]
    have h1 := ih fun x hx => ne x (List.mem_cons_of_mem _ hx)
    have h2 := List.length_pos_iff.mpr (ne b (List.mem_cons_self ..))
    omega
def spWait : Sp := fun vs H Q _ => ∃ (a : Addr) (ns : List Int), vs = [.ref a] ∧ H a = some (.lst (ns.map V.int)) ∧ ns.length ≤ 100000 ∧
  ∀ (ns' : List Int) H', ns'.length ≤ ns.length → H' a = some (.lst (ns'.map V.int)) → SameBut a H H' → Q (.bl true) H'
section
variable {P : Program} {w : World} {K : PySem.W.Frag} {mg : Str → Option Value} {base : Heap} {CN CR CM : Addr}
theorem scWait : FnScope ["_law_found", "_law_size", "_law_names_here", "_law_handed", "_law_due", "_law_told", "_law_power", "_law_turn", "_law_row", "_law_blocks_here", "_law_pairs", "_law_seen", "_law_block", "_law_name"] ["_law_found"] (defScope sLWait) := ⟨rfl, rfl, rfl, by decide +kernel, rfl, by decide +kernel, by decide +kernel⟩
theorem ok_wait {f : Addr} {fd : FuncData} (F : Fun K "_law_waiting" "_law_waiting" sLWait f fd) (m_len : mg "len" = none) (m_tuple : mg "tuple" = none) (m_list : mg "list" = none) (m_range : mg "range" = none) (m_sorted : mg "sorted" = none)
    (D_take : Fok P w K mg base 1 "_law_take" ["_law_found", "_law_many"] spTake) (D_names : Fok P w K mg base 2 "_law_names" ["_law_found", "_law_size"] spNames) (D_due : Fok P w K mg base 2 "_law_waiting_due" ["_law_names_here"] (spDue K))
    (D_wr : Gok P w K mg base 5 "waiting_rounds" ["names"] (spWR K CN CM)) (D_isround : Fok P w K mg base 6 "is_round" ["thing"] (spRound K))
    (D_looks : Fok P w K mg base 2 "_law_looks" ["_law_found", "_law_names_here"] spLooks) (D_lblocks : Fok P w K mg base 2 "_law_blocks" ["_law_found", "_law_names_here"] (spLBlk K)) (D_sched : Fok P w K mg base 7 "look_schedule" ["row"] (spSched K CR))
    (D_run : Fok P w K mg base 3 "look_run" ["schedule"] (spLRun K CN)) (D_waits : Fok P w K mg base 7 "waits" ["row"] (spWaits K CR)) :
    FnOk P w K mg base (L2.CX P w) 9 f fd ["_law_found"] spWait := by
  refine F.okX scWait (fun vs H Q E h => ?_) (fun cdv A outer s H vs Q E hr h => ?_)
  · obtain ⟨a, ns, rfl, _⟩ := h
    rfl
  obtain ⟨a, ns, rfl, ha, hl, k⟩ := h
  have sc := scWait
  refine ⟨_, (pss_cons (ps_set (i := 1) sc.nd rfl (Or.inl rfl) (pe_op op_add pe_int (pe_f D_take (hr.mono (by decide)) (pa_cons (pv 0) (pa_cons pe_int pa_nil)))))
      (Evl.pss_cut (ps_if (PW.pt (pw_and (pt_cmpR op_eq (pv 1) pe_int (nomark _)) (pw_and1 (pt_cmpR op_eq (pe_f D_take (hr.mono (by decide)) (pa_cons (pv 0) (pa_cons pe_int pa_nil))) pe_int (nomark _))))) (pss_one (ps_set (i := 1) sc.nd rfl (Or.inl rfl) pe_int)) pss_nil)
      (pss_cons (ps_set (i := 2) sc.nd rfl (Or.inl rfl) (pe_f D_names (hr.mono (by decide)) (pa_cons (pv 0) (pa_cons (pv 1) pa_nil))))
      (pss_cons (ps_set (i := 3) sc.nd rfl (Or.inl rfl) (pe_callTy (listOK K) (by rfl) m_list (by decide +kernel) (pa_cons (pv 2) pa_nil)))
      (Evl.pss_cut (ps_if (pt_cmpR op_eq (pe_f D_take (hr.mono (by decide)) (pa_cons (pv 0) (pa_cons pe_int pa_nil))) pe_int (nomark _)) (pss_one (ps_expr (pe_bm0 PySem.F.plainAttrs_list PySem.F.slot_list_reverse PySem.F.type_list_reverse mt_reverse (pv 3)))) pss_nil)
      (pss_cons (ps_set (i := 4) sc.nd rfl (Or.inl rfl) (pe_f D_due (hr.mono (by decide)) (pa_cons (pv 2) pa_nil)))
      (pss_cons (ps_set (i := 5) sc.nd rfl (Or.inl rfl) (pe_lg D_wr (hr.mono (by decide)) (pa_cons (pv 3) pa_nil) m_list))
      (pss_cons (ps_set (i := 6) sc.nd rfl (Or.inl rfl) pe_int)
      (pss_cons (ps_for (passes_of rfl) rfl (pi_range1 (by rfl) m_range (pa_cons (pe_op op_sub (pv 1) pe_int) pa_nil)) (pg_name (i := 7) sc.nd rfl (Or.inl rfl)) (pss_one (ps_set (i := 6) sc.nd rfl (Or.inl rfl) (pe_op op_mul (pv 6) pe_int))))
      (pss_cons (ps_if (PW.pt (pw_or (pt_cmpR (op_neD hr.units) (pv 5) (pv 4) (nomark _)) (pw_or1 (pt_cmpR op_ne (pe_callB (lenK K) (by rfl) m_len PySem.boot_len (pa_cons (pv 5) pa_nil)) (pe_op op_add pe_int (pe_op op_mul (pv 1) (pe_op op_sub (pv 6) pe_int))) (nomark _))))) (pss_one (ps_ret pe_bl)) pss_nil)
      (pss_cons (ps_for (passes_of rfl) rfl (pi_list (pv 5)) (pg_name (i := 8) sc.nd rfl (Or.inl rfl)) (pss_one (ps_if (PW.pt (pw_or (pt_cmpR notBl (pe_f D_waits (hr.mono (by decide)) (pa_cons (pv 8) pa_nil)) pe_bl (nomark _)) (pw_or1 (pt_cmpR notBl (pe_f D_isround (hr.mono (by decide)) (pa_cons (pv 8) pa_nil)) pe_bl (nomark _))))) (pss_one (ps_ret pe_bl)) pss_nil)))
      (pss_cons (ps_set (i := 8) sc.nd rfl (Or.inl rfl) (pe_f D_looks (hr.mono (by decide)) (pa_cons (pv 0) (pa_cons (pv 2) pa_nil))))
      (pss_cons (ps_if (pt_cmpR op_ne (pe_f D_waits (hr.mono (by decide)) (pa_cons (pv 8) pa_nil)) (pe_cmpR (op_inD (hu65_of hr)) (pv 8) (pv 5) (by with_unfolding_all rfl)) (by with_unfolding_all rfl)) (pss_one (ps_ret pe_bl)) pss_nil)
      (pss_cons (ps_set (i := 9) sc.nd rfl (Or.inl rfl) (pe_f D_lblocks (hr.mono (by decide)) (pa_cons (pv 0) (pa_cons (pv 2) pa_nil))))
      (pss_cons (ps_set (i := 10) sc.nd rfl (Or.inl rfl) (pe_lst pa_nil))
      (pss_cons (ps_set (i := 11) sc.nd rfl (Or.inl rfl) (pe_lst pa_nil))
      (pss_cons (ps_for (passes_of rfl) rfl (pi_list (pv 9)) (pg_name (i := 12) sc.nd rfl (Or.inl rfl)) (pss_cons (ps_set (i := 11) sc.nd rfl (Or.inl rfl) (pe_op op_cat (pv 11) (pe_callTy (listOK K) (by rfl) m_list (by decide +kernel) (pa_cons (pv 12) pa_nil))))
      (pss_one (ps_for (passes_of rfl) rfl (pi_tup (pv 12)) (pg_name (i := 13) sc.nd rfl (Or.inl rfl)) (pss_one (ps_expr (pe_bm PySem.F.plainAttrs_list PySem.F.slot_list_append PySem.F.type_list_append mt_append (pv 10) (pa_cons (pe_tup (pa_cons (pv 13) (pa_cons (pe_callTy (tupOK K) (by rfl) m_tuple (by decide +kernel) (pa_cons (pe_callB cr_sorted (by rfl) m_sorted (by decide +kernel) (pa_cons (pv 11) pa_nil)) pa_nil)) pa_nil))) pa_nil))))))))
      (pss_cons (ps_set (i := 8) sc.nd rfl (Or.inl rfl) (pe_callTy (tupOK K) (by rfl) m_tuple (by decide +kernel) (pa_cons (pe_callB (c_sortNP hr.units) (by rfl) m_sorted (by decide +kernel) (pa_cons (pv 10) pa_nil)) pa_nil)))
      (pss_one (ps_ret (pe_and (pe_cmpR op_eq (pe_f D_waits (hr.mono (by decide)) (pa_cons (pv 8) pa_nil)) (pe_cmpR (op_inD (hu65_of hr)) (pv 8) (pv 5) (by with_unfolding_all rfl)) (by with_unfolding_all rfl)) (pe_one (pe_cmpR (op_eqD hr.units) (pe_f D_run (hr.mono (by decide)) (pa_cons (pe_f D_sched (hr.mono (by decide)) (pa_cons (pv 8) pa_nil)) pa_nil)) (pe_tup (pa_cons (pe_callTy (tupOK K) (by rfl) m_tuple (by decide +kernel) (pa_cons (pv 2) pa_nil)) (pa_cons (pv 8) pa_nil))) (nomark _)))))))))))))))))))))))), ?_⟩
  walk_at "go"
  refine ⟨a, ns, 3, rfl, ha, by omega, by decide, fun r1 ns1 H1 r0 r3 l1 h1 s1 => ?_⟩
  walk_at "go"
  refine r_cut (Mid := fun σ H' => ∃ (z : Int) (ns' : List Int), σ = [some (.ref a), some (.int z), none, none, none, none, none, none, none, none, none, none, none, none] ∧ 2 ≤ z ∧ z ≤ 5 ∧ H' a = some (.lst (ns'.map V.int)) ∧ ns'.length ≤ ns.length ∧ SameBut a H H') ?_ ?_
  · walk_at "go"
    refine iteB (fun e => ?_) fun e => ?_
    · walk_at "go"
      refine ⟨a, ns1, 6, rfl, h1, by omega, by decide, fun r2 ns2 H2 a2 b2 l2 h2 s2 => ?_⟩
      walk_at "go"
      refine iteB (fun e => ?_) fun e => ?_
      · walk_at "go"
        exact ⟨_, ns2, rfl, by omega, by omega, h2, by omega, s1.trans s2⟩
      · walk_at "go"
        exact ⟨_, ns2, rfl, by omega, by omega, h2, by omega, s1.trans s2⟩
    · walk_at "go"
      exact ⟨_, ns1, rfl, by omega, by omega, h1, by omega, s1⟩
  clear h1 s1
  rintro σ H1 ⟨z, ns1, rfl, z2, z5, h1, l1, s1⟩
  obtain ⟨m, rfl⟩ : ∃ n : Nat, z = (n : Int) := ⟨z.toNat, by omega⟩
  walk_at "go"
  refine ⟨a, ns1, m, rfl, h1, by omega, by omega, by omega, fun p ws ns2 H2 lw asc lt l2 h2 s2 hp1 hp2 => ?_⟩
  have pa : p ≠ a := fun z => by rw [z, h1] at hp1; cases hp1
  have nd : ws.Nodup := asc.imp fun h => Nat.ne_of_lt h
  have s02 := s1.trans s2
  walk_at "go"
  refine r_listO (.inl (SqL.of hp2)) fun hd hhd => ?_
  have hda : hd ≠ a := fun z => by rw [z, h2] at hhd; cases hhd
  have hdp : hd ≠ p := fun z => by rw [z, hp2] at hhd; cases hhd
  have s3 := same_new (o := .lst (nV ws)) hhd
  have hp3 := s3 _ _ hp2
  have h3 := s3 _ _ h2
  have hh3 : (upd H2 hd (.lst (nV ws))) hd = some (.lst (nV ws)) := upd_same
  have hhd0 : H hd = none := s02.none_ hhd hda
  have s03 := s02.trans (SameBut.of s3)
  generalize upd H2 hd (.lst (nV ws)) = H3 at hp3 h3 hh3 s03 ⊢
  walk_at "go"
  refine r_cut (Mid := fun σ H' => ∃ (ns' : List Int) (hs : List Nat), σ = [some (.ref a), some (.int (m : Int)), some (.ref p), some (.ref hd), none, none, none, none, none, none, none, none, none, none] ∧ H' a = some (.lst (ns'.map V.int)) ∧ ns'.length ≤ ns.length ∧ SameBut a H H' ∧ H' p = some (.lst (nV ws)) ∧ H' hd = some (.lst (nV hs)) ∧ hs.Perm ws) ?_ ?_
  · walk_at "go"
    refine ⟨a, ns2, 2, rfl, h3, by omega, by decide, fun r ns4 H4 r0 r2 l4 h4 s4 => ?_⟩
    have hh4 := s4 _ _ hda hh3
    have hp4 := s4 _ _ pa hp3
    walk_at "go"
    refine iteB (fun e => ?_) fun e => ?_
    · walk_at "go"
      refine r_tyL (SqL.of hh4) ⟨hd, _, rfl, rfl, hh4, ?_⟩
      walk_at "go"
      refine ⟨ns4, ws.reverse, rfl, by rw [upd_ne (Ne.symm hda)]; exact h4, by omega, (s03.trans s4).mut hhd0, by rw [upd_ne (Ne.symm hdp)]; exact hp4, by rw [upd_same]; unfold nV; rw [List.map_reverse], List.reverse_perm ws⟩
    · walk_at "go"
      exact ⟨ns4, ws, rfl, h4, by omega, s03.trans s4, hp4, hh4, .refl _⟩
  clear h1 s1 h2 s2 hp1 hp2 s02 hhd s3 hp3 h3 hh3 s03
  rintro σ H4 ⟨ns4, hs, rfl, h4, l4, s4, hp4, hh4, pmh⟩
  have eh : inOrder 60 hs = ws := asc_unique (order_lt 60 hs) asc fun c => by
    rw [order_mem, pmh.mem_iff]
    exact ⟨fun z => z.2, fun z => ⟨lt c z, z⟩⟩
  walk_at "go"
  refine ⟨p, ws, rfl, SqL.of hp4, nd, by omega, by omega, fun pd H5 s5 hd5 => ?_⟩
  walk_at "go"
  refine r_lg (r_cg ?_)
  walk_at "go"
  refine ⟨.ref hd, rfl, .inr (.inr ⟨hd, hs, 60, rfl, SqL.of (s5 _ _ hh4), pmh.nodup_iff.mpr nd, by rw [pmh.length_eq]; omega, by rw [pmh.length_eq]; omega, fun c hc => lt c (pmh.mem_iff.mp hc), fun out H6 s6 hR => ?_⟩)⟩
  rw [eh] at hR
  intro pt hpt
  have hT7 := hR.lst hpt
  have s7 := same_new (o := .lst out) hpt
  have h4a : ∀ {H' : Hp}, Same H4 H' → H' a = some (.lst (ns4.map V.int)) := fun s => s _ _ h4
  have pta : pt ≠ a := fun z => by rw [z, (s5.trans s6) _ _ h4] at hpt; cases hpt
  generalize upd H6 pt (.lst out) = H7 at hT7 s7 ⊢
  have s47 := (s5.trans s6).trans s7
  have hd7 := hd5.keep (s6.trans s7)
  clear hR hpt s5 s6 s7 hd5
  walk_at "go"
  refine r_rngK (m - 1) (by omega) (by omega) ?_
  refine r_forR (n := m - 1) (fun i σ H' => ∃ v7, σ = [some (.ref a), some (.int (m : Int)), some (.ref p), some (.ref hd), some (.ref pd), some (.ref pt), some (.int ((2 ^ i : Nat) : Int)), v7, none, none, none, none, none, none] ∧ H7 = H') ⟨none, rfl, rfl⟩ ?_ ?_
  · rintro i σ H' hi ⟨v7, rfl, rfl⟩
    walk_at "go"
    refine ⟨_, _, rfl, rfl, .inr ⟨by decide, by decide⟩, ?_⟩
    try walk_at "go"
    have e : ((2 ^ i : Nat) : Int) * 2 = ((2 ^ (i + 1) : Nat) : Int) := by
      rw [Nat.pow_succ, Int.natCast_mul]
      rfl
    rw [e]
    exact ⟨_, rfl, rfl⟩
  rintro σ H' ⟨v7, rfl, rfl⟩
  walk_at "go"
  refine r_neSame hT7.dp hd7.dp (okd_rowsL _) (by decide) ?_
  walk_at "go"
  obtain ⟨ts, t1, t2, t3⟩ := id hT7
  have lts : ts.length = 1 + m * (2 ^ (m - 1) - 1) := by
    have e := congrArg List.length t2
    rw [List.length_map] at e
    rw [e]
    unfold WR
    rw [List.length_mergeSort, rowsF_len nd, lw]
  refine r_lenL (SqL.of t1) ?_
  rw [List.length_map, lts]
  walk_at "go"
  refine ⟨_, _, rfl, rfl, .inl ⟨by omega, by omega⟩, ?_⟩
  walk_at "go"
  have hpow : 1 ≤ 2 ^ (m - 1) := Nat.one_le_two_pow
  have elen : ((1 + m * (2 ^ (m - 1) - 1) : Nat) : Int) = 1 + (m : Int) * (((2 ^ (m - 1) : Nat) : Int) - 1) := by
    rw [Int.natCast_add, Int.natCast_mul, Int.ofNat_sub hpow]
    rfl
  rw [elen]
  refine ite_no (by rw [decide_eq_true rfl]; rfl) ?_
  walk_at "go"
  refine r_lstK (SqL.of t1) ?_
  have wne : ws ≠ [] := fun z => by rw [z] at lw; simp at lw; omega
  refine r_forL (xs := ts.map rwV) (fun i σ H' => ∃ v8, σ = [some (.ref a), some (.int (m : Int)), some (.ref p), some (.ref hd), some (.ref pd), some (.ref pt), some (.int ((2 ^ (m - 1) : Nat) : Int)), v7, v8, none, none, none, none, none] ∧ Same H7 H') ⟨none, rfl, Same.refl _⟩ (fun i σ H' hi q => SqL.of (q.choose_spec.2 _ _ t1)) ?_ ?_
  · rintro i y σ H8 hy ⟨v8, rfl, s8⟩
    rw [List.getElem?_map] at hy
    cases ej : ts[i]? with
    | none => rw [ej] at hy; cases hy
    | some t0 =>
    rw [ej] at hy
    cases hy
    have hm := List.mem_of_getElem? ej
    have hin0 : t0.2 ∈ WR ws := by rw [← t2]; exact List.mem_map.mpr ⟨t0, hm, rfl⟩
    have hin : t0.2 ∈ rowsF ws := (List.mergeSort_perm _ _).mem_iff.mp hin0
    obtain ⟨R0, W0, f0⟩ := rows_waits asc lt hin
    have ne0 : t0.2 ≠ [] := fun z => wne (by rw [← f0, z]; rfl)
    have hgood : ∀ H', Same H7 H' → ∃ rs : List RP, GoodRd K H' t0.1 rs ∧ rs.map RP.k = t0.2 := fun H' s => ((t3 t0 hm).keep s).good R0 (by decide) ne0
    walk_at "go"
    obtain ⟨rs, hg, ers⟩ := hgood H8 s8
    refine ⟨.ref t0.1, rfl, .inr ⟨t0.1, rs, rfl, hg, fun H9 s9 => ?_⟩⟩
    rw [ers, W0]
    walk_at "go"
    refine ⟨true, true, rfl, rfl, ?_⟩
    walk_at "go"
    refine ite_no (by rfl) ?_
    walk_at "go"
    obtain ⟨rs2, hg2, _⟩ := hgood H9 (s8.trans s9)
    refine good_round hg2 fun H10 s10 => ?_
    walk_at "go"
    refine ⟨true, true, rfl, rfl, ?_⟩
    walk_at "go"
    refine ite_no (by rfl) ?_
    walk_at "go"
    exact ⟨_, rfl, s8.trans (s9.trans s10)⟩
  rintro σ H8 ⟨v8, rfl, s8⟩
  have hT8 := hT7.keep s8
  have h8 := h4a (s47.trans s8)
  have hp8 := (s47.trans s8) _ _ hp4
  have s08 := s4.trans (SameBut.of (s47.trans s8))
  clear hT7 hd7 t1 t2 t3
  walk_at "go"
  refine ⟨a, p, ns4, ws, rfl, h8, by omega, hp8, pa, asc, lt, by omega, by omega, fun tr ls ns9 H9 R els l9 h9 s9 htr => ?_⟩
  have lne : ls ≠ [] := fun z => wne (by rw [← els, z]; rfl)
  have hT9 := hT8.but s9 h8 pta
  have hp9 := s9 _ _ pa hp8
  walk_at "go"
  obtain ⟨rs, hg, ers⟩ := htr.good (K := K) R (by decide) lne
  refine ⟨.ref tr, rfl, .inr ⟨tr, rs, rfl, hg, fun H10 s10 => ?_⟩⟩
  rw [ers]
  walk_at "go"
  refine ⟨rowD ls, (WR ws).map rowD, dp_pairs (htr.keep s10), (hT9.keep s10).dp, (okd_pairs ls).sh (by decide), (okd_rowsL _).sh (by decide), ?_⟩
  rw [any_rows asc lt R els]
  walk_at "go"
  refine ⟨rfl, ?_⟩
  walk_at "go"
  refine ite_no (by simp) ?_
  have h10 := s10 _ _ h9
  have hT10 := hT9.keep s10
  have hp10 := s10 _ _ hp9
  have s0a := (s08.trans s9).trans (SameBut.of s10)
  clear hT8 hT9 hp8 hp9 h8 h9 htr hg ers
  walk_at "go"
  refine ⟨a, p, ns9, ws, rfl, h10, by omega, hp10, pa, by omega, by omega, fun pb bs ns11 H11 bne bperm bsub l11 h11 s11 hpb0 hB => ?_⟩
  have pba : pb ≠ a := fun z => by rw [z, h10] at hpb0; cases hpb0
  have hT11 := hT10.but s11 h10 pta
  have hp11 := s11 _ _ pa hp10
  have s0b := s0a.trans s11
  obtain ⟨xs, hxs, hI⟩ := hB
  have hf6 : bs.flatten.length ≤ 6 := by rw [bperm.length_eq]; omega
  have hTn : bs.flatten.Nodup := bperm.nodup_iff.mpr nd
  have hn6 : bs.length ≤ 6 := Nat.le_trans (small_len bperm bne) (by omega)
  walk_at "go"
  refine ⟨by show 0 ≤ sizeLine; decide, fun D hD => ?_⟩
  have sD := same_new (o := .lst []) hD
  walk_at "go"
  refine ⟨by show 0 ≤ sizeLine; decide, fun p1 hp1 => ?_⟩
  have s12 := sD.trans (same_new (o := .lst []) hp1)
  have hq1 : (upd (upd H11 D (.lst [])) p1 (.lst [])) p1 = some (.lst (nV [])) := upd_same
  have hq2 : (upd (upd H11 D (.lst [])) p1 (.lst [])) D = some (.lst []) := (same_new hp1) _ _ upd_same
  generalize upd (upd H11 D (.lst [])) p1 (.lst []) = H12 at s12 hq1 hq2 ⊢
  walk_at "go"
  refine r_lstK (SqL.of (s12 _ _ hxs)) ?_
  refine r_forL (xs := xs) (fun i σ H' => ∃ q1 v12 v13 ys, σ = [some (.ref a), some (.int (m : Int)), some (.ref p), some (.ref hd), some (.ref pd), some (.ref pt), some (.int ((2 ^ (m - 1) : Nat) : Int)), v7, some (.ref tr), some (.ref pb), some (.ref D), some (.ref q1), v12, v13] ∧ Same H11 H' ∧ H' q1 = some (.lst (nV (bs.take i).flatten)) ∧ H' D = some (.lst ys) ∧ PairsAt H' ys (dueOf 60 [] (bs.take i)))
    ⟨p1, none, none, [], rfl, s12, hq1, hq2, rfl, fun i y il hy => by simp at hy⟩ (fun i σ H' hi q => SqL.of (q.choose_spec.choose_spec.choose_spec.choose_spec.2.1 _ _ hxs)) ?_ ?_
  · rintro i x σ H13 hx ⟨q1, v12, v13, ys, rfl, s13, hq1, hD13, hP⟩
    have hib : i < bs.length := by rw [← hI.1]; exact (List.getElem?_eq_some_iff.mp hx).1
    obtain ⟨b, hbi⟩ : ∃ b, bs[i]? = some b := ⟨bs[i], List.getElem?_eq_getElem hib⟩
    obtain ⟨r, rfl, hr0⟩ := hI.2 i x b hx hbi
    have etk : bs.take (i + 1) = bs.take i ++ [b] := by rw [List.take_add_one, hbi]; rfl
    have hfl2 : (bs.take (i + 1)).flatten = (bs.take i).flatten ++ b := by rw [etk, List.flatten_append]; simp
    have hsub := take_flat bs (i + 1)
    have hle := hsub.length_le
    have hnd1 := hsub.nodup hTn
    have hlt1 : ∀ c ∈ (bs.take (i + 1)).flatten, c < 60 := fun c hc => lt c (bperm.mem_iff.mp (hsub.subset hc))
    have hdue : dueOf 60 [] (bs.take (i + 1)) = dueOf 60 [] (bs.take i) ++ b.map fun c => (c, both 60 (bs.take i).flatten b) := by rw [etk, due_snoc, List.nil_append]
    rw [hfl2] at hle hnd1 hlt1
    have hle2 := hle
    rw [List.length_append] at hle2
    walk_at "go"
    refine r_listO (.inr (SqT.of (s13 _ _ hr0))) fun lb hlb => ?_
    walk_at "go"
    refine r_catL ((same_new hlb) _ _ hq1) upd_same (by rw [nV_len, nV_len]; omega) fun q2 hq2 => ?_
    rw [← nV_append]
    have hq2' := none_of_upd hq2
    have q2D : q2 ≠ D := fun z => by rw [z, hD13] at hq2'; cases hq2'
    have s14 := (same_new (o := .lst (nV b)) hlb).trans (same_new (o := .lst (nV ((bs.take i).flatten ++ b))) hq2)
    have hD14 := s14 _ _ hD13
    have hP14 := hP.keep s14
    have hq14 : (upd (upd H13 lb (.lst (nV b))) q2 (.lst (nV ((bs.take i).flatten ++ b)))) q2 = some (.lst (nV ((bs.take i).flatten ++ b))) := upd_same
    have s04 := s13.trans s14
    generalize upd (upd H13 lb (.lst (nV b))) q2 (.lst (nV ((bs.take i).flatten ++ b))) = H14 at hD14 hP14 hq14 s04 ⊢
    clear s14
    walk_at "go"
    refine r_tupK (SqT.of (s04 _ _ hr0)) ?_
    have lenD : ∀ j, (dueOf 60 [] (bs.take j)).length ≤ 6 := fun j => by
      have e := congrArg List.length (due_fst 60 (bs.take j) [])
      rw [List.length_map] at e
      rw [e]
      have := (take_flat bs j).length_le
      omega
    refine r_forT (xs := nV b) (fun j σ H' => ∃ v13 ys, σ = [some (.ref a), some (.int (m : Int)), some (.ref p), some (.ref hd), some (.ref pd), some (.ref pt), some (.int ((2 ^ (m - 1) : Nat) : Int)), v7, some (.ref tr), some (.ref pb), some (.ref D), some (.ref q2), some (.ref r), v13] ∧ Same H11 H' ∧ H' q2 = some (.lst (nV ((bs.take i).flatten ++ b))) ∧ H' D = some (.lst ys) ∧ PairsAt H' ys (dueOf 60 [] (bs.take i) ++ (b.take j).map fun c => (c, both 60 (bs.take i).flatten b)))
      ⟨v13, ys, rfl, s04, hq14, hD14, by simpa using hP14⟩ (fun j σ H' hm q => SqT.of (q.choose_spec.choose_spec.2.1 _ _ hr0)) ?_ ?_
    · rintro j y σ H15 hy ⟨v13, ys, rfl, s15, hq5, hD15, hP15⟩
      obtain ⟨c, hc, rfl⟩ := nV_at hy
      have hmb : j < b.length := (List.getElem?_eq_some_iff.mp hc).1
      have et2 : b.take (j + 1) = b.take j ++ [c] := by rw [List.take_add_one, hc]; rfl
      walk_at "go"
      refine r_tyL (SqL.of hD15) ?_
      walk_at "go"
      have pm := perm_inOrder hnd1 hlt1
      rw [ints_nV] at hq5
      refine r_sorted (ks := ((bs.take i).flatten ++ b).map fun (i : Nat) => (i : Int)) (ss := (inOrder 60 ((bs.take i).flatten ++ b)).map fun (i : Nat) => (i : Int)) (SqL.of hq5) ?_ (pm.map _) (range_up _ _) fun p5 hp5 => ?_
      · rw [List.length_map, List.length_append]
        omega
      rw [← ints_nV] at hq5 ⊢
      walk_at "go"
      refine r_tupL (SqL.of upd_same) fun t6 ht6 => ?_
      walk_at "go"
      refine ⟨by show 2 ≤ sizeLine; decide, fun t7 ht7 => ?_⟩
      walk_at "go"
      have s6 := (same_new (o := .lst (nV (inOrder 60 ((bs.take i).flatten ++ b)))) hp5).trans (same_new (o := .tup (nV (inOrder 60 ((bs.take i).flatten ++ b)))) ht6)
      have s7 := s6.trans (same_new (o := .tup [.int (c : Int), .ref t6]) ht7)
      have hy7 : PairAt (upd (upd (upd H15 p5 (.lst (nV (inOrder 60 ((bs.take i).flatten ++ b))))) t6 (.tup (nV (inOrder 60 ((bs.take i).flatten ++ b))))) t7 (.tup [.int (c : Int), .ref t6])) (.ref t7) (c, both 60 (bs.take i).flatten b) :=
        ⟨t7, t6, rfl, upd_same, by rw [both_order]; exact (same_new ht7) _ _ upd_same⟩
      have hD7 := s7 _ _ hD15
      have hq7 := s7 _ _ hq5
      have hP7 := (hP15.keep s7).snoc hy7
      have s57 := s15.trans s7
      generalize upd (upd (upd H15 p5 _) t6 _) t7 _ = H16 at hy7 hD7 hq7 hP7 s57 ⊢
      have hyl : ys.length ≤ 12 := by
        rw [hP15.1, List.length_append, List.length_map, List.length_take]
        have := lenD i
        omega
      refine r_app hD7 (Nat.lt_of_le_of_lt (m := 12) hyl (by decide)) ?_
      refine ⟨_, ys ++ [.ref t7], rfl, Same.upd2 s57 hD, ?_, upd_same, ?_⟩
      · rw [upd_ne (fun z => q2D z)]
        exact hq7
      · rw [et2, List.map_append, ← List.append_assoc]
        exact hP7.but hD7 fun b u nb z => by rw [upd_ne nb]; exact z
    · rintro σ H15 ⟨v13, ys, rfl, s15, hq5, hD15, hP15⟩
      rw [nV_len, List.take_length] at hP15
      exact ⟨q2, _, _, ys, rfl, s15, by rw [hfl2]; exact hq5, hD15, by rw [hdue]; exact hP15⟩
  rintro σ H13 ⟨q1, v12, v13, ys, rfl, s13, hq1', hD13, hP⟩
  rw [hI.1, List.take_length] at hP
  walk_at "go"
  obtain ⟨ts, rfl, ets, hts⟩ := np_of hP
  have hlen : ts.length ≤ 1000 := by
    have e := congrArg List.length ets
    have e2 := congrArg List.length (due_fst 60 bs [])
    rw [List.length_map] at e e2
    omega
  refine ⟨D, ts, rfl, SqL.of hD13, fun t ht => np_dp (hts t ht), hlen, fun q ts' pm up hq => ?_⟩
  walk_at "go"
  refine r_tupL (SqL.of upd_same) fun tq htq => ?_
  walk_at "go"
  have s14 := (same_new (o := .lst (refsN ts')) hq).trans (same_new (o := .tup (refsN ts')) htq)
  have hPT : PairsT (upd (upd H13 q (.lst (refsN ts'))) tq (.tup (refsN ts'))) tq (ts'.map unNP) := ⟨_, upd_same, np_pairs fun t' ht' => (hts t' (pm.mem_iff.mp ht')).keep s14⟩
  obtain ⟨R2, els2⟩ := due_rnd (ls := ts'.map unNP) asc lt bperm (by rw [← ets]; exact pm.map _) (List.pairwise_map.mpr up)
  generalize upd (upd H13 q (.lst (refsN ts'))) tq (.tup (refsN ts')) = H14 at s14 hPT ⊢
  generalize ts'.map unNP = l2s at hPT R2 els2
  have s24 := s13.trans s14
  have lne2 : l2s ≠ [] := fun z => wne (by rw [← els2, z]; rfl)
  obtain ⟨rs2, hg2, ers2⟩ := hPT.good (K := K) R2 (by decide) lne2
  refine ⟨.ref tq, rfl, .inr ⟨tq, rs2, rfl, hg2, fun H15 s15 => ?_⟩⟩
  rw [ers2]
  walk_at "go"
  refine ⟨rowD l2s, (WR ws).map rowD, dp_pairs (hPT.keep s15), (hT11.keep (s24.trans s15)).dp, (okd_pairs l2s).sh (by decide), (okd_rowsL _).sh (by decide), ?_⟩
  rw [any_rows asc lt R2 els2]
  walk_at "go"
  refine ⟨rfl, ?_⟩
  rw [show decide (V.bl (waitsB l2s) = V.bl (waitsB l2s)) = true from decide_eq_true rfl]
  walk_at "go"
  obtain ⟨u1, u2, u3, u4⟩ := sched_run R2
  rw [els2] at u1
  have lrs2 : rs2.length ≤ 10 ∧ ∀ t ∈ rs2, t.l.length ≤ 10 := by
    refine ⟨by have e := congrArg List.length (ers2.trans rfl); rw [List.length_map] at e; have e2 := congrArg List.length els2; rw [List.length_map] at e2; omega, fun t ht => ?_⟩
    have hm : t.k ∈ l2s := by rw [← ers2]; exact List.mem_map.mpr ⟨t, ht, rfl⟩
    have := (asc_sub asc (R2.lookAsc hm) fun c hc => by rw [← els2]; exact R2.sub _ hm c hc).length_le
    have e : t.k.2.length = t.l.length := rfl
    omega
  refine ⟨.ref tq, rfl, .inr ⟨tq, rs2, rfl, hg2.keep s15, lrs2.1, lrs2.2, fun t16 H16 s16 ht16 => ?_⟩⟩
  rw [ers2] at ht16
  walk_at "go"
  refine ⟨.ref t16, rfl, .inr ⟨t16, 60, schedOf l2s, rfl, SqX.T ht16, u3, by decide, fun t17 H17 s17 ht17 => ?_⟩⟩
  walk_at "go"
  have s27 := (s24.trans s15).trans (s16.trans s17)
  refine r_tupL (SqL.of (s27 _ _ hp11)) fun t18 ht18 => ?_
  walk_at "go"
  refine ⟨by show 2 ≤ sizeLine; decide, fun t19 ht19 => ?_⟩
  have s18 := (same_new (o := .tup (nV ws)) ht18).trans (same_new (o := .tup [.ref t18, .ref tq]) ht19)
  rw [u1, u2] at ht17
  try walk_at "go"
  refine r_eqSame (d := runD ws l2s) (dp_run (ht17.keep s18)) (.tup (SqT.of upd_same) (.cons (dp_tupN (SqT.of ((same_new ht19) _ _ upd_same))) (.cons (dp_pairs (hPT.keep ((s15.trans (s16.trans s17)).trans s18))) .nil))) (okd_run ws l2s) (by decide) ?_
  have sfin := s27.trans s18
  exact k ns11 _ (by omega) (sfin _ _ h11) (s0b.trans (SameBut.of sfin))
end
end K9
namespace K9
open PySem L2 Er K7M
/-- one step of a plain reading -/
local macro_rules | `(tactic| walk_at "step") => `(tactic| first
  | with_reducible refine r_seq ?_ | with_reducible refine r_nx ?_ | with_reducible refine r_asgN ?_ | with_reducible refine r_asgS ?_ | with_reducible refine r_asgT ?_ | with_reducible refine r_ifS ?_
  | with_reducible refine r_ret ?_ | with_reducible refine r_retN ?_ | with_reducible refine r_drop ?_ | with_reducible refine r_test ?_ | with_reducible refine r_B ?_ | with_reducible refine r_not ?_
  | with_reducible refine r_and ?_ | with_reducible refine r_or ?_ | with_reducible refine r_andV ?_ | with_reducible refine r_orV ?_ | with_reducible refine r_notV ?_
  | ((with_reducible refine' r_var ?e ?_); (case e => exact rfl)) | with_reducible refine r_c ?_ | with_reducible refine r_op ?_ | with_reducible refine r_un ?_
  | with_reducible refine r_I0 ?_ | with_reducible refine r_eqI ?_ | with_reducible refine r_neI ?_ | with_reducible refine r_bl ?_ | with_reducible refine r_nil ?_ | with_reducible refine r_cons ?_
  | with_reducible refine r_cb ?_ | with_reducible refine r_call ?_ | with_reducible refine r_tup ?_ | with_reducible refine r_lst ?_ | with_reducible refine r_fld ?_ | with_reducible refine r_bm ?_ | with_reducible refine r_bm0 ?_
  | with_reducible refine r_for ?_ | with_reducible refine r_rng ?_ | with_reducible refine r_rng2 ?_ | with_reducible refine r_lstI ?_ | with_reducible refine r_tupI ?_ | with_reducible refine r_lc ?_
  | with_reducible refine r_augS ?_ | with_reducible refine r_ipI ?_
  | with_reducible refine r_meth ?_ | with_reducible refine r_prop ?_ | with_reducible refine r_make ?_ | with_reducible refine r_din ?_ | with_reducible refine r_dnin ?_ | with_reducible refine r_dput ?_ | with_reducible refine r_dget ?_
  | with_reducible refine r_gN ?_ | with_reducible refine r_tsl ?_ | with_reducible refine r_noP ?_ | with_reducible refine r_part ?_ | with_reducible refine r_pI ?_ | with_reducible refine r_tif ?_ | with_reducible refine r_SL ?_ | with_reducible refine r_gC ?_ | with_reducible refine r_U ?_ | with_reducible refine r_sfld ?_ | with_reducible refine r_dnew ?_ | with_reducible refine r_keys ?_
  | with_reducible refine r_mkE ?_ | with_reducible refine iteT ?_ | with_reducible refine iteF ?_
  | with_reducible refine r_int ?_ | with_reducible refine r_min2 ?_ | with_reducible refine r_isN ?_ | with_reducible refine r_notN ?_)
/-- as far as it goes by itself -/
local macro_rules | `(tactic| walk_at "go") => `(tactic| ((repeat walk_at "step"); (try dsimp only)))

theorem four {σ : L2.St} (h : σ.length = 4) : ∃ x0 x1 x2 x3, σ = [x0, x1, x2, x3] := by
  match σ, h with
  | [x0, x1, x2, x3], _ => exact ⟨x0, x1, x2, x3, rfl⟩
structure ErrsX (K : PySem.W.Frag) (mg : Str → Option Value) (CN CR CM CT : Addr) : Prop where
  gT : mg "TaskError" = some (.ref CT)
  nn : PySem.W.exmOne K (.ref CN) (.ref CN) = some true
  rn : PySem.W.exmOne K (.ref CR) (.ref CN) = some false
  rr : PySem.W.exmOne K (.ref CR) (.ref CR) = some true
  mn : PySem.W.exmOne K (.ref CM) (.ref CN) = some false
  mr : PySem.W.exmOne K (.ref CM) (.ref CR) = some false
  mm : PySem.W.exmOne K (.ref CM) (.ref CM) = some true
  xn : XfC K CN
  xr : XfC K CR
  xm : XfC K CM
  fn : PySem.W.findIn K (.ref CN) "name" = some none
  fr : PySem.W.findIn K (.ref CR) "place" = some none
  fm : PySem.W.findIn K (.ref CM) "word" = some none
  ns : ∀ C ∈ [CN, CM], PySem.W.subIn K (.ref C) (.type "StopIteration") = some false
/-- which calls are refused, and how: (tag, value) -/
inductive Fail (K : PySem.W.Frag) (H : Hp) : Str → V → Str → V → Prop
  | run {x v : V} (h : LRunBad K H x v) : Fail K H "run" x "name" v
  | sched {x : V} (h : BadRd K H x) : Fail K H "from" x "round" (.int (-1))
  | waits {x : V} (h : BadRd K H x) : Fail K H "waits" x "round" (.int (-1))
  | wname {x v : V} (h : CkBad K H x v) : Fail K H "waiting" x "name" v
  | wmany {a : Addr} {ks : List Nat} (h : SqX K H a (nV ks)) (nd : ks.Nodup) (h5 : 5 < ks.length) (h1 : ks.length ≤ 1000) : Fail K H "waiting" (.ref a) "many" (.str "names")
def spRefused (K : PySem.W.Frag) : Sp := fun vs H Q _ => ∃ (w : Str) (x : V) (tag : Str) (v : V), vs = [.str w, x] ∧ Fail K H w x tag v ∧ ∀ t H', Same H H' → H t = none → H' t = some (.tup [.str tag, v]) → Q (.ref t) H'
section
variable {P : Program} {w : World} {K : PySem.W.Frag} {mg : Str → Option Value} {base : Heap} {CN CR CM CT : Addr}
theorem scRefused : FnScope ["_law_word", "_law_one", "_law_got", "caught"] ["_law_word", "_law_one"] (defScope sRefused) := ⟨rfl, rfl, rfl, by decide +kernel, rfl, by decide +kernel, by decide +kernel⟩
theorem ok_refused {f : Addr} {fd : FuncData} (F : Fun K "_law_refused" "_law_refused" sRefused f fd) (T : Errs P w K mg CN CR CM) (TX : ErrsX K mg CN CR CM CT) (m_list : mg "list" = none)
    (D_run : Fok P w K mg base 3 "look_run" ["schedule"] (spLRun K CN)) (D_sched : Fok P w K mg base 7 "look_schedule" ["row"] (spSched K CR)) (D_wr : Gok P w K mg base 5 "waiting_rounds" ["names"] (spWR K CN CM)) (D_waits : Fok P w K mg base 7 "waits" ["row"] (spWaits K CR)) :
    FnOk P w K mg base (L2.CX P w) 9 f fd ["_law_word", "_law_one"] (spRefused K) := by
  refine F.okX scRefused (fun vs H Q E h => ?_) (fun cdv A outer s H vs Q E hr h => ?_)
  · obtain ⟨w, x, tag, v, rfl, _⟩ := h
    rfl
  obtain ⟨w, x, tag, v, rfl, h, k⟩ := h
  have sc := scRefused
  refine ⟨_, (pss_cons (ps_set (i := 2) sc.nd rfl (Or.inl rfl) (pe_tup (pa_cons pe_str pa_nil)))
    (pss_cons (ps_try_ch (Wout := fun c d _ H => E c d H) rfl rfl sc.nd (takes_of rfl rfl rfl rfl)
      (fun W pn xe tk po => (pss_cons (ps_if (pt_cmpR op_eq (pv 0) pe_str (nomark _)) (pss_one (ps_expr (pe_fT D_run (hr.mono (by decide)) 4 tk (pa_cons (pv 1) pa_nil)))) pss_nil)
      (pss_cons (ps_if (pt_cmpR op_eq (pv 0) pe_str (nomark _)) (pss_one (ps_expr (pe_fT D_sched (hr.mono (by decide)) 4 tk (pa_cons (pv 1) pa_nil)))) pss_nil)
      (pss_cons (ps_if (pt_cmpR op_eq (pv 0) pe_str (nomark _)) (pss_one (ps_expr (pe_lgT D_wr (hr.mono (by decide)) 4 tk [CN, CM] TX.ns (pa_cons (pv 1) pa_nil) m_list))) pss_nil)
      (pss_one (ps_if (pt_cmpR op_eq (pv 0) pe_str (nomark _)) (pss_one (ps_expr (pe_fT D_waits (hr.mono (by decide)) 4 tk (pa_cons (pv 1) pa_nil)))) pss_nil))))))
      (.named (i := 3) (c := .ref CN) ⟨rfl, by decide, .inl T.gN⟩ rfl rfl (fun a oe cls d pn hz hf => pss_one (ps_set (i := 2) sc.nd rfl (Or.inl rfl) (pe_tup (pa_cons pe_str (pa_cons (pe_xf (C := CN) TX.xn TX.fn hz hf (pv 3)) pa_nil)))))
      (.named (i := 3) (c := .ref CR) ⟨rfl, by decide, .inl T.gR⟩ rfl rfl (fun a oe cls d pn hz hf => pss_one (ps_set (i := 2) sc.nd rfl (Or.inl rfl) (pe_tup (pa_cons pe_str (pa_cons (pe_xf (C := CR) TX.xr TX.fr hz hf (pv 3)) pa_nil)))))
      (.named (i := 3) (c := .ref CM) ⟨rfl, by decide, .inl T.gM⟩ rfl rfl (fun a oe cls d pn hz hf => pss_one (ps_set (i := 2) sc.nd rfl (Or.inl rfl) (pe_tup (pa_cons pe_str (pa_cons (pe_xf (C := CM) TX.xm TX.fm hz hf (pv 3)) pa_nil)))))
      (.plain (c := .ref CT) ⟨rfl, by decide, .inl TX.gT⟩ (fun a oe cls d pn hz hf => pss_one (ps_set (i := 2) sc.nd rfl (Or.inl rfl) (pe_tup (pa_cons pe_str pa_nil)))) .nil)))))
    (pss_one (ps_ret (pv 2))))), ?_⟩
  walk_at "go"
  refine ⟨by show 1 ≤ sizeLine; decide, fun p0 hp0 => ?_⟩
  walk_at "go"
  have s0 := same_new (o := .tup [.str "none"]) hp0
  generalize upd H p0 _ = H0 at s0 ⊢
  cases h with
  | run hb =>
    refine r_eqV ?_
    walk_at "go"
    refine ite_yes (by decide +kernel) ?_
    walk_at "go"
    refine ⟨x, rfl, .inl ⟨v, hb.keep s0, ?_⟩⟩
    intro d H9 s9 hd9
    intro σ9 hσ9
    obtain ⟨x0, x1, x2, x3, rfl⟩ := four hσ9
    refine ⟨true, TX.nn, fun _ a9 ha9 => ?_, fun z => by cases z⟩
    walk_at "go"
    refine ⟨.ref a9, rfl, rfl, rfl, d, _, _, rfl, hd9, rfl, ?_⟩
    walk_at "go"
    refine ⟨by show 2 ≤ sizeLine; decide, fun t ht => ?_⟩
    show tRet (tVar 2) _ _ _
    walk_at "go"
    exact k t _ ((s0.trans s9).trans (same_new ht)) (none_of_same (s0.trans s9) ht) upd_same
  | sched hb =>
    refine r_eqV ?_
    walk_at "go"
    refine ite_no (by decide +kernel) ?_
    walk_at "go"
    refine r_eqV ?_
    walk_at "go"
    refine ite_yes (by decide +kernel) ?_
    walk_at "go"
    refine ⟨x, rfl, .inl ⟨hb.keep s0, ?_⟩⟩
    intro d H9 s9 hd9
    intro σ9 hσ9
    obtain ⟨x0, x1, x2, x3, rfl⟩ := four hσ9
    refine ⟨false, TX.rn, fun z => (by cases z), fun _ => ⟨true, TX.rr, fun _ a9 ha9 => ?_, fun z => by cases z⟩⟩
    walk_at "go"
    refine ⟨.ref a9, rfl, rfl, rfl, d, _, _, rfl, hd9, rfl, ?_⟩
    walk_at "go"
    refine ⟨by show 2 ≤ sizeLine; decide, fun t ht => ?_⟩
    show tRet (tVar 2) _ _ _
    walk_at "go"
    exact k t _ ((s0.trans s9).trans (same_new ht)) (none_of_same (s0.trans s9) ht) upd_same
  | waits hb =>
    refine r_eqV ?_
    walk_at "go"
    refine ite_no (by decide +kernel) ?_
    walk_at "go"
    refine r_eqV ?_
    walk_at "go"
    refine ite_no (by decide +kernel) ?_
    walk_at "go"
    refine r_eqV ?_
    walk_at "go"
    refine ite_no (by decide +kernel) ?_
    walk_at "go"
    refine r_eqV ?_
    walk_at "go"
    refine ite_yes (by decide +kernel) ?_
    walk_at "go"
    refine ⟨x, rfl, .inl ⟨hb.keep s0, ?_⟩⟩
    intro d H9 s9 hd9
    intro σ9 hσ9
    obtain ⟨x0, x1, x2, x3, rfl⟩ := four hσ9
    refine ⟨false, TX.rn, fun z => (by cases z), fun _ => ⟨true, TX.rr, fun _ a9 ha9 => ?_, fun z => by cases z⟩⟩
    walk_at "go"
    refine ⟨.ref a9, rfl, rfl, rfl, d, _, _, rfl, hd9, rfl, ?_⟩
    walk_at "go"
    refine ⟨by show 2 ≤ sizeLine; decide, fun t ht => ?_⟩
    show tRet (tVar 2) _ _ _
    walk_at "go"
    exact k t _ ((s0.trans s9).trans (same_new ht)) (none_of_same (s0.trans s9) ht) upd_same
  | wname hb =>
    refine r_eqV ?_
    walk_at "go"
    refine ite_no (by decide +kernel) ?_
    walk_at "go"
    refine r_eqV ?_
    walk_at "go"
    refine ite_no (by decide +kernel) ?_
    walk_at "go"
    refine r_eqV ?_
    walk_at "go"
    refine ite_yes (by decide +kernel) ?_
    walk_at "go"
    refine r_lg (r_cg ?_)
    walk_at "go"
    refine ⟨x, rfl, .inl ⟨v, hb.keep s0, ?_⟩⟩
    intro d H9 s9 hd9
    refine ⟨⟨CN, by simp, rfl⟩, ?_⟩
    intro σ9 hσ9
    obtain ⟨x0, x1, x2, x3, rfl⟩ := four hσ9
    refine ⟨true, TX.nn, fun _ a9 ha9 => ?_, fun z => by cases z⟩
    walk_at "go"
    refine ⟨.ref a9, rfl, rfl, rfl, d, _, _, rfl, hd9, rfl, ?_⟩
    walk_at "go"
    refine ⟨by show 2 ≤ sizeLine; decide, fun t ht => ?_⟩
    show tRet (tVar 2) _ _ _
    walk_at "go"
    exact k t _ ((s0.trans s9).trans (same_new ht)) (none_of_same (s0.trans s9) ht) upd_same
  | @wmany a ks h nd h5 h1 =>
    refine r_eqV ?_
    walk_at "go"
    refine ite_no (by decide +kernel) ?_
    walk_at "go"
    refine r_eqV ?_
    walk_at "go"
    refine ite_no (by decide +kernel) ?_
    walk_at "go"
    refine r_eqV ?_
    walk_at "go"
    refine ite_yes (by decide +kernel) ?_
    walk_at "go"
    refine r_lg (r_cg ?_)
    walk_at "go"
    refine ⟨.ref a, rfl, .inr (.inl ⟨a, ks, rfl, h.keep s0, nd, h5, h1, ?_⟩)⟩
    intro d H9 s9 hd9
    refine ⟨⟨CM, by simp, rfl⟩, ?_⟩
    intro σ9 hσ9
    obtain ⟨x0, x1, x2, x3, rfl⟩ := four hσ9
    refine ⟨false, TX.mn, fun z => (by cases z), fun _ => ⟨false, TX.mr, fun z => (by cases z), fun _ => ⟨true, TX.mm, fun _ a9 ha9 => ?_, fun z => by cases z⟩⟩⟩
    walk_at "go"
    refine ⟨.ref a9, rfl, rfl, rfl, d, _, _, rfl, hd9, rfl, ?_⟩
    walk_at "go"
    refine ⟨by show 2 ≤ sizeLine; decide, fun t ht => ?_⟩
    show tRet (tVar 2) _ _ _
    walk_at "go"
    exact k t _ ((s0.trans s9).trans (same_new ht)) (none_of_same (s0.trans s9) ht) upd_same
end
end K9
namespace K9
open PySem L2 Er K7M
/-- one step of a plain reading -/
local macro_rules | `(tactic| walk_at "step") => `(tactic| first
  | with_reducible refine r_seq ?_ | with_reducible refine r_nx ?_ | with_reducible refine r_asgN ?_ | with_reducible refine r_asgS ?_ | with_reducible refine r_asgT ?_ | with_reducible refine r_ifS ?_
  | with_reducible refine r_ret ?_ | with_reducible refine r_retN ?_ | with_reducible refine r_drop ?_ | with_reducible refine r_test ?_ | with_reducible refine r_B ?_ | with_reducible refine r_not ?_
  | with_reducible refine r_and ?_ | with_reducible refine r_or ?_ | with_reducible refine r_andV ?_ | with_reducible refine r_orV ?_ | with_reducible refine r_notV ?_
  | ((with_reducible refine' r_var ?e ?_); (case e => exact rfl)) | with_reducible refine r_c ?_ | with_reducible refine r_op ?_ | with_reducible refine r_un ?_
  | with_reducible refine r_I0 ?_ | with_reducible refine r_eqI ?_ | with_reducible refine r_neI ?_ | with_reducible refine r_bl ?_ | with_reducible refine r_nil ?_ | with_reducible refine r_cons ?_
  | with_reducible refine r_cb ?_ | with_reducible refine r_call ?_ | with_reducible refine r_tup ?_ | with_reducible refine r_lst ?_ | with_reducible refine r_fld ?_ | with_reducible refine r_bm ?_ | with_reducible refine r_bm0 ?_
  | with_reducible refine r_for ?_ | with_reducible refine r_rng ?_ | with_reducible refine r_rng2 ?_ | with_reducible refine r_lstI ?_ | with_reducible refine r_tupI ?_ | with_reducible refine r_lc ?_
  | with_reducible refine r_augS ?_ | with_reducible refine r_ipI ?_
  | with_reducible refine r_meth ?_ | with_reducible refine r_prop ?_ | with_reducible refine r_make ?_ | with_reducible refine r_din ?_ | with_reducible refine r_dnin ?_ | with_reducible refine r_dput ?_ | with_reducible refine r_dget ?_
  | with_reducible refine r_gN ?_ | with_reducible refine r_tsl ?_ | with_reducible refine r_noP ?_ | with_reducible refine r_part ?_ | with_reducible refine r_pI ?_ | with_reducible refine r_tif ?_ | with_reducible refine r_SL ?_ | with_reducible refine r_gC ?_ | with_reducible refine r_U ?_ | with_reducible refine r_sfld ?_ | with_reducible refine r_dnew ?_ | with_reducible refine r_keys ?_
  | with_reducible refine r_mkE ?_ | with_reducible refine iteT ?_ | with_reducible refine iteF ?_
  | with_reducible refine r_int ?_ | with_reducible refine r_min2 ?_ | with_reducible refine r_isN ?_ | with_reducible refine r_notN ?_)
/-- as far as it goes by itself -/
local macro_rules | `(tactic| walk_at "go") => `(tactic| ((repeat walk_at "step"); (try dsimp only)))

theorem okd_tag2 {x : Str} {d : PyData} (h : PyData.canLay0 (.str x) = true) (hd : Okd 1 d) : Okd 2 (.tuple [.str x, d]) := okd_tup (k := 1) fun z hz => by
  rcases List.mem_cons.mp hz with rfl | hz
  · exact (okd_str h).up (by decide)
  rcases List.mem_cons.mp hz with rfl | hz
  · exact hd
  cases hz
/-- the things that are no names -/
inductive Th (K : PySem.W.Frag) (H : Hp) : V → PyData → Prop
  | sca {v : V} {d : PyData} {tn : String} (h : Sca v d tn) (n : isN v = false) : Th K H v d
  | tup {q : Addr} (h : H q = some (.tup [.int 1])) : Th K H (.ref q) (.tuple [.int 1])
section
variable {K : PySem.W.Frag} {H H' : Hp} {v : V} {d : PyData}
theorem Th.sm (h : Th K H v d) : ∃ tn, Sm K H v tn := by
  cases h with
  | sca h n => exact ⟨_, h.sm⟩
  | tup h => exact ⟨_, .tup (SqT.of h)⟩
theorem Th.notN (h : Th K H v d) : isN v = false := by
  cases h with
  | sca h n => exact n
  | tup h => rfl
theorem Th.dp (h : Th K H v d) : Dp K H v d := by
  cases h with
  | sca h n => exact h.dp
  | tup h => exact .tup (SqT.of h) (.cons (.int _) .nil)
theorem Th.okd (h : Th K H v d) : Okd 1 d := by
  cases h with
  | sca h n => exact h.okd.up (by decide)
  | tup h => exact okd_tup (k := 0) fun z hz => (by rw [List.mem_singleton.mp hz]; exact okd_int _)
theorem Th.keep (h : Th K H v d) (s : Same H H') : Th K H' v d := by
  cases h with
  | sca h n => exact .sca h n
  | tup h => exact .tup (s _ _ h)
theorem Th.but {a : Addr} {zs : List V} (h : Th K H v d) (s : SameBut a H H') (ha : H a = some (.lst zs)) : Th K H' v d := by
  cases h with
  | sca h n => exact .sca h n
  | tup h => exact .tup (s _ _ (ne_of h ha (by intro z; cases z)) h)
theorem thing_at {q : Addr} {r : Int} (hq : H q = some (.tup [.int 1])) (h0 : 0 ≤ r) (h5 : r < 5) : ∃ v d, atI [V.int (-1), .non, .bl true, .str "a", .ref q] r = some v ∧ Th K H v d := by
  have : r = 0 ∨ r = 1 ∨ r = 2 ∨ r = 3 ∨ r = 4 := by omega
  rcases this with rfl | rfl | rfl | rfl | rfl
  · exact ⟨_, _, rfl, .sca (.int _) (by decide)⟩
  · exact ⟨_, _, rfl, .sca .non rfl⟩
  · exact ⟨_, _, rfl, .sca (.bl _) rfl⟩
  · exact ⟨_, _, rfl, .sca (.str _ (by decide +kernel)) rfl⟩
  · exact ⟨_, _, rfl, .tup hq⟩
theorem three_at {r : Int} (h0 : 0 ≤ r) (h3 : r < 3) : ∃ v d tn, atI [V.int 5, .non, .str "a"] r = some v ∧ Sca v d tn ∧ (tn == "list" || tn == "tuple") = false := by
  have : r = 0 ∨ r = 1 ∨ r = 2 := by omega
  rcases this with rfl | rfl | rfl
  · exact ⟨_, _, _, rfl, .int _, by decide +kernel⟩
  · exact ⟨_, _, _, rfl, .non, by decide +kernel⟩
  · exact ⟨_, _, _, rfl, .str _ (by decide +kernel), by decide +kernel⟩
theorem rows_at {q1 q2 : Addr} {i : Nat} {x : V} (h1 : H q1 = some (.lst [])) (h2 : H q2 = some (.lst [V.int 3])) (h : [V.ref q1, .ref q2, .int 5, .non, .str "ab"][i]? = some x) : CkBad K H x (.int (-1)) := by
  rcases i with _ | _ | _ | _ | _ | i
  · cases h; exact .inr (.inl ⟨q1, [], rfl, SqX.L h1, by decide, rfl⟩)
  · cases h; exact .inr (.inl ⟨q2, [.int 3], rfl, SqX.L h2, by decide, rfl⟩)
  · cases h; exact .inl ⟨"int", .int _, by decide +kernel, rfl⟩
  · cases h; exact .inl ⟨"NoneType", .non, by decide +kernel, rfl⟩
  · cases h; exact .inl ⟨"str", .str _, by decide +kernel, rfl⟩
  · simp at h
theorem nest_two : nestB [[0], [1]] = false := by
  unfold nestB
  rw [List.mergeSort_of_pairwise (by simp [lenLeN])]
  rfl
theorem bad_at {b1 c1 b2 d1 d2 b3 e1 e2 b4 f1 f2 f3 f4 b5 g1 g2 g3 g4 b6 : Addr} {r : Int} (hb1 : H b1 = some (.lst [])) (hc1 : H c1 = some (.tup [V.int 0])) (hb2 : H b2 = some (.lst [V.ref c1]))
    (hd1 : H d1 = some (.tup [V.int 0])) (hd2 : H d2 = some (.tup [V.int 1, .ref d1])) (hb3 : H b3 = some (.lst [V.ref d2])) (he1 : H e1 = some (.tup [V.int 0, .int 1])) (he2 : H e2 = some (.tup [V.int 0, .ref e1])) (hb4 : H b4 = some (.lst [V.ref e2]))
    (hf1 : H f1 = some (.tup [V.int 0])) (hf2 : H f2 = some (.tup [V.int 0, .ref f1])) (hf3 : H f3 = some (.tup [V.int 1])) (hf4 : H f4 = some (.tup [V.int 1, .ref f3])) (hb5 : H b5 = some (.lst [V.ref f2, .ref f4]))
    (hg1 : H g1 = some (.tup [V.int 0, .int 1])) (hg2 : H g2 = some (.tup [V.int 1, .ref g1])) (hg3 : H g3 = some (.tup [V.int 0, .int 1])) (hg4 : H g4 = some (.tup [V.int 0, .ref g3])) (hb6 : H b6 = some (.lst [V.ref g2, .ref g4])) (h0 : 0 ≤ r) (h9 : r < 9) :
    ∃ v, atI [V.int 5, .non, .ref b1, .str "a", .ref b2, .ref b3, .ref b4, .ref b5, .ref b6] r = some v ∧ BadRd K H v := by
  have two : ∀ {a p r p' r' : Addr} {c c' : Nat} {l l' : List Nat}, H a = some (.lst [V.ref p, .ref p']) → H p = some (.tup [.int (c : Int), .ref r]) → H r = some (.tup (nV l)) → H p' = some (.tup [.int (c' : Int), .ref r']) → H r' = some (.tup (nV l')) → l.length ≤ 1000 → l'.length ≤ 1000 → roundB [(c, l), (c', l')] = false → BadRd K H (.ref a) := fun {a p r p' r' c c' l l'} h1 h2 h3 h4 h5 l1 l2 hb =>
    .inr (.inr ⟨a, [⟨p, c, r, l⟩, ⟨p', c', r', l'⟩], rfl, ⟨SqX.L h1, fun t ht => by
      rcases List.mem_cons.mp ht with rfl | ht
      · exact ⟨SqX.T h2, SqX.T h3⟩
      · rw [List.mem_singleton.mp ht]; exact ⟨SqX.T h4, SqX.T h5⟩⟩, by simp, fun t ht => by
      rcases List.mem_cons.mp ht with rfl | ht
      · exact l1
      · rw [List.mem_singleton.mp ht]; exact l2, hb⟩)
  have oneR : ∀ {a p r : Addr} {c : Nat} {l : List Nat}, H a = some (.lst [V.ref p]) → H p = some (.tup [.int (c : Int), .ref r]) → H r = some (.tup (nV l)) → l.length ≤ 1000 → roundB [(c, l)] = false → BadRd K H (.ref a) := fun {a p r c l} h1 h2 h3 l1 hb =>
    .inr (.inr ⟨a, [⟨p, c, r, l⟩], rfl, ⟨SqX.L h1, fun t ht => by rw [List.mem_singleton.mp ht]; exact ⟨SqX.T h2, SqX.T h3⟩⟩, by simp, fun t ht => by rw [List.mem_singleton.mp ht]; exact l1, hb⟩)
  have : r = 0 ∨ r = 1 ∨ r = 2 ∨ r = 3 ∨ r = 4 ∨ r = 5 ∨ r = 6 ∨ r = 7 ∨ r = 8 := by omega
  rcases this with rfl | rfl | rfl | rfl | rfl | rfl | rfl | rfl | rfl
  · exact ⟨_, rfl, .inl ⟨"int", .int _, by decide +kernel⟩⟩
  · exact ⟨_, rfl, .inl ⟨"NoneType", .non, by decide +kernel⟩⟩
  · exact ⟨_, rfl, .inr (.inr ⟨b1, [], rfl, ⟨SqX.L hb1, fun t ht => by cases ht⟩, by decide, fun t ht => (by cases ht), rfl⟩)⟩
  · exact ⟨_, rfl, .inl ⟨"str", .str _, by decide +kernel⟩⟩
  · exact ⟨_, rfl, .inr (.inl ⟨b2, c1, [V.int 0], rfl, SqX.L hb2, SqX.T hc1, by decide⟩)⟩
  · exact ⟨_, rfl, oneR (c := 1) (l := [0]) hb3 hd2 hd1 (by decide) rfl⟩
  · exact ⟨_, rfl, oneR (c := 0) (l := [0, 1]) hb4 he2 he1 (by decide) rfl⟩
  · exact ⟨_, rfl, two (c := 0) (l := [0]) (c' := 1) (l' := [1]) hb5 hf2 hf1 hf4 hf3 (by decide) (by decide) (by
      unfold roundB
      rw [show ([((0 : Nat), [(0 : Nat)]), (1, [1])].map fun il => il.2) = [[0], [1]] from rfl, nest_two]
      rw [Bool.and_false, Bool.and_false])⟩
  · exact ⟨_, rfl, two (c := 1) (l := [0, 1]) (c' := 0) (l' := [0, 1]) hb6 hg2 hg1 hg4 hg3 (by decide) (by decide) rfl⟩
end
theorem lr_nil1 : inOrder 60 (lr 60 []).wr = [] := List.filter_eq_nil_iff.mpr fun c _ => by
  show ¬ decide (c ∈ ([] : List Nat)) = true
  simp
theorem lr_nil2 : lrLooks 60 (lr 60 []) = [] := by
  unfold lrLooks
  rw [show inOrder 60 (lr 60 []).g = [] from lr_nil1]
  rfl
theorem order_eight : inOrder 60 [8] = [8] := order_self (by simp) (by simp)
theorem lr_eight1 : inOrder 60 (lr 60 [8, 8, 8]).wr = [8] := order_eight
theorem lr_eight2 : lrLooks 60 (lr 60 [8, 8, 8]) = [(8, [8])] := by
  unfold lrLooks
  rw [show inOrder 60 (lr 60 [8, 8, 8]).g = [8] from order_eight]
  show [(8, (lr 60 [8, 8, 8]).f 8)] = _
  rw [show (lr 60 [8, 8, 8]).f 8 = inOrder 60 [8] from rfl, order_eight]
theorem _root_.K9.RunAt.keep' {H H' : Hp} {t : Addr} {ws : List Nat} {ls : List (Nat × List Nat)} (h : RunAt H t ws ls) (s : Same H H') : RunAt H' t ws ls := h.keep s
def spAllRef : Sp := fun vs H Q _ => ∃ (a b : Addr) (ns : List Int) (ws : List Nat), vs = [.ref a, .ref b] ∧ H a = some (.lst (ns.map V.int)) ∧ ns.length ≤ 100000 ∧ H b = some (.lst (nV ws)) ∧ b ≠ a ∧ ws.Nodup ∧ 1 ≤ ws.length ∧ ws.length ≤ 6 ∧
  ∀ (ns' : List Int) H', ns'.length ≤ ns.length → H' a = some (.lst (ns'.map V.int)) → SameBut a H H' → Q (.bl true) H'
section
variable {P : Program} {w : World} {K : PySem.W.Frag} {mg : Str → Option Value} {base : Heap} {CN CR CM CT : Addr}
theorem scAllRef : FnScope ["_law_found", "_law_names_here", "_law_thing", "_law_row", "_law_bad", "_law_one"] ["_law_found", "_law_names_here"] (defScope sAllRef) := ⟨rfl, rfl, rfl, by decide +kernel, rfl, by decide +kernel, by decide +kernel⟩
theorem ok_allref {f : Addr} {fd : FuncData} (F : Fun K "_law_all_refused" "_law_all_refused" sAllRef f fd) (m_list : mg "list" = none) (D_take : Fok P w K mg base 1 "_law_take" ["_law_found", "_law_many"] spTake)
    (D_refused : Fok P w K mg base 9 "_law_refused" ["_law_word", "_law_one"] (spRefused K)) (D_run : Fok P w K mg base 3 "look_run" ["schedule"] (spLRun K CN)) (D_waits : Fok P w K mg base 7 "waits" ["row"] (spWaits K CR)) :
    FnOk P w K mg base (L2.CX P w) 10 f fd ["_law_found", "_law_names_here"] spAllRef := by
  refine F.okX scAllRef (fun vs H Q E h => ?_) (fun cdv A outer s H vs Q E hr h => ?_)
  · obtain ⟨a, b, ns, ws, rfl, _⟩ := h
    rfl
  obtain ⟨a, b, ns, ws, rfl, ha, hl, fb, ba, nd, m1, m6, k⟩ := h
  have sc := scAllRef
  refine ⟨_, (pss_cons (ps_set (i := 2) sc.nd rfl (Or.inl rfl) (pe_ix (ixL K) (pe_lst (pa_cons (pe_un un_neg pe_int) (pa_cons pe_non (pa_cons pe_bl (pa_cons pe_str (pa_cons (pe_tup (pa_cons pe_int pa_nil)) pa_nil)))))) (pe_f D_take (hr.mono (by decide)) (pa_cons (pv 0) (pa_cons pe_int pa_nil))) (fun _ _ => rfl)))
      (pss_cons (ps_if (pt_cmpR (op_neD hr.units) (pe_f D_refused (hr.mono (by decide)) (pa_cons pe_str (pa_cons (pe_op op_cat (pe_callTy (listOK K) (by rfl) m_list (by decide +kernel) (pa_cons (pv 1) pa_nil)) (pe_lst (pa_cons (pv 2) (pa_cons (pe_un un_neg pe_int) pa_nil)))) pa_nil))) (pe_tup (pa_cons pe_str (pa_cons (pv 2) pa_nil))) (nomark _)) (pss_one (ps_ret pe_bl)) pss_nil)
      (pss_cons (ps_if (pt_cmpR (op_neD hr.units) (pe_f D_refused (hr.mono (by decide)) (pa_cons pe_str (pa_cons (pe_ix (ixL K) (pe_lst (pa_cons pe_int (pa_cons pe_non (pa_cons pe_str pa_nil)))) (pe_f D_take (hr.mono (by decide)) (pa_cons (pv 0) (pa_cons pe_int pa_nil))) (fun _ _ => rfl)) pa_nil))) (pe_tup (pa_cons pe_str (pa_cons (pe_un un_neg pe_int) pa_nil))) (nomark _)) (pss_one (ps_ret pe_bl)) pss_nil)
      (pss_cons (ps_if (pt_cmpR (op_neD hr.units) (pe_f D_refused (hr.mono (by decide)) (pa_cons pe_str (pa_cons (pe_op op_cat (pe_callTy (listOK K) (by rfl) m_list (by decide +kernel) (pa_cons (pv 1) pa_nil)) (pe_lst (pa_cons (pv 2) (pa_cons (pe_un un_neg pe_int) pa_nil)))) pa_nil))) (pe_tup (pa_cons pe_str (pa_cons (pv 2) pa_nil))) (nomark _)) (pss_one (ps_ret pe_bl)) pss_nil)
      (pss_cons (ps_if (pt_cmpR (op_neD hr.units) (pe_f D_refused (hr.mono (by decide)) (pa_cons pe_str (pa_cons (pe_tup (pa_cons pe_int (pa_cons pe_int (pa_cons (pe_un un_neg pe_int) pa_nil)))) pa_nil))) (pe_tup (pa_cons pe_str (pa_cons pe_int pa_nil))) (nomark _)) (pss_one (ps_ret pe_bl)) pss_nil)
      (pss_cons (ps_if (pt_cmpR (op_neD hr.units) (pe_f D_refused (hr.mono (by decide)) (pa_cons pe_str (pa_cons (pe_tup (pa_cons pe_int (pa_cons pe_int (pa_cons pe_int (pa_cons pe_int (pa_cons pe_int (pa_cons pe_int pa_nil))))))) pa_nil))) (pe_tup (pa_cons pe_str (pa_cons pe_str pa_nil))) (nomark _)) (pss_one (ps_ret pe_bl)) pss_nil)
      (pss_cons (ps_for (passes_of rfl) rfl (pi_list (pe_lst (pa_cons (pe_lst pa_nil) (pa_cons (pe_lst (pa_cons pe_int pa_nil)) (pa_cons pe_int (pa_cons pe_non (pa_cons pe_str pa_nil))))))) (pg_name (i := 3) sc.nd rfl (Or.inl rfl)) (pss_one (ps_if (pt_cmpR (op_neD hr.units) (pe_f D_refused (hr.mono (by decide)) (pa_cons pe_str (pa_cons (pv 3) pa_nil))) (pe_tup (pa_cons pe_str (pa_cons (pe_un un_neg pe_int) pa_nil))) (nomark _)) (pss_one (ps_ret pe_bl)) pss_nil)))
      (pss_cons (ps_set (i := 4) sc.nd rfl (Or.inl rfl) (pe_lst (pa_cons pe_int (pa_cons pe_non (pa_cons (pe_lst pa_nil) (pa_cons pe_str (pa_cons (pe_lst (pa_cons (pe_tup (pa_cons pe_int pa_nil)) pa_nil)) (pa_cons (pe_lst (pa_cons (pe_tup (pa_cons pe_int (pa_cons (pe_tup (pa_cons pe_int pa_nil)) pa_nil))) pa_nil)) (pa_cons (pe_lst (pa_cons (pe_tup (pa_cons pe_int (pa_cons (pe_tup (pa_cons pe_int (pa_cons pe_int pa_nil))) pa_nil))) pa_nil)) (pa_cons (pe_lst (pa_cons (pe_tup (pa_cons pe_int (pa_cons (pe_tup (pa_cons pe_int pa_nil)) pa_nil))) (pa_cons (pe_tup (pa_cons pe_int (pa_cons (pe_tup (pa_cons pe_int pa_nil)) pa_nil))) pa_nil))) (pa_cons (pe_lst (pa_cons (pe_tup (pa_cons pe_int (pa_cons (pe_tup (pa_cons pe_int (pa_cons pe_int pa_nil))) pa_nil))) (pa_cons (pe_tup (pa_cons pe_int (pa_cons (pe_tup (pa_cons pe_int (pa_cons pe_int pa_nil))) pa_nil))) pa_nil))) pa_nil)))))))))))
      (pss_cons (ps_set (i := 5) sc.nd rfl (Or.inl rfl) (pe_ix (ixL K) (pv 4) (pe_f D_take (hr.mono (by decide)) (pa_cons (pv 0) (pa_cons pe_int pa_nil))) (fun _ _ => rfl)))
      (pss_cons (ps_if (PW.pt (pw_or (pt_cmpR (op_neD hr.units) (pe_f D_refused (hr.mono (by decide)) (pa_cons pe_str (pa_cons (pv 5) pa_nil))) (pe_tup (pa_cons pe_str (pa_cons (pe_un un_neg pe_int) pa_nil))) (nomark _)) (pw_or1 (pt_cmpR (op_neD hr.units) (pe_f D_refused (hr.mono (by decide)) (pa_cons pe_str (pa_cons (pv 5) pa_nil))) (pe_tup (pa_cons pe_str (pa_cons (pe_un un_neg pe_int) pa_nil))) (nomark _))))) (pss_one (ps_ret pe_bl)) pss_nil)
      (pss_one (ps_ret (pe_and (pe_cmpR isBl (pe_f D_waits (hr.mono (by decide)) (pa_cons (pe_lst (pa_cons (pe_tup (pa_cons pe_int (pa_cons (pe_lst (pa_cons pe_int pa_nil)) pa_nil))) pa_nil)) pa_nil)) pe_bl (nomark _)) (pe_and (pe_cmpR (op_eqD hr.units) (pe_f D_run (hr.mono (by decide)) (pa_cons (pe_tup pa_nil) pa_nil)) (pe_tup (pa_cons (pe_tup pa_nil) (pa_cons (pe_tup pa_nil) pa_nil))) (nomark _)) (pe_one (pe_cmpR (op_eqD hr.units) (pe_f D_run (hr.mono (by decide)) (pa_cons (pe_lst (pa_cons pe_int (pa_cons pe_int (pa_cons pe_int pa_nil)))) pa_nil)) (pe_tup (pa_cons (pe_tup (pa_cons pe_int pa_nil)) (pa_cons (pe_tup (pa_cons (pe_tup (pa_cons pe_int (pa_cons (pe_tup (pa_cons pe_int pa_nil)) pa_nil))) pa_nil)) pa_nil))) (nomark _))))))))))))))))), ?_⟩
  have sT : Same H H := Same.refl _
  have sB : SameBut a H H := SameBut.of (Same.refl _)
  walk_at "go"
  refine ⟨by show 1 ≤ sizeLine; decide, fun q0 hq0 => ?_⟩
  have q0a : q0 ≠ a := fun z => by rw [z, ha] at hq0; cases hq0
  replace ha := (same_new (o := .tup [V.int 1]) hq0) _ _ ha
  replace fb := (same_new (o := .tup [V.int 1]) hq0) _ _ fb
  replace sT := sT.trans (same_new (o := .tup [V.int 1]) hq0)
  have fq0 : (upd H q0 (.tup [V.int 1])) q0 = some (.tup [V.int 1]) := upd_same
  generalize upd H q0 (.tup [V.int 1]) = G1 at sT ha fb fq0 ⊢
  clear hq0
  walk_at "go"
  refine ⟨by show 5 ≤ sizeLine; decide, fun q1 hq1 => ?_⟩
  have q1a : q1 ≠ a := fun z => by rw [z, ha] at hq1; cases hq1
  replace ha := (same_new (o := .lst [V.int (-1), .non, .bl true, .str "a", .ref q0]) hq1) _ _ ha
  replace fb := (same_new (o := .lst [V.int (-1), .non, .bl true, .str "a", .ref q0]) hq1) _ _ fb
  replace fq0 := (same_new (o := .lst [V.int (-1), .non, .bl true, .str "a", .ref q0]) hq1) _ _ fq0
  replace sT := sT.trans (same_new (o := .lst [V.int (-1), .non, .bl true, .str "a", .ref q0]) hq1)
  have fq1 : (upd G1 q1 (.lst [V.int (-1), .non, .bl true, .str "a", .ref q0])) q1 = some (.lst [V.int (-1), .non, .bl true, .str "a", .ref q0]) := upd_same
  generalize upd G1 q1 (.lst [V.int (-1), .non, .bl true, .str "a", .ref q0]) = G2 at sT ha fb fq0 fq1 ⊢
  clear hq1
  walk_at "go"
  refine ⟨a, ns, 5, rfl, ha, by omega, by decide, fun r3 ns3 G3 a3 b3 l3 hA s => ?_⟩
  replace fb := s _ _ ba fb
  replace fq0 := s _ _ q0a fq0
  replace fq1 := s _ _ q1a fq1
  replace ha := hA
  replace sB := (sB.trans (SameBut.of sT)).trans s
  clear sT
  have sT : Same G3 G3 := Same.refl _
  have lt3 : ns3.length ≤ ns.length := by omega
  clear s hA
  obtain ⟨thing, dth, eth, th⟩ := thing_at (K := K) fq0 a3 b3
  refine r_ixL (SqL.of fq1) eth ?_
  clear eth
  walk_at "go"
  clear fq0 fq1
  obtain ⟨tth, smth⟩ := th.sm
  clear smth
  refine r_listO (.inl (SqL.of fb)) fun q2 hq2 => ?_
  replace ha := (same_new (o := .lst (nV ws)) hq2) _ _ ha
  replace fb := (same_new (o := .lst (nV ws)) hq2) _ _ fb
  replace th := th.keep (same_new (o := .lst (nV ws)) hq2)
  replace sT := sT.trans (same_new (o := .lst (nV ws)) hq2)
  have fq2 : (upd G3 q2 (.lst (nV ws))) q2 = some (.lst (nV ws)) := upd_same
  generalize upd G3 q2 (.lst (nV ws)) = G4 at sT ha fb th fq2 ⊢
  clear hq2
  walk_at "go"
  refine ⟨by show 2 ≤ sizeLine; decide, fun q3 hq3 => ?_⟩
  replace ha := (same_new (o := .lst [thing, .int (-9)]) hq3) _ _ ha
  replace fb := (same_new (o := .lst [thing, .int (-9)]) hq3) _ _ fb
  replace th := th.keep (same_new (o := .lst [thing, .int (-9)]) hq3)
  replace fq2 := (same_new (o := .lst [thing, .int (-9)]) hq3) _ _ fq2
  replace sT := sT.trans (same_new (o := .lst [thing, .int (-9)]) hq3)
  have fq3 : (upd G4 q3 (.lst [thing, .int (-9)])) q3 = some (.lst [thing, .int (-9)]) := upd_same
  generalize upd G4 q3 (.lst [thing, .int (-9)]) = G5 at sT ha fb th fq2 fq3 ⊢
  clear hq3
  refine r_catL fq2 fq3 (by rw [nV_len]; show ws.length + 2 ≤ 100000; omega) fun q4 hq4 => ?_
  replace ha := (same_new (o := .lst (nV ws ++ [thing, .int (-9)])) hq4) _ _ ha
  replace fb := (same_new (o := .lst (nV ws ++ [thing, .int (-9)])) hq4) _ _ fb
  replace th := th.keep (same_new (o := .lst (nV ws ++ [thing, .int (-9)])) hq4)
  replace fq2 := (same_new (o := .lst (nV ws ++ [thing, .int (-9)])) hq4) _ _ fq2
  replace fq3 := (same_new (o := .lst (nV ws ++ [thing, .int (-9)])) hq4) _ _ fq3
  replace sT := sT.trans (same_new (o := .lst (nV ws ++ [thing, .int (-9)])) hq4)
  have fq4 : (upd G5 q4 (.lst (nV ws ++ [thing, .int (-9)]))) q4 = some (.lst (nV ws ++ [thing, .int (-9)])) := upd_same
  generalize upd G5 q4 (.lst (nV ws ++ [thing, .int (-9)])) = G6 at sT ha fb th fq2 fq3 fq4 ⊢
  clear hq4
  walk_at "go"
  obtain ⟨tth, smth⟩ := th.sm
  refine ⟨"run", .ref q4, "name", thing, rfl, .run (.inr ⟨q4, ws, tth, [.int (-9)], rfl, SqX.L fq4, smth, th.notN⟩), fun t H7 s htn ht => ?_⟩
  walk_at "go"
  refine ⟨by show 2 ≤ sizeLine; decide, fun t2 ht2 => ?_⟩
  have s9 := same_new (o := .tup [.str "name", thing]) ht2
  refine r_neSame (dp_tag (s9 _ _ ht) (th.keep (s.trans s9)).dp) (dp_tag upd_same (th.keep (s.trans s9)).dp) (okd_tag2 (by decide +kernel) th.okd) (by decide) ?_
  replace ha := (s.trans s9) _ _ ha
  replace fb := (s.trans s9) _ _ fb
  replace th := th.keep (s.trans s9)
  replace fq2 := (s.trans s9) _ _ fq2
  replace fq3 := (s.trans s9) _ _ fq3
  replace fq4 := (s.trans s9) _ _ fq4
  replace sT := sT.trans (s.trans s9)
  clear s s9 ht htn
  generalize upd H7 t2 _ = G7 at sT ha fb th fq2 fq3 fq4 ⊢
  clear ht2
  walk_at "go"
  clear fq2 fq3 fq4
  refine ⟨by show 3 ≤ sizeLine; decide, fun q1 hq1 => ?_⟩
  have q1a : q1 ≠ a := fun z => by rw [z, ha] at hq1; cases hq1
  replace ha := (same_new (o := .lst [V.int 5, .non, .str "a"]) hq1) _ _ ha
  replace fb := (same_new (o := .lst [V.int 5, .non, .str "a"]) hq1) _ _ fb
  replace th := th.keep (same_new (o := .lst [V.int 5, .non, .str "a"]) hq1)
  replace sT := sT.trans (same_new (o := .lst [V.int 5, .non, .str "a"]) hq1)
  have fq1 : (upd G7 q1 (.lst [V.int 5, .non, .str "a"])) q1 = some (.lst [V.int 5, .non, .str "a"]) := upd_same
  generalize upd G7 q1 (.lst [V.int 5, .non, .str "a"]) = G8 at sT ha fb th fq1 ⊢
  clear hq1
  walk_at "go"
  refine ⟨a, ns3, 3, rfl, ha, by omega, by decide, fun r9 ns9 G9 a9 b9 l9 hA s => ?_⟩
  replace fb := s _ _ ba fb
  replace th := th.but s ha
  replace fq1 := s _ _ q1a fq1
  replace ha := hA
  replace sB := (sB.trans (SameBut.of sT)).trans s
  clear sT
  have sT : Same G9 G9 := Same.refl _
  have lt9 : ns9.length ≤ ns.length := by omega
  clear s hA
  obtain ⟨v3, d3, t3, e3, s3, n3⟩ := three_at a9 b9
  refine r_ixL (SqL.of fq1) e3 ?_
  walk_at "go"
  clear fq1
  refine ⟨"run", v3, "name", .int (-1), rfl, .run (.inl ⟨t3, s3.sm, n3, rfl⟩), fun t H10 s htn ht => ?_⟩
  walk_at "go"
  refine ⟨by show 2 ≤ sizeLine; decide, fun t2 ht2 => ?_⟩
  have s9 := same_new (o := .tup [.str "name", .int (-1)]) ht2
  refine r_neSame (dp_tag (s9 _ _ ht) (.int _)) (dp_tag upd_same (.int _)) (okd_tag2 (by decide +kernel) ((okd_int _).up (by decide))) (by decide) ?_
  replace ha := (s.trans s9) _ _ ha
  replace fb := (s.trans s9) _ _ fb
  replace th := th.keep (s.trans s9)
  replace sT := sT.trans (s.trans s9)
  clear s s9 ht htn
  generalize upd H10 t2 _ = G10 at sT ha fb th ⊢
  clear ht2
  walk_at "go"
  refine r_listO (.inl (SqL.of fb)) fun q2 hq2 => ?_
  replace ha := (same_new (o := .lst (nV ws)) hq2) _ _ ha
  replace fb := (same_new (o := .lst (nV ws)) hq2) _ _ fb
  replace th := th.keep (same_new (o := .lst (nV ws)) hq2)
  replace sT := sT.trans (same_new (o := .lst (nV ws)) hq2)
  have fq2 : (upd G10 q2 (.lst (nV ws))) q2 = some (.lst (nV ws)) := upd_same
  generalize upd G10 q2 (.lst (nV ws)) = G11 at sT ha fb th fq2 ⊢
  clear hq2
  walk_at "go"
  refine ⟨by show 2 ≤ sizeLine; decide, fun q3 hq3 => ?_⟩
  replace ha := (same_new (o := .lst [thing, .int (-9)]) hq3) _ _ ha
  replace fb := (same_new (o := .lst [thing, .int (-9)]) hq3) _ _ fb
  replace th := th.keep (same_new (o := .lst [thing, .int (-9)]) hq3)
  replace fq2 := (same_new (o := .lst [thing, .int (-9)]) hq3) _ _ fq2
  replace sT := sT.trans (same_new (o := .lst [thing, .int (-9)]) hq3)
  have fq3 : (upd G11 q3 (.lst [thing, .int (-9)])) q3 = some (.lst [thing, .int (-9)]) := upd_same
  generalize upd G11 q3 (.lst [thing, .int (-9)]) = G12 at sT ha fb th fq2 fq3 ⊢
  clear hq3
  refine r_catL fq2 fq3 (by rw [nV_len]; show ws.length + 2 ≤ 100000; omega) fun q4 hq4 => ?_
  replace ha := (same_new (o := .lst (nV ws ++ [thing, .int (-9)])) hq4) _ _ ha
  replace fb := (same_new (o := .lst (nV ws ++ [thing, .int (-9)])) hq4) _ _ fb
  replace th := th.keep (same_new (o := .lst (nV ws ++ [thing, .int (-9)])) hq4)
  replace fq2 := (same_new (o := .lst (nV ws ++ [thing, .int (-9)])) hq4) _ _ fq2
  replace fq3 := (same_new (o := .lst (nV ws ++ [thing, .int (-9)])) hq4) _ _ fq3
  replace sT := sT.trans (same_new (o := .lst (nV ws ++ [thing, .int (-9)])) hq4)
  have fq4 : (upd G12 q4 (.lst (nV ws ++ [thing, .int (-9)]))) q4 = some (.lst (nV ws ++ [thing, .int (-9)])) := upd_same
  generalize upd G12 q4 (.lst (nV ws ++ [thing, .int (-9)])) = G13 at sT ha fb th fq2 fq3 fq4 ⊢
  clear hq4
  walk_at "go"
  obtain ⟨tth, smth⟩ := th.sm
  refine ⟨"waiting", .ref q4, "name", thing, rfl, .wname (.inr (.inr ⟨q4, ws, tth, [.int (-9)], rfl, SqX.L fq4, nd, by omega, m1, smth, .inl th.notN⟩)), fun t H14 s htn ht => ?_⟩
  walk_at "go"
  refine ⟨by show 2 ≤ sizeLine; decide, fun t2 ht2 => ?_⟩
  have s9 := same_new (o := .tup [.str "name", thing]) ht2
  refine r_neSame (dp_tag (s9 _ _ ht) (th.keep (s.trans s9)).dp) (dp_tag upd_same (th.keep (s.trans s9)).dp) (okd_tag2 (by decide +kernel) th.okd) (by decide) ?_
  replace ha := (s.trans s9) _ _ ha
  replace fb := (s.trans s9) _ _ fb
  replace th := th.keep (s.trans s9)
  replace fq2 := (s.trans s9) _ _ fq2
  replace fq3 := (s.trans s9) _ _ fq3
  replace fq4 := (s.trans s9) _ _ fq4
  replace sT := sT.trans (s.trans s9)
  clear s s9 ht htn
  generalize upd H14 t2 _ = G14 at sT ha fb th fq2 fq3 fq4 ⊢
  clear ht2
  walk_at "go"
  clear fq2 fq3 fq4
  refine ⟨by show 3 ≤ sizeLine; decide, fun q1 hq1 => ?_⟩
  replace ha := (same_new (o := .tup [V.int 4, .int 4, .int (-9)]) hq1) _ _ ha
  replace fb := (same_new (o := .tup [V.int 4, .int 4, .int (-9)]) hq1) _ _ fb
  replace th := th.keep (same_new (o := .tup [V.int 4, .int 4, .int (-9)]) hq1)
  replace sT := sT.trans (same_new (o := .tup [V.int 4, .int 4, .int (-9)]) hq1)
  have fq1 : (upd G14 q1 (.tup [V.int 4, .int 4, .int (-9)])) q1 = some (.tup [V.int 4, .int 4, .int (-9)]) := upd_same
  generalize upd G14 q1 (.tup [V.int 4, .int 4, .int (-9)]) = G15 at sT ha fb th fq1 ⊢
  clear hq1
  walk_at "go"
  refine ⟨"waiting", .ref q1, "name", .int 4, rfl, .wname (.inr (.inr ⟨q1, [4], "int", [.int (-9)], rfl, SqX.T fq1, by simp, by simp, by simp, .int _, .inr ⟨4, rfl, by simp⟩⟩)), fun t H16 s htn ht => ?_⟩
  walk_at "go"
  refine ⟨by show 2 ≤ sizeLine; decide, fun t2 ht2 => ?_⟩
  have s9 := same_new (o := .tup [.str "name", .int 4]) ht2
  refine r_neSame (dp_tag (s9 _ _ ht) (.int _)) (dp_tag upd_same (.int _)) (okd_tag2 (by decide +kernel) ((okd_int _).up (by decide))) (by decide) ?_
  replace ha := (s.trans s9) _ _ ha
  replace fb := (s.trans s9) _ _ fb
  replace th := th.keep (s.trans s9)
  replace fq1 := (s.trans s9) _ _ fq1
  replace sT := sT.trans (s.trans s9)
  clear s s9 ht htn
  generalize upd H16 t2 _ = G16 at sT ha fb th fq1 ⊢
  clear ht2
  walk_at "go"
  clear fq1
  refine ⟨by show 6 ≤ sizeLine; decide, fun q1 hq1 => ?_⟩
  replace ha := (same_new (o := .tup [V.int 9, .int 3, .int 1, .int 0, .int 7, .int 5]) hq1) _ _ ha
  replace fb := (same_new (o := .tup [V.int 9, .int 3, .int 1, .int 0, .int 7, .int 5]) hq1) _ _ fb
  replace th := th.keep (same_new (o := .tup [V.int 9, .int 3, .int 1, .int 0, .int 7, .int 5]) hq1)
  replace sT := sT.trans (same_new (o := .tup [V.int 9, .int 3, .int 1, .int 0, .int 7, .int 5]) hq1)
  have fq1 : (upd G16 q1 (.tup [V.int 9, .int 3, .int 1, .int 0, .int 7, .int 5])) q1 = some (.tup [V.int 9, .int 3, .int 1, .int 0, .int 7, .int 5]) := upd_same
  generalize upd G16 q1 (.tup [V.int 9, .int 3, .int 1, .int 0, .int 7, .int 5]) = G17 at sT ha fb th fq1 ⊢
  clear hq1
  walk_at "go"
  refine ⟨"waiting", .ref q1, "many", .str "names", rfl, .wmany (a := q1) (ks := [9, 3, 1, 0, 7, 5]) (SqX.T fq1) (by decide) (by decide) (by decide), fun t H18 s htn ht => ?_⟩
  walk_at "go"
  refine ⟨by show 2 ≤ sizeLine; decide, fun t2 ht2 => ?_⟩
  have s9 := same_new (o := .tup [.str "many", .str "names"]) ht2
  refine r_neSame (dp_tag (s9 _ _ ht) (.str _)) (dp_tag upd_same (.str _)) (okd_tag2 (by decide +kernel) ((okd_str (by decide +kernel)).up (by decide))) (by decide) ?_
  replace ha := (s.trans s9) _ _ ha
  replace fb := (s.trans s9) _ _ fb
  replace th := th.keep (s.trans s9)
  replace fq1 := (s.trans s9) _ _ fq1
  replace sT := sT.trans (s.trans s9)
  clear s s9 ht htn
  generalize upd H18 t2 _ = G18 at sT ha fb th fq1 ⊢
  clear ht2
  walk_at "go"
  clear fq1
  refine ⟨by show 0 ≤ sizeLine; decide, fun q1 hq1 => ?_⟩
  replace ha := (same_new (o := .lst []) hq1) _ _ ha
  replace fb := (same_new (o := .lst []) hq1) _ _ fb
  replace th := th.keep (same_new (o := .lst []) hq1)
  replace sT := sT.trans (same_new (o := .lst []) hq1)
  have fq1 : (upd G18 q1 (.lst [])) q1 = some (.lst []) := upd_same
  generalize upd G18 q1 (.lst []) = G19 at sT ha fb th fq1 ⊢
  clear hq1
  walk_at "go"
  refine ⟨by show 1 ≤ sizeLine; decide, fun q2 hq2 => ?_⟩
  replace ha := (same_new (o := .lst [V.int 3]) hq2) _ _ ha
  replace fb := (same_new (o := .lst [V.int 3]) hq2) _ _ fb
  replace th := th.keep (same_new (o := .lst [V.int 3]) hq2)
  replace fq1 := (same_new (o := .lst [V.int 3]) hq2) _ _ fq1
  replace sT := sT.trans (same_new (o := .lst [V.int 3]) hq2)
  have fq2 : (upd G19 q2 (.lst [V.int 3])) q2 = some (.lst [V.int 3]) := upd_same
  generalize upd G19 q2 (.lst [V.int 3]) = G20 at sT ha fb th fq1 fq2 ⊢
  clear hq2
  walk_at "go"
  refine ⟨by show 5 ≤ sizeLine; decide, fun q3 hq3 => ?_⟩
  replace ha := (same_new (o := .lst [V.ref q1, .ref q2, .int 5, .non, .str "ab"]) hq3) _ _ ha
  replace fb := (same_new (o := .lst [V.ref q1, .ref q2, .int 5, .non, .str "ab"]) hq3) _ _ fb
  replace th := th.keep (same_new (o := .lst [V.ref q1, .ref q2, .int 5, .non, .str "ab"]) hq3)
  replace fq1 := (same_new (o := .lst [V.ref q1, .ref q2, .int 5, .non, .str "ab"]) hq3) _ _ fq1
  replace fq2 := (same_new (o := .lst [V.ref q1, .ref q2, .int 5, .non, .str "ab"]) hq3) _ _ fq2
  replace sT := sT.trans (same_new (o := .lst [V.ref q1, .ref q2, .int 5, .non, .str "ab"]) hq3)
  have fq3 : (upd G20 q3 (.lst [V.ref q1, .ref q2, .int 5, .non, .str "ab"])) q3 = some (.lst [V.ref q1, .ref q2, .int 5, .non, .str "ab"]) := upd_same
  generalize upd G20 q3 (.lst [V.ref q1, .ref q2, .int 5, .non, .str "ab"]) = G21 at sT ha fb th fq1 fq2 fq3 ⊢
  clear hq3
  walk_at "go"
  refine r_lstK (SqL.of fq3) ?_
  refine r_forL (xs := [V.ref q1, .ref q2, .int 5, .non, .str "ab"]) (fun i σ H' => ∃ v3, σ = [some (.ref a), some (.ref b), some thing, v3, none, none] ∧ Same G21 H') ⟨none, rfl, Same.refl _⟩ (fun i σ H' hi p => p.choose_spec.2.seq (SqL.of fq3)) ?_ ?_
  · rintro i x σ H5 hx ⟨v3, rfl, s5⟩
    have hck := rows_at (K := K) (s5 _ _ fq1) (s5 _ _ fq2) hx
    walk_at "go"
    refine ⟨"waiting", x, "name", .int (-1), rfl, .wname hck, fun t H6 s htn ht => ?_⟩
    walk_at "go"
    refine ⟨by show 2 ≤ sizeLine; decide, fun t2 ht2 => ?_⟩
    have s9 := same_new (o := .tup [.str "name", .int (-1)]) ht2
    refine r_neSame (dp_tag (s9 _ _ ht) (.int _)) (dp_tag upd_same (.int _)) (okd_tag2 (by decide +kernel) ((okd_int _).up (by decide))) (by decide) ?_
    walk_at "go"
    exact ⟨_, rfl, s5.trans (s.trans s9)⟩
  rintro σ H5 ⟨v3, rfl, s5⟩
  replace ha := s5 _ _ ha
  replace fb := s5 _ _ fb
  replace th := th.keep s5
  replace fq1 := s5 _ _ fq1
  replace fq2 := s5 _ _ fq2
  replace fq3 := s5 _ _ fq3
  replace sT := sT.trans s5
  clear s5
  clear fq1 fq2 fq3
  walk_at "go"
  refine ⟨by show 0 ≤ sizeLine; decide, fun b1 hb1 => ?_⟩
  have b1a : b1 ≠ a := fun z => by rw [z, ha] at hb1; cases hb1
  replace ha := (same_new (o := .lst []) hb1) _ _ ha
  replace fb := (same_new (o := .lst []) hb1) _ _ fb
  replace th := th.keep (same_new (o := .lst []) hb1)
  replace sT := sT.trans (same_new (o := .lst []) hb1)
  have fb1 : (upd H5 b1 (.lst [])) b1 = some (.lst []) := upd_same
  generalize upd H5 b1 (.lst []) = G22 at sT ha fb th fb1 ⊢
  clear hb1
  walk_at "go"
  refine ⟨by show 1 ≤ sizeLine; decide, fun c1 hc1 => ?_⟩
  have c1a : c1 ≠ a := fun z => by rw [z, ha] at hc1; cases hc1
  replace ha := (same_new (o := .tup [V.int 0]) hc1) _ _ ha
  replace fb := (same_new (o := .tup [V.int 0]) hc1) _ _ fb
  replace th := th.keep (same_new (o := .tup [V.int 0]) hc1)
  replace fb1 := (same_new (o := .tup [V.int 0]) hc1) _ _ fb1
  replace sT := sT.trans (same_new (o := .tup [V.int 0]) hc1)
  have fc1 : (upd G22 c1 (.tup [V.int 0])) c1 = some (.tup [V.int 0]) := upd_same
  generalize upd G22 c1 (.tup [V.int 0]) = G23 at sT ha fb th fb1 fc1 ⊢
  clear hc1
  walk_at "go"
  refine ⟨by show 1 ≤ sizeLine; decide, fun b2 hb2 => ?_⟩
  have b2a : b2 ≠ a := fun z => by rw [z, ha] at hb2; cases hb2
  replace ha := (same_new (o := .lst [V.ref c1]) hb2) _ _ ha
  replace fb := (same_new (o := .lst [V.ref c1]) hb2) _ _ fb
  replace th := th.keep (same_new (o := .lst [V.ref c1]) hb2)
  replace fb1 := (same_new (o := .lst [V.ref c1]) hb2) _ _ fb1
  replace fc1 := (same_new (o := .lst [V.ref c1]) hb2) _ _ fc1
  replace sT := sT.trans (same_new (o := .lst [V.ref c1]) hb2)
  have fb2 : (upd G23 b2 (.lst [V.ref c1])) b2 = some (.lst [V.ref c1]) := upd_same
  generalize upd G23 b2 (.lst [V.ref c1]) = G24 at sT ha fb th fb1 fc1 fb2 ⊢
  clear hb2
  walk_at "go"
  refine ⟨by show 1 ≤ sizeLine; decide, fun d1 hd1 => ?_⟩
  have d1a : d1 ≠ a := fun z => by rw [z, ha] at hd1; cases hd1
  replace ha := (same_new (o := .tup [V.int 0]) hd1) _ _ ha
  replace fb := (same_new (o := .tup [V.int 0]) hd1) _ _ fb
  replace th := th.keep (same_new (o := .tup [V.int 0]) hd1)
  replace fb1 := (same_new (o := .tup [V.int 0]) hd1) _ _ fb1
  replace fc1 := (same_new (o := .tup [V.int 0]) hd1) _ _ fc1
  replace fb2 := (same_new (o := .tup [V.int 0]) hd1) _ _ fb2
  replace sT := sT.trans (same_new (o := .tup [V.int 0]) hd1)
  have fd1 : (upd G24 d1 (.tup [V.int 0])) d1 = some (.tup [V.int 0]) := upd_same
  generalize upd G24 d1 (.tup [V.int 0]) = G25 at sT ha fb th fb1 fc1 fb2 fd1 ⊢
  clear hd1
  walk_at "go"
  refine ⟨by show 2 ≤ sizeLine; decide, fun d2 hd2 => ?_⟩
  have d2a : d2 ≠ a := fun z => by rw [z, ha] at hd2; cases hd2
  replace ha := (same_new (o := .tup [V.int 1, .ref d1]) hd2) _ _ ha
  replace fb := (same_new (o := .tup [V.int 1, .ref d1]) hd2) _ _ fb
  replace th := th.keep (same_new (o := .tup [V.int 1, .ref d1]) hd2)
  replace fb1 := (same_new (o := .tup [V.int 1, .ref d1]) hd2) _ _ fb1
  replace fc1 := (same_new (o := .tup [V.int 1, .ref d1]) hd2) _ _ fc1
  replace fb2 := (same_new (o := .tup [V.int 1, .ref d1]) hd2) _ _ fb2
  replace fd1 := (same_new (o := .tup [V.int 1, .ref d1]) hd2) _ _ fd1
  replace sT := sT.trans (same_new (o := .tup [V.int 1, .ref d1]) hd2)
  have fd2 : (upd G25 d2 (.tup [V.int 1, .ref d1])) d2 = some (.tup [V.int 1, .ref d1]) := upd_same
  generalize upd G25 d2 (.tup [V.int 1, .ref d1]) = G26 at sT ha fb th fb1 fc1 fb2 fd1 fd2 ⊢
  clear hd2
  walk_at "go"
  refine ⟨by show 1 ≤ sizeLine; decide, fun b3 hb3 => ?_⟩
  have b3a : b3 ≠ a := fun z => by rw [z, ha] at hb3; cases hb3
  replace ha := (same_new (o := .lst [V.ref d2]) hb3) _ _ ha
  replace fb := (same_new (o := .lst [V.ref d2]) hb3) _ _ fb
  replace th := th.keep (same_new (o := .lst [V.ref d2]) hb3)
  replace fb1 := (same_new (o := .lst [V.ref d2]) hb3) _ _ fb1
  replace fc1 := (same_new (o := .lst [V.ref d2]) hb3) _ _ fc1
  replace fb2 := (same_new (o := .lst [V.ref d2]) hb3) _ _ fb2
  replace fd1 := (same_new (o := .lst [V.ref d2]) hb3) _ _ fd1
  replace fd2 := (same_new (o := .lst [V.ref d2]) hb3) _ _ fd2
  replace sT := sT.trans (same_new (o := .lst [V.ref d2]) hb3)
  have fb3 : (upd G26 b3 (.lst [V.ref d2])) b3 = some (.lst [V.ref d2]) := upd_same
  generalize upd G26 b3 (.lst [V.ref d2]) = G27 at sT ha fb th fb1 fc1 fb2 fd1 fd2 fb3 ⊢
  clear hb3
  walk_at "go"
  refine ⟨by show 2 ≤ sizeLine; decide, fun e1 he1 => ?_⟩
  have e1a : e1 ≠ a := fun z => by rw [z, ha] at he1; cases he1
  replace ha := (same_new (o := .tup [V.int 0, .int 1]) he1) _ _ ha
  replace fb := (same_new (o := .tup [V.int 0, .int 1]) he1) _ _ fb
  replace th := th.keep (same_new (o := .tup [V.int 0, .int 1]) he1)
  replace fb1 := (same_new (o := .tup [V.int 0, .int 1]) he1) _ _ fb1
  replace fc1 := (same_new (o := .tup [V.int 0, .int 1]) he1) _ _ fc1
  replace fb2 := (same_new (o := .tup [V.int 0, .int 1]) he1) _ _ fb2
  replace fd1 := (same_new (o := .tup [V.int 0, .int 1]) he1) _ _ fd1
  replace fd2 := (same_new (o := .tup [V.int 0, .int 1]) he1) _ _ fd2
  replace fb3 := (same_new (o := .tup [V.int 0, .int 1]) he1) _ _ fb3
  replace sT := sT.trans (same_new (o := .tup [V.int 0, .int 1]) he1)
  have fe1 : (upd G27 e1 (.tup [V.int 0, .int 1])) e1 = some (.tup [V.int 0, .int 1]) := upd_same
  generalize upd G27 e1 (.tup [V.int 0, .int 1]) = G28 at sT ha fb th fb1 fc1 fb2 fd1 fd2 fb3 fe1 ⊢
  clear he1
  walk_at "go"
  refine ⟨by show 2 ≤ sizeLine; decide, fun e2 he2 => ?_⟩
  have e2a : e2 ≠ a := fun z => by rw [z, ha] at he2; cases he2
  replace ha := (same_new (o := .tup [V.int 0, .ref e1]) he2) _ _ ha
  replace fb := (same_new (o := .tup [V.int 0, .ref e1]) he2) _ _ fb
  replace th := th.keep (same_new (o := .tup [V.int 0, .ref e1]) he2)
  replace fb1 := (same_new (o := .tup [V.int 0, .ref e1]) he2) _ _ fb1
  replace fc1 := (same_new (o := .tup [V.int 0, .ref e1]) he2) _ _ fc1
  replace fb2 := (same_new (o := .tup [V.int 0, .ref e1]) he2) _ _ fb2
  replace fd1 := (same_new (o := .tup [V.int 0, .ref e1]) he2) _ _ fd1
  replace fd2 := (same_new (o := .tup [V.int 0, .ref e1]) he2) _ _ fd2
  replace fb3 := (same_new (o := .tup [V.int 0, .ref e1]) he2) _ _ fb3
  replace fe1 := (same_new (o := .tup [V.int 0, .ref e1]) he2) _ _ fe1
  replace sT := sT.trans (same_new (o := .tup [V.int 0, .ref e1]) he2)
  have fe2 : (upd G28 e2 (.tup [V.int 0, .ref e1])) e2 = some (.tup [V.int 0, .ref e1]) := upd_same
  generalize upd G28 e2 (.tup [V.int 0, .ref e1]) = G29 at sT ha fb th fb1 fc1 fb2 fd1 fd2 fb3 fe1 fe2 ⊢
  clear he2
  walk_at "go"
  refine ⟨by show 1 ≤ sizeLine; decide, fun b4 hb4 => ?_⟩
  have b4a : b4 ≠ a := fun z => by rw [z, ha] at hb4; cases hb4
  replace ha := (same_new (o := .lst [V.ref e2]) hb4) _ _ ha
  replace fb := (same_new (o := .lst [V.ref e2]) hb4) _ _ fb
  replace th := th.keep (same_new (o := .lst [V.ref e2]) hb4)
  replace fb1 := (same_new (o := .lst [V.ref e2]) hb4) _ _ fb1
  replace fc1 := (same_new (o := .lst [V.ref e2]) hb4) _ _ fc1
  replace fb2 := (same_new (o := .lst [V.ref e2]) hb4) _ _ fb2
  replace fd1 := (same_new (o := .lst [V.ref e2]) hb4) _ _ fd1
  replace fd2 := (same_new (o := .lst [V.ref e2]) hb4) _ _ fd2
  replace fb3 := (same_new (o := .lst [V.ref e2]) hb4) _ _ fb3
  replace fe1 := (same_new (o := .lst [V.ref e2]) hb4) _ _ fe1
  replace fe2 := (same_new (o := .lst [V.ref e2]) hb4) _ _ fe2
  replace sT := sT.trans (same_new (o := .lst [V.ref e2]) hb4)
  have fb4 : (upd G29 b4 (.lst [V.ref e2])) b4 = some (.lst [V.ref e2]) := upd_same
  generalize upd G29 b4 (.lst [V.ref e2]) = G30 at sT ha fb th fb1 fc1 fb2 fd1 fd2 fb3 fe1 fe2 fb4 ⊢
  clear hb4
  walk_at "go"
  refine ⟨by show 1 ≤ sizeLine; decide, fun f1 hf1 => ?_⟩
  have f1a : f1 ≠ a := fun z => by rw [z, ha] at hf1; cases hf1
  replace ha := (same_new (o := .tup [V.int 0]) hf1) _ _ ha
  replace fb := (same_new (o := .tup [V.int 0]) hf1) _ _ fb
  replace th := th.keep (same_new (o := .tup [V.int 0]) hf1)
  replace fb1 := (same_new (o := .tup [V.int 0]) hf1) _ _ fb1
  replace fc1 := (same_new (o := .tup [V.int 0]) hf1) _ _ fc1
  replace fb2 := (same_new (o := .tup [V.int 0]) hf1) _ _ fb2
  replace fd1 := (same_new (o := .tup [V.int 0]) hf1) _ _ fd1
  replace fd2 := (same_new (o := .tup [V.int 0]) hf1) _ _ fd2
  replace fb3 := (same_new (o := .tup [V.int 0]) hf1) _ _ fb3
  replace fe1 := (same_new (o := .tup [V.int 0]) hf1) _ _ fe1
  replace fe2 := (same_new (o := .tup [V.int 0]) hf1) _ _ fe2
  replace fb4 := (same_new (o := .tup [V.int 0]) hf1) _ _ fb4
  replace sT := sT.trans (same_new (o := .tup [V.int 0]) hf1)
  have ff1 : (upd G30 f1 (.tup [V.int 0])) f1 = some (.tup [V.int 0]) := upd_same
  generalize upd G30 f1 (.tup [V.int 0]) = G31 at sT ha fb th fb1 fc1 fb2 fd1 fd2 fb3 fe1 fe2 fb4 ff1 ⊢
  clear hf1
  walk_at "go"
  refine ⟨by show 2 ≤ sizeLine; decide, fun f2 hf2 => ?_⟩
  have f2a : f2 ≠ a := fun z => by rw [z, ha] at hf2; cases hf2
  replace ha := (same_new (o := .tup [V.int 0, .ref f1]) hf2) _ _ ha
  replace fb := (same_new (o := .tup [V.int 0, .ref f1]) hf2) _ _ fb
  replace th := th.keep (same_new (o := .tup [V.int 0, .ref f1]) hf2)
  replace fb1 := (same_new (o := .tup [V.int 0, .ref f1]) hf2) _ _ fb1
  replace fc1 := (same_new (o := .tup [V.int 0, .ref f1]) hf2) _ _ fc1
  replace fb2 := (same_new (o := .tup [V.int 0, .ref f1]) hf2) _ _ fb2
  replace fd1 := (same_new (o := .tup [V.int 0, .ref f1]) hf2) _ _ fd1
  replace fd2 := (same_new (o := .tup [V.int 0, .ref f1]) hf2) _ _ fd2
  replace fb3 := (same_new (o := .tup [V.int 0, .ref f1]) hf2) _ _ fb3
  replace fe1 := (same_new (o := .tup [V.int 0, .ref f1]) hf2) _ _ fe1
  replace fe2 := (same_new (o := .tup [V.int 0, .ref f1]) hf2) _ _ fe2
  replace fb4 := (same_new (o := .tup [V.int 0, .ref f1]) hf2) _ _ fb4
  replace ff1 := (same_new (o := .tup [V.int 0, .ref f1]) hf2) _ _ ff1
  replace sT := sT.trans (same_new (o := .tup [V.int 0, .ref f1]) hf2)
  have ff2 : (upd G31 f2 (.tup [V.int 0, .ref f1])) f2 = some (.tup [V.int 0, .ref f1]) := upd_same
  generalize upd G31 f2 (.tup [V.int 0, .ref f1]) = G32 at sT ha fb th fb1 fc1 fb2 fd1 fd2 fb3 fe1 fe2 fb4 ff1 ff2 ⊢
  clear hf2
  walk_at "go"
  refine ⟨by show 1 ≤ sizeLine; decide, fun f3 hf3 => ?_⟩
  have f3a : f3 ≠ a := fun z => by rw [z, ha] at hf3; cases hf3
  replace ha := (same_new (o := .tup [V.int 1]) hf3) _ _ ha
  replace fb := (same_new (o := .tup [V.int 1]) hf3) _ _ fb
  replace th := th.keep (same_new (o := .tup [V.int 1]) hf3)
  replace fb1 := (same_new (o := .tup [V.int 1]) hf3) _ _ fb1
  replace fc1 := (same_new (o := .tup [V.int 1]) hf3) _ _ fc1
  replace fb2 := (same_new (o := .tup [V.int 1]) hf3) _ _ fb2
  replace fd1 := (same_new (o := .tup [V.int 1]) hf3) _ _ fd1
  replace fd2 := (same_new (o := .tup [V.int 1]) hf3) _ _ fd2
  replace fb3 := (same_new (o := .tup [V.int 1]) hf3) _ _ fb3
  replace fe1 := (same_new (o := .tup [V.int 1]) hf3) _ _ fe1
  replace fe2 := (same_new (o := .tup [V.int 1]) hf3) _ _ fe2
  replace fb4 := (same_new (o := .tup [V.int 1]) hf3) _ _ fb4
  replace ff1 := (same_new (o := .tup [V.int 1]) hf3) _ _ ff1
  replace ff2 := (same_new (o := .tup [V.int 1]) hf3) _ _ ff2
  replace sT := sT.trans (same_new (o := .tup [V.int 1]) hf3)
  have ff3 : (upd G32 f3 (.tup [V.int 1])) f3 = some (.tup [V.int 1]) := upd_same
  generalize upd G32 f3 (.tup [V.int 1]) = G33 at sT ha fb th fb1 fc1 fb2 fd1 fd2 fb3 fe1 fe2 fb4 ff1 ff2 ff3 ⊢
  clear hf3
  walk_at "go"
  refine ⟨by show 2 ≤ sizeLine; decide, fun f4 hf4 => ?_⟩
  have f4a : f4 ≠ a := fun z => by rw [z, ha] at hf4; cases hf4
  replace ha := (same_new (o := .tup [V.int 1, .ref f3]) hf4) _ _ ha
  replace fb := (same_new (o := .tup [V.int 1, .ref f3]) hf4) _ _ fb
  replace th := th.keep (same_new (o := .tup [V.int 1, .ref f3]) hf4)
  replace fb1 := (same_new (o := .tup [V.int 1, .ref f3]) hf4) _ _ fb1
  replace fc1 := (same_new (o := .tup [V.int 1, .ref f3]) hf4) _ _ fc1
  replace fb2 := (same_new (o := .tup [V.int 1, .ref f3]) hf4) _ _ fb2
  replace fd1 := (same_new (o := .tup [V.int 1, .ref f3]) hf4) _ _ fd1
  replace fd2 := (same_new (o := .tup [V.int 1, .ref f3]) hf4) _ _ fd2
  replace fb3 := (same_new (o := .tup [V.int 1, .ref f3]) hf4) _ _ fb3
  replace fe1 := (same_new (o := .tup [V.int 1, .ref f3]) hf4) _ _ fe1
  replace fe2 := (same_new (o := .tup [V.int 1, .ref f3]) hf4) _ _ fe2
  replace fb4 := (same_new (o := .tup [V.int 1, .ref f3]) hf4) _ _ fb4
  replace ff1 := (same_new (o := .tup [V.int 1, .ref f3]) hf4) _ _ ff1
  replace ff2 := (same_new (o := .tup [V.int 1, .ref f3]) hf4) _ _ ff2
  replace ff3 := (same_new (o := .tup [V.int 1, .ref f3]) hf4) _ _ ff3
  replace sT := sT.trans (same_new (o := .tup [V.int 1, .ref f3]) hf4)
  have ff4 : (upd G33 f4 (.tup [V.int 1, .ref f3])) f4 = some (.tup [V.int 1, .ref f3]) := upd_same
  generalize upd G33 f4 (.tup [V.int 1, .ref f3]) = G34 at sT ha fb th fb1 fc1 fb2 fd1 fd2 fb3 fe1 fe2 fb4 ff1 ff2 ff3 ff4 ⊢
  clear hf4
  walk_at "go"
  refine ⟨by show 2 ≤ sizeLine; decide, fun b5 hb5 => ?_⟩
  have b5a : b5 ≠ a := fun z => by rw [z, ha] at hb5; cases hb5
  replace ha := (same_new (o := .lst [V.ref f2, .ref f4]) hb5) _ _ ha
  replace fb := (same_new (o := .lst [V.ref f2, .ref f4]) hb5) _ _ fb
  replace th := th.keep (same_new (o := .lst [V.ref f2, .ref f4]) hb5)
  replace fb1 := (same_new (o := .lst [V.ref f2, .ref f4]) hb5) _ _ fb1
  replace fc1 := (same_new (o := .lst [V.ref f2, .ref f4]) hb5) _ _ fc1
  replace fb2 := (same_new (o := .lst [V.ref f2, .ref f4]) hb5) _ _ fb2
  replace fd1 := (same_new (o := .lst [V.ref f2, .ref f4]) hb5) _ _ fd1
  replace fd2 := (same_new (o := .lst [V.ref f2, .ref f4]) hb5) _ _ fd2
  replace fb3 := (same_new (o := .lst [V.ref f2, .ref f4]) hb5) _ _ fb3
  replace fe1 := (same_new (o := .lst [V.ref f2, .ref f4]) hb5) _ _ fe1
  replace fe2 := (same_new (o := .lst [V.ref f2, .ref f4]) hb5) _ _ fe2
  replace fb4 := (same_new (o := .lst [V.ref f2, .ref f4]) hb5) _ _ fb4
  replace ff1 := (same_new (o := .lst [V.ref f2, .ref f4]) hb5) _ _ ff1
  replace ff2 := (same_new (o := .lst [V.ref f2, .ref f4]) hb5) _ _ ff2
  replace ff3 := (same_new (o := .lst [V.ref f2, .ref f4]) hb5) _ _ ff3
  replace ff4 := (same_new (o := .lst [V.ref f2, .ref f4]) hb5) _ _ ff4
  replace sT := sT.trans (same_new (o := .lst [V.ref f2, .ref f4]) hb5)
  have fb5 : (upd G34 b5 (.lst [V.ref f2, .ref f4])) b5 = some (.lst [V.ref f2, .ref f4]) := upd_same
  generalize upd G34 b5 (.lst [V.ref f2, .ref f4]) = G35 at sT ha fb th fb1 fc1 fb2 fd1 fd2 fb3 fe1 fe2 fb4 ff1 ff2 ff3 ff4 fb5 ⊢
  clear hb5
  walk_at "go"
  refine ⟨by show 2 ≤ sizeLine; decide, fun g1 hg1 => ?_⟩
  have g1a : g1 ≠ a := fun z => by rw [z, ha] at hg1; cases hg1
  replace ha := (same_new (o := .tup [V.int 0, .int 1]) hg1) _ _ ha
  replace fb := (same_new (o := .tup [V.int 0, .int 1]) hg1) _ _ fb
  replace th := th.keep (same_new (o := .tup [V.int 0, .int 1]) hg1)
  replace fb1 := (same_new (o := .tup [V.int 0, .int 1]) hg1) _ _ fb1
  replace fc1 := (same_new (o := .tup [V.int 0, .int 1]) hg1) _ _ fc1
  replace fb2 := (same_new (o := .tup [V.int 0, .int 1]) hg1) _ _ fb2
  replace fd1 := (same_new (o := .tup [V.int 0, .int 1]) hg1) _ _ fd1
  replace fd2 := (same_new (o := .tup [V.int 0, .int 1]) hg1) _ _ fd2
  replace fb3 := (same_new (o := .tup [V.int 0, .int 1]) hg1) _ _ fb3
  replace fe1 := (same_new (o := .tup [V.int 0, .int 1]) hg1) _ _ fe1
  replace fe2 := (same_new (o := .tup [V.int 0, .int 1]) hg1) _ _ fe2
  replace fb4 := (same_new (o := .tup [V.int 0, .int 1]) hg1) _ _ fb4
  replace ff1 := (same_new (o := .tup [V.int 0, .int 1]) hg1) _ _ ff1
  replace ff2 := (same_new (o := .tup [V.int 0, .int 1]) hg1) _ _ ff2
  replace ff3 := (same_new (o := .tup [V.int 0, .int 1]) hg1) _ _ ff3
  replace ff4 := (same_new (o := .tup [V.int 0, .int 1]) hg1) _ _ ff4
  replace fb5 := (same_new (o := .tup [V.int 0, .int 1]) hg1) _ _ fb5
  replace sT := sT.trans (same_new (o := .tup [V.int 0, .int 1]) hg1)
  have fg1 : (upd G35 g1 (.tup [V.int 0, .int 1])) g1 = some (.tup [V.int 0, .int 1]) := upd_same
  generalize upd G35 g1 (.tup [V.int 0, .int 1]) = G36 at sT ha fb th fb1 fc1 fb2 fd1 fd2 fb3 fe1 fe2 fb4 ff1 ff2 ff3 ff4 fb5 fg1 ⊢
  clear hg1
  walk_at "go"
  refine ⟨by show 2 ≤ sizeLine; decide, fun g2 hg2 => ?_⟩
  have g2a : g2 ≠ a := fun z => by rw [z, ha] at hg2; cases hg2
  replace ha := (same_new (o := .tup [V.int 1, .ref g1]) hg2) _ _ ha
  replace fb := (same_new (o := .tup [V.int 1, .ref g1]) hg2) _ _ fb
  replace th := th.keep (same_new (o := .tup [V.int 1, .ref g1]) hg2)
  replace fb1 := (same_new (o := .tup [V.int 1, .ref g1]) hg2) _ _ fb1
  replace fc1 := (same_new (o := .tup [V.int 1, .ref g1]) hg2) _ _ fc1
  replace fb2 := (same_new (o := .tup [V.int 1, .ref g1]) hg2) _ _ fb2
  replace fd1 := (same_new (o := .tup [V.int 1, .ref g1]) hg2) _ _ fd1
  replace fd2 := (same_new (o := .tup [V.int 1, .ref g1]) hg2) _ _ fd2
  replace fb3 := (same_new (o := .tup [V.int 1, .ref g1]) hg2) _ _ fb3
  replace fe1 := (same_new (o := .tup [V.int 1, .ref g1]) hg2) _ _ fe1
  replace fe2 := (same_new (o := .tup [V.int 1, .ref g1]) hg2) _ _ fe2
  replace fb4 := (same_new (o := .tup [V.int 1, .ref g1]) hg2) _ _ fb4
  replace ff1 := (same_new (o := .tup [V.int 1, .ref g1]) hg2) _ _ ff1
  replace ff2 := (same_new (o := .tup [V.int 1, .ref g1]) hg2) _ _ ff2
  replace ff3 := (same_new (o := .tup [V.int 1, .ref g1]) hg2) _ _ ff3
  replace ff4 := (same_new (o := .tup [V.int 1, .ref g1]) hg2) _ _ ff4
  replace fb5 := (same_new (o := .tup [V.int 1, .ref g1]) hg2) _ _ fb5
  replace fg1 := (same_new (o := .tup [V.int 1, .ref g1]) hg2) _ _ fg1
  replace sT := sT.trans (same_new (o := .tup [V.int 1, .ref g1]) hg2)
  have fg2 : (upd G36 g2 (.tup [V.int 1, .ref g1])) g2 = some (.tup [V.int 1, .ref g1]) := upd_same
  generalize upd G36 g2 (.tup [V.int 1, .ref g1]) = G37 at sT ha fb th fb1 fc1 fb2 fd1 fd2 fb3 fe1 fe2 fb4 ff1 ff2 ff3 ff4 fb5 fg1 fg2 ⊢
  clear hg2
  walk_at "go"
  refine ⟨by show 2 ≤ sizeLine; decide, fun g3 hg3 => ?_⟩
  have g3a : g3 ≠ a := fun z => by rw [z, ha] at hg3; cases hg3
  replace ha := (same_new (o := .tup [V.int 0, .int 1]) hg3) _ _ ha
  replace fb := (same_new (o := .tup [V.int 0, .int 1]) hg3) _ _ fb
  replace th := th.keep (same_new (o := .tup [V.int 0, .int 1]) hg3)
  replace fb1 := (same_new (o := .tup [V.int 0, .int 1]) hg3) _ _ fb1
  replace fc1 := (same_new (o := .tup [V.int 0, .int 1]) hg3) _ _ fc1
  replace fb2 := (same_new (o := .tup [V.int 0, .int 1]) hg3) _ _ fb2
  replace fd1 := (same_new (o := .tup [V.int 0, .int 1]) hg3) _ _ fd1
  replace fd2 := (same_new (o := .tup [V.int 0, .int 1]) hg3) _ _ fd2
  replace fb3 := (same_new (o := .tup [V.int 0, .int 1]) hg3) _ _ fb3
  replace fe1 := (same_new (o := .tup [V.int 0, .int 1]) hg3) _ _ fe1
  replace fe2 := (same_new (o := .tup [V.int 0, .int 1]) hg3) _ _ fe2
  replace fb4 := (same_new (o := .tup [V.int 0, .int 1]) hg3) _ _ fb4
  replace ff1 := (same_new (o := .tup [V.int 0, .int 1]) hg3) _ _ ff1
  replace ff2 := (same_new (o := .tup [V.int 0, .int 1]) hg3) _ _ ff2
  replace ff3 := (same_new (o := .tup [V.int 0, .int 1]) hg3) _ _ ff3
  replace ff4 := (same_new (o := .tup [V.int 0, .int 1]) hg3) _ _ ff4
  replace fb5 := (same_new (o := .tup [V.int 0, .int 1]) hg3) _ _ fb5
  replace fg1 := (same_new (o := .tup [V.int 0, .int 1]) hg3) _ _ fg1
  replace fg2 := (same_new (o := .tup [V.int 0, .int 1]) hg3) _ _ fg2
  replace sT := sT.trans (same_new (o := .tup [V.int 0, .int 1]) hg3)
  have fg3 : (upd G37 g3 (.tup [V.int 0, .int 1])) g3 = some (.tup [V.int 0, .int 1]) := upd_same
  generalize upd G37 g3 (.tup [V.int 0, .int 1]) = G38 at sT ha fb th fb1 fc1 fb2 fd1 fd2 fb3 fe1 fe2 fb4 ff1 ff2 ff3 ff4 fb5 fg1 fg2 fg3 ⊢
  clear hg3
  walk_at "go"
  refine ⟨by show 2 ≤ sizeLine; decide, fun g4 hg4 => ?_⟩
  have g4a : g4 ≠ a := fun z => by rw [z, ha] at hg4; cases hg4
  replace ha := (same_new (o := .tup [V.int 0, .ref g3]) hg4) _ _ ha
  replace fb := (same_new (o := .tup [V.int 0, .ref g3]) hg4) _ _ fb
  replace th := th.keep (same_new (o := .tup [V.int 0, .ref g3]) hg4)
  replace fb1 := (same_new (o := .tup [V.int 0, .ref g3]) hg4) _ _ fb1
  replace fc1 := (same_new (o := .tup [V.int 0, .ref g3]) hg4) _ _ fc1
  replace fb2 := (same_new (o := .tup [V.int 0, .ref g3]) hg4) _ _ fb2
  replace fd1 := (same_new (o := .tup [V.int 0, .ref g3]) hg4) _ _ fd1
  replace fd2 := (same_new (o := .tup [V.int 0, .ref g3]) hg4) _ _ fd2
  replace fb3 := (same_new (o := .tup [V.int 0, .ref g3]) hg4) _ _ fb3
  replace fe1 := (same_new (o := .tup [V.int 0, .ref g3]) hg4) _ _ fe1
  replace fe2 := (same_new (o := .tup [V.int 0, .ref g3]) hg4) _ _ fe2
  replace fb4 := (same_new (o := .tup [V.int 0, .ref g3]) hg4) _ _ fb4
  replace ff1 := (same_new (o := .tup [V.int 0, .ref g3]) hg4) _ _ ff1
  replace ff2 := (same_new (o := .tup [V.int 0, .ref g3]) hg4) _ _ ff2
  replace ff3 := (same_new (o := .tup [V.int 0, .ref g3]) hg4) _ _ ff3
  replace ff4 := (same_new (o := .tup [V.int 0, .ref g3]) hg4) _ _ ff4
  replace fb5 := (same_new (o := .tup [V.int 0, .ref g3]) hg4) _ _ fb5
  replace fg1 := (same_new (o := .tup [V.int 0, .ref g3]) hg4) _ _ fg1
  replace fg2 := (same_new (o := .tup [V.int 0, .ref g3]) hg4) _ _ fg2
  replace fg3 := (same_new (o := .tup [V.int 0, .ref g3]) hg4) _ _ fg3
  replace sT := sT.trans (same_new (o := .tup [V.int 0, .ref g3]) hg4)
  have fg4 : (upd G38 g4 (.tup [V.int 0, .ref g3])) g4 = some (.tup [V.int 0, .ref g3]) := upd_same
  generalize upd G38 g4 (.tup [V.int 0, .ref g3]) = G39 at sT ha fb th fb1 fc1 fb2 fd1 fd2 fb3 fe1 fe2 fb4 ff1 ff2 ff3 ff4 fb5 fg1 fg2 fg3 fg4 ⊢
  clear hg4
  walk_at "go"
  refine ⟨by show 2 ≤ sizeLine; decide, fun b6 hb6 => ?_⟩
  have b6a : b6 ≠ a := fun z => by rw [z, ha] at hb6; cases hb6
  replace ha := (same_new (o := .lst [V.ref g2, .ref g4]) hb6) _ _ ha
  replace fb := (same_new (o := .lst [V.ref g2, .ref g4]) hb6) _ _ fb
  replace th := th.keep (same_new (o := .lst [V.ref g2, .ref g4]) hb6)
  replace fb1 := (same_new (o := .lst [V.ref g2, .ref g4]) hb6) _ _ fb1
  replace fc1 := (same_new (o := .lst [V.ref g2, .ref g4]) hb6) _ _ fc1
  replace fb2 := (same_new (o := .lst [V.ref g2, .ref g4]) hb6) _ _ fb2
  replace fd1 := (same_new (o := .lst [V.ref g2, .ref g4]) hb6) _ _ fd1
  replace fd2 := (same_new (o := .lst [V.ref g2, .ref g4]) hb6) _ _ fd2
  replace fb3 := (same_new (o := .lst [V.ref g2, .ref g4]) hb6) _ _ fb3
  replace fe1 := (same_new (o := .lst [V.ref g2, .ref g4]) hb6) _ _ fe1
  replace fe2 := (same_new (o := .lst [V.ref g2, .ref g4]) hb6) _ _ fe2
  replace fb4 := (same_new (o := .lst [V.ref g2, .ref g4]) hb6) _ _ fb4
  replace ff1 := (same_new (o := .lst [V.ref g2, .ref g4]) hb6) _ _ ff1
  replace ff2 := (same_new (o := .lst [V.ref g2, .ref g4]) hb6) _ _ ff2
  replace ff3 := (same_new (o := .lst [V.ref g2, .ref g4]) hb6) _ _ ff3
  replace ff4 := (same_new (o := .lst [V.ref g2, .ref g4]) hb6) _ _ ff4
  replace fb5 := (same_new (o := .lst [V.ref g2, .ref g4]) hb6) _ _ fb5
  replace fg1 := (same_new (o := .lst [V.ref g2, .ref g4]) hb6) _ _ fg1
  replace fg2 := (same_new (o := .lst [V.ref g2, .ref g4]) hb6) _ _ fg2
  replace fg3 := (same_new (o := .lst [V.ref g2, .ref g4]) hb6) _ _ fg3
  replace fg4 := (same_new (o := .lst [V.ref g2, .ref g4]) hb6) _ _ fg4
  replace sT := sT.trans (same_new (o := .lst [V.ref g2, .ref g4]) hb6)
  have fb6 : (upd G39 b6 (.lst [V.ref g2, .ref g4])) b6 = some (.lst [V.ref g2, .ref g4]) := upd_same
  generalize upd G39 b6 (.lst [V.ref g2, .ref g4]) = G40 at sT ha fb th fb1 fc1 fb2 fd1 fd2 fb3 fe1 fe2 fb4 ff1 ff2 ff3 ff4 fb5 fg1 fg2 fg3 fg4 fb6 ⊢
  clear hb6
  walk_at "go"
  refine ⟨by show 9 ≤ sizeLine; decide, fun b7 hb7 => ?_⟩
  have b7a : b7 ≠ a := fun z => by rw [z, ha] at hb7; cases hb7
  replace ha := (same_new (o := .lst [V.int 5, .non, .ref b1, .str "a", .ref b2, .ref b3, .ref b4, .ref b5, .ref b6]) hb7) _ _ ha
  replace fb := (same_new (o := .lst [V.int 5, .non, .ref b1, .str "a", .ref b2, .ref b3, .ref b4, .ref b5, .ref b6]) hb7) _ _ fb
  replace th := th.keep (same_new (o := .lst [V.int 5, .non, .ref b1, .str "a", .ref b2, .ref b3, .ref b4, .ref b5, .ref b6]) hb7)
  replace fb1 := (same_new (o := .lst [V.int 5, .non, .ref b1, .str "a", .ref b2, .ref b3, .ref b4, .ref b5, .ref b6]) hb7) _ _ fb1
  replace fc1 := (same_new (o := .lst [V.int 5, .non, .ref b1, .str "a", .ref b2, .ref b3, .ref b4, .ref b5, .ref b6]) hb7) _ _ fc1
  replace fb2 := (same_new (o := .lst [V.int 5, .non, .ref b1, .str "a", .ref b2, .ref b3, .ref b4, .ref b5, .ref b6]) hb7) _ _ fb2
  replace fd1 := (same_new (o := .lst [V.int 5, .non, .ref b1, .str "a", .ref b2, .ref b3, .ref b4, .ref b5, .ref b6]) hb7) _ _ fd1
  replace fd2 := (same_new (o := .lst [V.int 5, .non, .ref b1, .str "a", .ref b2, .ref b3, .ref b4, .ref b5, .ref b6]) hb7) _ _ fd2
  replace fb3 := (same_new (o := .lst [V.int 5, .non, .ref b1, .str "a", .ref b2, .ref b3, .ref b4, .ref b5, .ref b6]) hb7) _ _ fb3
  replace fe1 := (same_new (o := .lst [V.int 5, .non, .ref b1, .str "a", .ref b2, .ref b3, .ref b4, .ref b5, .ref b6]) hb7) _ _ fe1
  replace fe2 := (same_new (o := .lst [V.int 5, .non, .ref b1, .str "a", .ref b2, .ref b3, .ref b4, .ref b5, .ref b6]) hb7) _ _ fe2
  replace fb4 := (same_new (o := .lst [V.int 5, .non, .ref b1, .str "a", .ref b2, .ref b3, .ref b4, .ref b5, .ref b6]) hb7) _ _ fb4
  replace ff1 := (same_new (o := .lst [V.int 5, .non, .ref b1, .str "a", .ref b2, .ref b3, .ref b4, .ref b5, .ref b6]) hb7) _ _ ff1
  replace ff2 := (same_new (o := .lst [V.int 5, .non, .ref b1, .str "a", .ref b2, .ref b3, .ref b4, .ref b5, .ref b6]) hb7) _ _ ff2
  replace ff3 := (same_new (o := .lst [V.int 5, .non, .ref b1, .str "a", .ref b2, .ref b3, .ref b4, .ref b5, .ref b6]) hb7) _ _ ff3
  replace ff4 := (same_new (o := .lst [V.int 5, .non, .ref b1, .str "a", .ref b2, .ref b3, .ref b4, .ref b5, .ref b6]) hb7) _ _ ff4
  replace fb5 := (same_new (o := .lst [V.int 5, .non, .ref b1, .str "a", .ref b2, .ref b3, .ref b4, .ref b5, .ref b6]) hb7) _ _ fb5
  replace fg1 := (same_new (o := .lst [V.int 5, .non, .ref b1, .str "a", .ref b2, .ref b3, .ref b4, .ref b5, .ref b6]) hb7) _ _ fg1
  replace fg2 := (same_new (o := .lst [V.int 5, .non, .ref b1, .str "a", .ref b2, .ref b3, .ref b4, .ref b5, .ref b6]) hb7) _ _ fg2
  replace fg3 := (same_new (o := .lst [V.int 5, .non, .ref b1, .str "a", .ref b2, .ref b3, .ref b4, .ref b5, .ref b6]) hb7) _ _ fg3
  replace fg4 := (same_new (o := .lst [V.int 5, .non, .ref b1, .str "a", .ref b2, .ref b3, .ref b4, .ref b5, .ref b6]) hb7) _ _ fg4
  replace fb6 := (same_new (o := .lst [V.int 5, .non, .ref b1, .str "a", .ref b2, .ref b3, .ref b4, .ref b5, .ref b6]) hb7) _ _ fb6
  replace sT := sT.trans (same_new (o := .lst [V.int 5, .non, .ref b1, .str "a", .ref b2, .ref b3, .ref b4, .ref b5, .ref b6]) hb7)
  have fb7 : (upd G40 b7 (.lst [V.int 5, .non, .ref b1, .str "a", .ref b2, .ref b3, .ref b4, .ref b5, .ref b6])) b7 = some (.lst [V.int 5, .non, .ref b1, .str "a", .ref b2, .ref b3, .ref b4, .ref b5, .ref b6]) := upd_same
  generalize upd G40 b7 (.lst [V.int 5, .non, .ref b1, .str "a", .ref b2, .ref b3, .ref b4, .ref b5, .ref b6]) = G41 at sT ha fb th fb1 fc1 fb2 fd1 fd2 fb3 fe1 fe2 fb4 ff1 ff2 ff3 ff4 fb5 fg1 fg2 fg3 fg4 fb6 fb7 ⊢
  clear hb7
  walk_at "go"
  refine ⟨a, ns9, 9, rfl, ha, by omega, by decide, fun r42 ns42 G42 a42 b42 l42 hA s => ?_⟩
  replace fb := s _ _ ba fb
  replace th := th.but s ha
  replace fb1 := s _ _ b1a fb1
  replace fc1 := s _ _ c1a fc1
  replace fb2 := s _ _ b2a fb2
  replace fd1 := s _ _ d1a fd1
  replace fd2 := s _ _ d2a fd2
  replace fb3 := s _ _ b3a fb3
  replace fe1 := s _ _ e1a fe1
  replace fe2 := s _ _ e2a fe2
  replace fb4 := s _ _ b4a fb4
  replace ff1 := s _ _ f1a ff1
  replace ff2 := s _ _ f2a ff2
  replace ff3 := s _ _ f3a ff3
  replace ff4 := s _ _ f4a ff4
  replace fb5 := s _ _ b5a fb5
  replace fg1 := s _ _ g1a fg1
  replace fg2 := s _ _ g2a fg2
  replace fg3 := s _ _ g3a fg3
  replace fg4 := s _ _ g4a fg4
  replace fb6 := s _ _ b6a fb6
  replace fb7 := s _ _ b7a fb7
  replace ha := hA
  replace sB := (sB.trans (SameBut.of sT)).trans s
  clear sT
  have sT : Same G42 G42 := Same.refl _
  have lt42 : ns42.length ≤ ns.length := by omega
  clear s hA
  obtain ⟨one, eone, hbad⟩ := bad_at (K := K) fb1 fc1 fb2 fd1 fd2 fb3 fe1 fe2 fb4 ff1 ff2 ff3 ff4 fb5 fg1 fg2 fg3 fg4 fb6 a42 b42
  refine r_ixL (SqL.of fb7) eone ?_
  clear eone
  walk_at "go"
  clear th fb1 fc1 fb2 fd1 fd2 fb3 fe1 fe2 fb4 ff1 ff2 ff3 ff4 fb5 fg1 fg2 fg3 fg4 fb6 fb7
  refine ⟨"from", one, "round", .int (-1), rfl, .sched hbad, fun t H43 s htn ht => ?_⟩
  walk_at "go"
  refine ⟨by show 2 ≤ sizeLine; decide, fun t2 ht2 => ?_⟩
  have s9 := same_new (o := .tup [.str "round", .int (-1)]) ht2
  refine r_neSame (dp_tag (s9 _ _ ht) (.int _)) (dp_tag upd_same (.int _)) (okd_tag2 (by decide +kernel) ((okd_int _).up (by decide))) (by decide) ?_
  replace ha := (s.trans s9) _ _ ha
  replace fb := (s.trans s9) _ _ fb
  replace hbad := hbad.keep (s.trans s9)
  replace sT := sT.trans (s.trans s9)
  clear s s9 ht htn
  generalize upd H43 t2 _ = G43 at sT ha fb hbad ⊢
  clear ht2
  walk_at "go"
  refine ⟨"waits", one, "round", .int (-1), rfl, .waits hbad, fun t H44 s htn ht => ?_⟩
  walk_at "go"
  refine ⟨by show 2 ≤ sizeLine; decide, fun t2 ht2 => ?_⟩
  have s9 := same_new (o := .tup [.str "round", .int (-1)]) ht2
  refine r_neSame (dp_tag (s9 _ _ ht) (.int _)) (dp_tag upd_same (.int _)) (okd_tag2 (by decide +kernel) ((okd_int _).up (by decide))) (by decide) ?_
  replace ha := (s.trans s9) _ _ ha
  replace fb := (s.trans s9) _ _ fb
  replace hbad := hbad.keep (s.trans s9)
  replace sT := sT.trans (s.trans s9)
  clear s s9 ht htn
  generalize upd H44 t2 _ = G44 at sT ha fb hbad ⊢
  clear ht2
  walk_at "go"
  clear hbad
  refine ⟨by show 1 ≤ sizeLine; decide, fun q1 hq1 => ?_⟩
  replace ha := (same_new (o := .lst [V.int 7]) hq1) _ _ ha
  replace fb := (same_new (o := .lst [V.int 7]) hq1) _ _ fb
  replace sT := sT.trans (same_new (o := .lst [V.int 7]) hq1)
  have fq1 : (upd G44 q1 (.lst [V.int 7])) q1 = some (.lst [V.int 7]) := upd_same
  generalize upd G44 q1 (.lst [V.int 7]) = G45 at sT ha fb fq1 ⊢
  clear hq1
  walk_at "go"
  refine ⟨by show 2 ≤ sizeLine; decide, fun q2 hq2 => ?_⟩
  replace ha := (same_new (o := .tup [V.int 7, .ref q1]) hq2) _ _ ha
  replace fb := (same_new (o := .tup [V.int 7, .ref q1]) hq2) _ _ fb
  replace fq1 := (same_new (o := .tup [V.int 7, .ref q1]) hq2) _ _ fq1
  replace sT := sT.trans (same_new (o := .tup [V.int 7, .ref q1]) hq2)
  have fq2 : (upd G45 q2 (.tup [V.int 7, .ref q1])) q2 = some (.tup [V.int 7, .ref q1]) := upd_same
  generalize upd G45 q2 (.tup [V.int 7, .ref q1]) = G46 at sT ha fb fq1 fq2 ⊢
  clear hq2
  walk_at "go"
  refine ⟨by show 1 ≤ sizeLine; decide, fun q3 hq3 => ?_⟩
  replace ha := (same_new (o := .lst [V.ref q2]) hq3) _ _ ha
  replace fb := (same_new (o := .lst [V.ref q2]) hq3) _ _ fb
  replace fq1 := (same_new (o := .lst [V.ref q2]) hq3) _ _ fq1
  replace fq2 := (same_new (o := .lst [V.ref q2]) hq3) _ _ fq2
  replace sT := sT.trans (same_new (o := .lst [V.ref q2]) hq3)
  have fq3 : (upd G46 q3 (.lst [V.ref q2])) q3 = some (.lst [V.ref q2]) := upd_same
  generalize upd G46 q3 (.lst [V.ref q2]) = G47 at sT ha fb fq1 fq2 fq3 ⊢
  clear hq3
  walk_at "go"
  refine ⟨.ref q3, rfl, .inr ⟨q3, [⟨q2, 7, q1, [7]⟩], rfl, ⟨⟨SqX.L fq3, fun t ht => by rw [List.mem_singleton.mp ht]; exact ⟨SqX.T fq2, SqX.L fq1⟩⟩, by simp, fun t ht => (by rw [List.mem_singleton.mp ht]; simp), rfl⟩, fun H6 s6 => ?_⟩⟩
  walk_at "go"
  refine ⟨true, true, rfl, rfl, ?_⟩
  replace ha := s6 _ _ ha
  replace fb := s6 _ _ fb
  replace fq1 := s6 _ _ fq1
  replace fq2 := s6 _ _ fq2
  replace fq3 := s6 _ _ fq3
  replace sT := sT.trans s6
  clear s6
  clear fq1 fq2 fq3
  refine ⟨_, rfl, ?_⟩
  refine ite_yes (by decide) ?_
  walk_at "go"
  refine ⟨by show 0 ≤ sizeLine; decide, fun q1 hq1 => ?_⟩
  replace ha := (same_new (o := .tup []) hq1) _ _ ha
  replace fb := (same_new (o := .tup []) hq1) _ _ fb
  replace sT := sT.trans (same_new (o := .tup []) hq1)
  have fq1 : (upd H6 q1 (.tup [])) q1 = some (.tup []) := upd_same
  generalize upd H6 q1 (.tup []) = G48 at sT ha fb fq1 ⊢
  clear hq1
  walk_at "go"
  refine ⟨.ref q1, rfl, .inr ⟨q1, 60, [], rfl, SqX.T fq1, fun c hc => (by cases hc), by decide, fun t H7 s7 ht => ?_⟩⟩
  rw [lr_nil1, lr_nil2] at ht
  walk_at "go"
  replace ha := s7 _ _ ha
  replace fb := s7 _ _ fb
  replace fq1 := s7 _ _ fq1
  replace sT := sT.trans s7
  clear s7
  clear fq1
  refine ⟨by show 0 ≤ sizeLine; decide, fun j1 hj1 => ?_⟩
  replace ha := (same_new (o := .tup []) hj1) _ _ ha
  replace fb := (same_new (o := .tup []) hj1) _ _ fb
  replace ht := ht.keep (same_new (o := .tup []) hj1)
  replace sT := sT.trans (same_new (o := .tup []) hj1)
  have fj1 : (upd H7 j1 (.tup [])) j1 = some (.tup []) := upd_same
  generalize upd H7 j1 (.tup []) = G49 at sT ha fb ht fj1 ⊢
  clear hj1
  walk_at "go"
  refine ⟨by show 0 ≤ sizeLine; decide, fun j2 hj2 => ?_⟩
  replace ha := (same_new (o := .tup []) hj2) _ _ ha
  replace fb := (same_new (o := .tup []) hj2) _ _ fb
  replace ht := ht.keep (same_new (o := .tup []) hj2)
  replace fj1 := (same_new (o := .tup []) hj2) _ _ fj1
  replace sT := sT.trans (same_new (o := .tup []) hj2)
  have fj2 : (upd G49 j2 (.tup [])) j2 = some (.tup []) := upd_same
  generalize upd G49 j2 (.tup []) = G50 at sT ha fb ht fj1 fj2 ⊢
  clear hj2
  walk_at "go"
  refine ⟨by show 2 ≤ sizeLine; decide, fun j3 hj3 => ?_⟩
  replace ha := (same_new (o := .tup [V.ref j1, .ref j2]) hj3) _ _ ha
  replace fb := (same_new (o := .tup [V.ref j1, .ref j2]) hj3) _ _ fb
  replace ht := ht.keep (same_new (o := .tup [V.ref j1, .ref j2]) hj3)
  replace fj1 := (same_new (o := .tup [V.ref j1, .ref j2]) hj3) _ _ fj1
  replace fj2 := (same_new (o := .tup [V.ref j1, .ref j2]) hj3) _ _ fj2
  replace sT := sT.trans (same_new (o := .tup [V.ref j1, .ref j2]) hj3)
  have fj3 : (upd G50 j3 (.tup [V.ref j1, .ref j2])) j3 = some (.tup [V.ref j1, .ref j2]) := upd_same
  generalize upd G50 j3 (.tup [V.ref j1, .ref j2]) = G51 at sT ha fb ht fj1 fj2 fj3 ⊢
  clear hj3
  try walk_at "go"
  refine r_eqSame (d := runD [] []) (dp_run ht) (.tup (SqT.of fj3) (.cons (.tup (SqT.of fj1) .nil) (.cons (.tup (SqT.of fj2) .nil) .nil))) (okd_run _ _) (by decide) ?_
  walk_at "go"
  clear ht fj1 fj2 fj3
  refine ⟨by show 3 ≤ sizeLine; decide, fun q1 hq1 => ?_⟩
  replace ha := (same_new (o := .lst [V.int 8, .int 8, .int 8]) hq1) _ _ ha
  replace fb := (same_new (o := .lst [V.int 8, .int 8, .int 8]) hq1) _ _ fb
  replace sT := sT.trans (same_new (o := .lst [V.int 8, .int 8, .int 8]) hq1)
  have fq1 : (upd G51 q1 (.lst [V.int 8, .int 8, .int 8])) q1 = some (.lst [V.int 8, .int 8, .int 8]) := upd_same
  generalize upd G51 q1 (.lst [V.int 8, .int 8, .int 8]) = G52 at sT ha fb fq1 ⊢
  clear hq1
  walk_at "go"
  refine ⟨.ref q1, rfl, .inr ⟨q1, 60, [8, 8, 8], rfl, SqX.L fq1, fun c hc => (by simp at hc; omega), by decide, fun t H8 s8 ht => ?_⟩⟩
  rw [lr_eight1, lr_eight2] at ht
  walk_at "go"
  replace ha := s8 _ _ ha
  replace fb := s8 _ _ fb
  replace fq1 := s8 _ _ fq1
  replace sT := sT.trans s8
  clear s8
  clear fq1
  refine ⟨by show 1 ≤ sizeLine; decide, fun k1 hk1 => ?_⟩
  replace ha := (same_new (o := .tup [V.int 8]) hk1) _ _ ha
  replace fb := (same_new (o := .tup [V.int 8]) hk1) _ _ fb
  replace ht := ht.keep (same_new (o := .tup [V.int 8]) hk1)
  replace sT := sT.trans (same_new (o := .tup [V.int 8]) hk1)
  have fk1 : (upd H8 k1 (.tup [V.int 8])) k1 = some (.tup [V.int 8]) := upd_same
  generalize upd H8 k1 (.tup [V.int 8]) = G53 at sT ha fb ht fk1 ⊢
  clear hk1
  walk_at "go"
  refine ⟨by show 1 ≤ sizeLine; decide, fun k2 hk2 => ?_⟩
  replace ha := (same_new (o := .tup [V.int 8]) hk2) _ _ ha
  replace fb := (same_new (o := .tup [V.int 8]) hk2) _ _ fb
  replace ht := ht.keep (same_new (o := .tup [V.int 8]) hk2)
  replace fk1 := (same_new (o := .tup [V.int 8]) hk2) _ _ fk1
  replace sT := sT.trans (same_new (o := .tup [V.int 8]) hk2)
  have fk2 : (upd G53 k2 (.tup [V.int 8])) k2 = some (.tup [V.int 8]) := upd_same
  generalize upd G53 k2 (.tup [V.int 8]) = G54 at sT ha fb ht fk1 fk2 ⊢
  clear hk2
  walk_at "go"
  refine ⟨by show 2 ≤ sizeLine; decide, fun k3 hk3 => ?_⟩
  replace ha := (same_new (o := .tup [V.int 8, .ref k2]) hk3) _ _ ha
  replace fb := (same_new (o := .tup [V.int 8, .ref k2]) hk3) _ _ fb
  replace ht := ht.keep (same_new (o := .tup [V.int 8, .ref k2]) hk3)
  replace fk1 := (same_new (o := .tup [V.int 8, .ref k2]) hk3) _ _ fk1
  replace fk2 := (same_new (o := .tup [V.int 8, .ref k2]) hk3) _ _ fk2
  replace sT := sT.trans (same_new (o := .tup [V.int 8, .ref k2]) hk3)
  have fk3 : (upd G54 k3 (.tup [V.int 8, .ref k2])) k3 = some (.tup [V.int 8, .ref k2]) := upd_same
  generalize upd G54 k3 (.tup [V.int 8, .ref k2]) = G55 at sT ha fb ht fk1 fk2 fk3 ⊢
  clear hk3
  walk_at "go"
  refine ⟨by show 1 ≤ sizeLine; decide, fun k4 hk4 => ?_⟩
  replace ha := (same_new (o := .tup [V.ref k3]) hk4) _ _ ha
  replace fb := (same_new (o := .tup [V.ref k3]) hk4) _ _ fb
  replace ht := ht.keep (same_new (o := .tup [V.ref k3]) hk4)
  replace fk1 := (same_new (o := .tup [V.ref k3]) hk4) _ _ fk1
  replace fk2 := (same_new (o := .tup [V.ref k3]) hk4) _ _ fk2
  replace fk3 := (same_new (o := .tup [V.ref k3]) hk4) _ _ fk3
  replace sT := sT.trans (same_new (o := .tup [V.ref k3]) hk4)
  have fk4 : (upd G55 k4 (.tup [V.ref k3])) k4 = some (.tup [V.ref k3]) := upd_same
  generalize upd G55 k4 (.tup [V.ref k3]) = G56 at sT ha fb ht fk1 fk2 fk3 fk4 ⊢
  clear hk4
  walk_at "go"
  refine ⟨by show 2 ≤ sizeLine; decide, fun k5 hk5 => ?_⟩
  replace ha := (same_new (o := .tup [V.ref k1, .ref k4]) hk5) _ _ ha
  replace fb := (same_new (o := .tup [V.ref k1, .ref k4]) hk5) _ _ fb
  replace ht := ht.keep (same_new (o := .tup [V.ref k1, .ref k4]) hk5)
  replace fk1 := (same_new (o := .tup [V.ref k1, .ref k4]) hk5) _ _ fk1
  replace fk2 := (same_new (o := .tup [V.ref k1, .ref k4]) hk5) _ _ fk2
  replace fk3 := (same_new (o := .tup [V.ref k1, .ref k4]) hk5) _ _ fk3
  replace fk4 := (same_new (o := .tup [V.ref k1, .ref k4]) hk5) _ _ fk4
  replace sT := sT.trans (same_new (o := .tup [V.ref k1, .ref k4]) hk5)
  have fk5 : (upd G56 k5 (.tup [V.ref k1, .ref k4])) k5 = some (.tup [V.ref k1, .ref k4]) := upd_same
  generalize upd G56 k5 (.tup [V.ref k1, .ref k4]) = G57 at sT ha fb ht fk1 fk2 fk3 fk4 fk5 ⊢
  clear hk5
  try walk_at "go"
  refine r_eqSame (d := runD [8] [(8, [8])]) (dp_run ht) (.tup (SqT.of fk5) (.cons (.tup (SqT.of fk1) (.cons (.int _) .nil)) (.cons (.tup (SqT.of fk4) (.cons (.tup (SqT.of fk3) (.cons (.int _) (.cons (.tup (SqT.of fk2) (.cons (.int _) .nil)) .nil))) .nil)) .nil))) (okd_run _ _) (by decide) ?_
  exact k ns42 _ (by omega) ha (sB.trans (SameBut.of sT))
end
end K9
namespace K9
open PySem L2 Er K7M
/-- one step of a plain reading -/
local macro_rules | `(tactic| walk_at "step") => `(tactic| first
  | with_reducible refine r_seq ?_ | with_reducible refine r_nx ?_ | with_reducible refine r_asgN ?_ | with_reducible refine r_asgS ?_ | with_reducible refine r_asgT ?_ | with_reducible refine r_ifS ?_
  | with_reducible refine r_ret ?_ | with_reducible refine r_retN ?_ | with_reducible refine r_drop ?_ | with_reducible refine r_test ?_ | with_reducible refine r_B ?_ | with_reducible refine r_not ?_
  | with_reducible refine r_and ?_ | with_reducible refine r_or ?_ | with_reducible refine r_andV ?_ | with_reducible refine r_orV ?_ | with_reducible refine r_notV ?_
  | ((with_reducible refine' r_var ?e ?_); (case e => exact rfl)) | with_reducible refine r_c ?_ | with_reducible refine r_op ?_ | with_reducible refine r_un ?_
  | with_reducible refine r_I0 ?_ | with_reducible refine r_eqI ?_ | with_reducible refine r_neI ?_ | with_reducible refine r_bl ?_ | with_reducible refine r_nil ?_ | with_reducible refine r_cons ?_
  | with_reducible refine r_cb ?_ | with_reducible refine r_call ?_ | with_reducible refine r_tup ?_ | with_reducible refine r_lst ?_ | with_reducible refine r_fld ?_ | with_reducible refine r_bm ?_ | with_reducible refine r_bm0 ?_
  | with_reducible refine r_for ?_ | with_reducible refine r_rng ?_ | with_reducible refine r_rng2 ?_ | with_reducible refine r_lstI ?_ | with_reducible refine r_tupI ?_ | with_reducible refine r_lc ?_
  | with_reducible refine r_augS ?_ | with_reducible refine r_ipI ?_
  | with_reducible refine r_meth ?_ | with_reducible refine r_prop ?_ | with_reducible refine r_make ?_ | with_reducible refine r_din ?_ | with_reducible refine r_dnin ?_ | with_reducible refine r_dput ?_ | with_reducible refine r_dget ?_
  | with_reducible refine r_gN ?_ | with_reducible refine r_tsl ?_ | with_reducible refine r_noP ?_ | with_reducible refine r_part ?_ | with_reducible refine r_pI ?_ | with_reducible refine r_tif ?_ | with_reducible refine r_SL ?_ | with_reducible refine r_gC ?_ | with_reducible refine r_U ?_ | with_reducible refine r_sfld ?_ | with_reducible refine r_dnew ?_ | with_reducible refine r_keys ?_
  | with_reducible refine r_mkE ?_ | with_reducible refine iteT ?_ | with_reducible refine iteF ?_
  | with_reducible refine r_int ?_ | with_reducible refine r_min2 ?_ | with_reducible refine r_isN ?_ | with_reducible refine r_notN ?_)
/-- as far as it goes by itself -/
local macro_rules | `(tactic| walk_at "go") => `(tactic| ((repeat walk_at "step"); (try dsimp only)))

def spLaw (K : PySem.W.Frag) : Sp := fun vs H Q _ => ∃ (a : Addr) (ns : List Int), vs = [.ref a] ∧ SqL K H a (ns.map V.int) ∧ ns.length ≤ 63 ∧ ∀ H', Q (.bl true) H'
section
variable {P : Program} {w : World} {K : PySem.W.Frag} {mg : Str → Option Value} {base : Heap}
theorem scLaw : FnScope ["_law_script", "_law_found", "_law_names_here"] ["_law_script"] (defScope sLaw) := ⟨rfl, rfl, rfl, by decide +kernel, rfl, by decide +kernel, by decide +kernel⟩
theorem ok_law {f : Addr} {fd : FuncData} (F : Fun K "law" "law" sLaw f fd)
    (D_drawn : Fok P w K mg base 1 "_law_drawn" ["_law_script"] (spDrawn K)) (D_take : Fok P w K mg base 1 "_law_take" ["_law_found", "_law_many"] spTake) (D_names : Fok P w K mg base 2 "_law_names" ["_law_found", "_law_size"] spNames)
    (D_any : Fok P w K mg base 7 "_law_any_schedule" ["_law_found", "_law_names_here"] spAny) (D_each : Fok P w K mg base 8 "_law_each_comes" ["_law_found", "_law_names_here"] spEach) (D_wait : Fok P w K mg base 9 "_law_waiting" ["_law_found"] spWait) (D_allref : Fok P w K mg base 10 "_law_all_refused" ["_law_found", "_law_names_here"] spAllRef) :
    FnOk P w K mg base (L2.CX P w) 11 f fd ["_law_script"] (spLaw K) := by
  refine F.okX scLaw (fun vs H Q E h => ?_) (fun cdv A outer s H vs Q E hr h => ?_)
  · obtain ⟨a, ns, rfl, _⟩ := h
    rfl
  obtain ⟨a, ns, rfl, hS, hl, k⟩ := h
  have sc := scLaw
  refine ⟨_, (pss_cons (ps_set (i := 1) sc.nd rfl (Or.inl rfl) (pe_f D_drawn (hr.mono (by decide)) (pa_cons (pv 0) pa_nil)))
      (pss_cons (ps_set (i := 2) sc.nd rfl (Or.inl rfl) (pe_f D_names (hr.mono (by decide)) (pa_cons (pv 1) (pa_cons (pe_op op_add pe_int (pe_f D_take (hr.mono (by decide)) (pa_cons (pv 1) (pa_cons pe_int pa_nil)))) pa_nil))))
      (pss_cons (ps_if (PW.pt (pw_or (pt_not (pt_val (pe_f D_any (hr.mono (by decide)) (pa_cons (pv 1) (pa_cons (pv 2) pa_nil))))) (pw_or1 (pt_not (pt_val (pe_f D_each (hr.mono (by decide)) (pa_cons (pv 1) (pa_cons (pv 2) pa_nil)))))))) (pss_one (ps_ret pe_bl)) pss_nil)
      (pss_one (ps_ret (pe_and (pe_f D_wait (hr.mono (by decide)) (pa_cons (pv 1) pa_nil)) (pe_one (pe_f D_allref (hr.mono (by decide)) (pa_cons (pv 1) (pa_cons (pv 2) pa_nil)))))))))), ?_⟩
  walk_at "go"
  refine ⟨a, ns, rfl, hS, hl, fun p fs H1 hp s1 h1 hf => ?_⟩
  walk_at "go"
  refine ⟨p, fs, 5, rfl, h1, by omega, by decide, fun r1 fs1 H2 a1 b1 l1 h2 s2 => ?_⟩
  obtain ⟨r, rfl⟩ : ∃ n : Nat, r1 = (n : Int) := ⟨r1.toNat, by omega⟩
  walk_at "go"
  have e1 : (1 : Int) + (r : Int) = ((1 + r : Nat) : Int) := by omega
  rw [e1]
  refine ⟨p, fs1, 1 + r, rfl, h2, by omega, by omega, by omega, fun q ws fs2 H3 lw asc lt l2 h3 s3 hq2 hq3 => ?_⟩
  have qp : q ≠ p := fun z => by rw [z, h2] at hq2; cases hq2
  walk_at "go"
  refine ⟨p, q, fs2, ws, rfl, h3, by omega, hq3, qp, asc, lt, by omega, by omega, fun fs4 H4 l4 h4 s4 => ?_⟩
  have hq4 := s4 _ _ qp hq3
  walk_at "go"
  refine ite_no rfl ?_
  walk_at "go"
  refine ⟨p, q, fs4, ws, rfl, h4, by omega, hq4, qp, asc, lt, by omega, by omega, fun fs5 H5 l5 h5 s5 => ?_⟩
  have hq5 := s5 _ _ qp hq4
  walk_at "go"
  refine ite_no rfl ?_
  walk_at "go"
  refine ⟨p, fs5, rfl, h5, by omega, fun fs6 H6 l6 h6 s6 => ?_⟩
  have hq6 := s6 _ _ qp hq5
  walk_at "go"
  refine ⟨p, q, fs6, ws, rfl, h6, by omega, hq6, qp, asc.imp fun h => Nat.ne_of_lt h, by omega, by omega, fun fs7 H7 l7 h7 s7 => ?_⟩
  exact k H7
end
end K9
namespace K9
open PySem PySem.Spec PyProof.Rows L2 Er
abbrev mInitN : Stmt := inClass (top 2) 0
abbrev mInitB : Stmt := inClass (top 4) 0
abbrev mInitR : Stmt := inClass (top 3) 0
section
variable {prog : Program} {w : World} {A : Around} {E : Value → Shared → Prop} {env : Env} {m : Str → Option Value}
theorem txt_const {x : Str} {pos : Pos} {j} : TxtArg prog w A E env m (.Constant (.str x) j pos) := fun s Q _ h => Calls.Constant_str (h _ _ _)
theorem txt_word {a x y : Str} {t : Tok} {j} {p1 p2 p3 p4 : Pos} (hm : m x = some (.str y t)) (ha : a.length ≤ 1000) (hy : y.length ≤ 1000) (kk : env.scope.kind = .function) (kx : env.scope.names.lookup x = some .local) (hxd : (x == ("__debug__" : Str)) = false) :
    TxtArg prog w A E env m (.JoinedStr [.Constant (.str a) j p1, .FormattedValue (.Name x p2) (-1) none p3] p4) := fun s Q hns hq => by
  have h1000 : (2000 : Nat) ≤ sizeLine := by decide
  have l0 : (Str.empty ++ a).length ≤ 1000 := by rw [strLen_append]; show 0 + a.length ≤ 1000; omega
  have l1 : ((Str.empty ++ a) ++ y).length ≤ 2000 := by rw [strLen_append]; omega
  refine wpAny_JoinedStr ?_
  refine Calls.Constant_str ⟨a, _, rfl, by omega, ?_⟩
  refine wpAny_FormattedValue_plain (PySem.ESX.ldL (v := .str y t) hns hm ?_ kk kx hxd)
  exact wpAny_formatField_str ⟨y, _, rfl, by omega, by omega, hq _ _ _⟩ ⟨y, _, rfl, by omega, by omega, hq _ _ _⟩ (by omega)
end
theorem initRun_N {prog : Program} {w : World} {K : PySem.W.Frag} {mg : Str → Option Value} {C fI cc cda : Addr} {kV doc pm ct oc ccl cl : Value} {an od cdd cld : Option Addr} {osl ccs csl : Array (Option Value)} {vs : Array Value} {file : Str} {tf : Tok}
    (T : XC K C fI "name") (hms : mg "super" = none) (lf : K.lookup fI = some ⟨oc, od, .func (PySem.W.fnX "__init__" "BadName.__init__" (defArgs mInitN) (defBody mInitN) (defScope mInitN) [("__class__", cc)] .none kV doc pm an (.ref cda) ct), osl⟩)
    (hcd : PySem.W.codeIn K (.ref cda) "BadName.__init__" = true) (lcode : K.lookup cda = some ⟨ccl, cdd, .fields vs, ccs⟩) (hvs : vs[2]? = some (.str file tf)) (hfile : ((prog.main.file : Str) == file) = true) (lcell : K.lookup cc = some ⟨cl, cld, .cell (some (.ref C)), csl⟩)
    (htop : (prog.main.scope.names.lookup ("super" : Str)).isSome = false) : InitRun prog w K mg C fI "name" (fun _ => True) := fun A R h g d t os a t1 u hu X hlim hG hB hroom he hKa hq => by
  refine run_init (f := "name") (x := "name") T X hlim hG hms hB hroom lf rfl hcd lcode hvs hfile lcell htop rfl rfl (fun s => .of_eq rfl) rfl rfl rfl rfl rfl rfl rfl (by decide +kernel) (by decide) (by decide) (fun L E => txt_const) (fun L => rfl) (fun L => rfl) (fun L => ⟨_, rfl⟩) (fun L => rfl) he hKa hq
theorem initRun_B {prog : Program} {w : World} {K : PySem.W.Frag} {mg : Str → Option Value} {C fI cc cda : Addr} {kV doc pm ct oc ccl cl : Value} {an od cdd cld : Option Addr} {osl ccs csl : Array (Option Value)} {vs : Array Value} {file : Str} {tf : Tok}
    (T : XC K C fI "word") (hms : mg "super" = none) (lf : K.lookup fI = some ⟨oc, od, .func (PySem.W.fnX "__init__" "TooMany.__init__" (defArgs mInitB) (defBody mInitB) (defScope mInitB) [("__class__", cc)] .none kV doc pm an (.ref cda) ct), osl⟩)
    (hcd : PySem.W.codeIn K (.ref cda) "TooMany.__init__" = true) (lcode : K.lookup cda = some ⟨ccl, cdd, .fields vs, ccs⟩) (hvs : vs[2]? = some (.str file tf)) (hfile : ((prog.main.file : Str) == file) = true) (lcell : K.lookup cc = some ⟨cl, cld, .cell (some (.ref C)), csl⟩)
    (htop : (prog.main.scope.names.lookup ("super" : Str)).isSome = false) : InitRun prog w K mg C fI "word" (fun u => ∃ x t, u = .str x t ∧ x.length ≤ 1000) := fun A R h g d t os a t1 u hu X hlim hG hB hroom he hKa hq => by
  obtain ⟨y, ty, rfl, hy⟩ := hu
  refine run_init (f := "word") (x := "word") T X hlim hG hms hB hroom lf rfl hcd lcode hvs hfile lcell htop rfl rfl (fun s => .of_eq rfl) rfl rfl rfl rfl rfl rfl rfl (by decide +kernel) (by decide) (by decide) (fun L E => txt_word rfl (by decide) hy rfl rfl (by decide)) (fun L => rfl) (fun L => rfl) (fun L => ⟨_, rfl⟩) (fun L => rfl) he hKa hq
theorem initRun_R {prog : Program} {w : World} {K : PySem.W.Frag} {mg : Str → Option Value} {C fI cc cda : Addr} {kV doc pm ct oc ccl cl : Value} {an od cdd cld : Option Addr} {osl ccs csl : Array (Option Value)} {vs : Array Value} {file : Str} {tf : Tok}
    (T : XC K C fI "place") (hms : mg "super" = none) (lf : K.lookup fI = some ⟨oc, od, .func (PySem.W.fnX "__init__" "BadRound.__init__" (defArgs mInitR) (defBody mInitR) (defScope mInitR) [("__class__", cc)] .none kV doc pm an (.ref cda) ct), osl⟩)
    (hcd : PySem.W.codeIn K (.ref cda) "BadRound.__init__" = true) (lcode : K.lookup cda = some ⟨ccl, cdd, .fields vs, ccs⟩) (hvs : vs[2]? = some (.str file tf)) (hfile : ((prog.main.file : Str) == file) = true) (lcell : K.lookup cc = some ⟨cl, cld, .cell (some (.ref C)), csl⟩)
    (htop : (prog.main.scope.names.lookup ("super" : Str)).isSome = false) : InitRun prog w K mg C fI "place" (fun _ => True) := fun A R h g d t os a t1 u hu X hlim hG hB hroom he hKa hq => by
  refine run_init (f := "place") (x := "place") T X hlim hG hms hB hroom lf rfl hcd lcode hvs hfile lcell htop rfl rfl (fun s => .of_eq rfl) rfl rfl rfl rfl rfl rfl rfl (by decide +kernel) (by decide) (by decide) (fun L E => txt_const) (fun L => rfl) (fun L => rfl) (fun L => ⟨_, rfl⟩) (fun L => rfl) he hKa hq
end K9
namespace K9
open PySem PySem.Spec PyProof.Rows L2 Er
theorem all_mk {P : Program} {w : World} {K : PySem.W.Frag} {h : Heap} {mg : Str → Option Value} {fa : Addr} (X : K.In h) (G : h.Ns mainGlobals mg) (hfa : mg "law" = some (.ref fa))
    {f_isint : Addr} {od_isint an_isint : Option Addr} {sl_isint : Array (Option Value)} {oc_isint kV_isint dc_isint pm_isint cd_isint ct_isint : Value}
    {f_isnat : Addr} {od_isnat an_isnat : Option Addr} {sl_isnat : Array (Option Value)} {oc_isnat kV_isnat dc_isnat pm_isnat cd_isnat ct_isnat : Value}
    {f_isrow : Addr} {od_isrow an_isrow : Option Addr} {sl_isrow : Array (Option Value)} {oc_isrow kV_isrow dc_isrow pm_isrow cd_isrow ct_isrow : Value}
    {f_ispair : Addr} {od_ispair an_ispair : Option Addr} {sl_ispair : Array (Option Value)} {oc_ispair kV_ispair dc_ispair pm_ispair cd_ispair ct_ispair : Value}
    {f_natrow : Addr} {od_natrow an_natrow : Option Addr} {sl_natrow : Array (Option Value)} {oc_natrow kV_natrow dc_natrow pm_natrow cd_natrow ct_natrow : Value}
    {f_natset : Addr} {od_natset an_natset : Option Addr} {sl_natset : Array (Option Value)} {oc_natset kV_natset dc_natset pm_natset cd_natset ct_natset : Value}
    {f_parts : Addr} {od_parts an_parts : Option Addr} {sl_parts : Array (Option Value)} {oc_parts kV_parts dc_parts pm_parts cd_parts ct_parts : Value}
    {f_isround : Addr} {od_isround an_isround : Option Addr} {sl_isround : Array (Option Value)} {oc_isround kV_isround dc_isround pm_isround cd_isround ct_isround : Value}
    {f_islook : Addr} {od_islook an_islook : Option Addr} {sl_islook : Array (Option Value)} {oc_islook kV_islook dc_islook pm_islook cd_islook ct_islook : Value}
    {f_lies : Addr} {od_lies an_lies : Option Addr} {sl_lies : Array (Option Value)} {oc_lies kV_lies dc_lies pm_lies cd_lies ct_lies : Value}
    {f_nest : Addr} {od_nest an_nest : Option Addr} {sl_nest : Array (Option Value)} {oc_nest kV_nest dc_nest pm_nest cd_nest ct_nest : Value}
    {f_ck : Addr} {od_ck an_ck : Option Addr} {sl_ck : Array (Option Value)} {oc_ck kV_ck dc_ck pm_ck cd_ck ct_ck : Value}
    {f_run : Addr} {od_run an_run : Option Addr} {sl_run : Array (Option Value)} {oc_run kV_run dc_run pm_run cd_run ct_run : Value}
    {f_sched : Addr} {od_sched an_sched : Option Addr} {sl_sched : Array (Option Value)} {oc_sched kV_sched dc_sched pm_sched cd_sched ct_sched : Value}
    {f_waits : Addr} {od_waits an_waits : Option Addr} {sl_waits : Array (Option Value)} {oc_waits kV_waits dc_waits pm_waits cd_waits ct_waits : Value}
    {f_wr : Addr} {od_wr an_wr : Option Addr} {sl_wr : Array (Option Value)} {oc_wr kV_wr dc_wr pm_wr cd_wr ct_wr : Value}
    {f_drawn : Addr} {od_drawn an_drawn : Option Addr} {sl_drawn : Array (Option Value)} {oc_drawn kV_drawn dc_drawn pm_drawn cd_drawn ct_drawn : Value}
    {f_take : Addr} {od_take an_take : Option Addr} {sl_take : Array (Option Value)} {oc_take kV_take dc_take pm_take cd_take ct_take : Value}
    {f_lblocks : Addr} {od_lblocks an_lblocks : Option Addr} {sl_lblocks : Array (Option Value)} {oc_lblocks kV_lblocks dc_lblocks pm_lblocks cd_lblocks ct_lblocks : Value}
    {f_looks : Addr} {od_looks an_looks : Option Addr} {sl_looks : Array (Option Value)} {oc_looks kV_looks dc_looks pm_looks cd_looks ct_looks : Value}
    {f_refused : Addr} {od_refused an_refused : Option Addr} {sl_refused : Array (Option Value)} {oc_refused kV_refused dc_refused pm_refused cd_refused ct_refused : Value}
    {f_names : Addr} {od_names an_names : Option Addr} {sl_names : Array (Option Value)} {oc_names kV_names dc_names pm_names cd_names ct_names : Value}
    {f_own : Addr} {od_own an_own : Option Addr} {sl_own : Array (Option Value)} {oc_own kV_own dc_own pm_own cd_own ct_own : Value}
    {f_within : Addr} {od_within an_within : Option Addr} {sl_within : Array (Option Value)} {oc_within kV_within dc_within pm_within cd_within ct_within : Value}
    {f_fit : Addr} {od_fit an_fit : Option Addr} {sl_fit : Array (Option Value)} {oc_fit kV_fit dc_fit pm_fit cd_fit ct_fit : Value}
    {f_any : Addr} {od_any an_any : Option Addr} {sl_any : Array (Option Value)} {oc_any kV_any dc_any pm_any cd_any ct_any : Value}
    {f_each : Addr} {od_each an_each : Option Addr} {sl_each : Array (Option Value)} {oc_each kV_each dc_each pm_each cd_each ct_each : Value}
    {f_lparts : Addr} {od_lparts an_lparts : Option Addr} {sl_lparts : Array (Option Value)} {oc_lparts kV_lparts dc_lparts pm_lparts cd_lparts ct_lparts : Value}
    {f_due : Addr} {od_due an_due : Option Addr} {sl_due : Array (Option Value)} {oc_due kV_due dc_due pm_due cd_due ct_due : Value}
    {f_wait : Addr} {od_wait an_wait : Option Addr} {sl_wait : Array (Option Value)} {oc_wait kV_wait dc_wait pm_wait cd_wait ct_wait : Value}
    {f_allref : Addr} {od_allref an_allref : Option Addr} {sl_allref : Array (Option Value)} {oc_allref kV_allref dc_allref pm_allref cd_allref ct_allref : Value}
    {f_law : Addr} {od_law an_law : Option Addr} {sl_law : Array (Option Value)} {oc_law kV_law dc_law pm_law cd_law ct_law : Value}
    {tmost : Tok} {CN CR CM CT : Addr}
    {fIN ccN cdaN : Addr} {kVN dcN pmN ctN ocN cclN clN : Value} {anN odN cddN cldN : Option Addr} {oslN ccsN cslN : Array (Option Value)} {vsN : Array Value} {fileN : Str} {tfN : Tok}
    {fIB ccB cdaB : Addr} {kVB dcB pmB ctB ocB cclB clB : Value} {anB odB cddB cldB : Option Addr} {oslB ccsB cslB : Array (Option Value)} {vsB : Array Value} {fileB : Str} {tfB : Tok}
    {fIR ccR cdaR : Addr} {kVR dcR pmR ctR ocR cclR clR : Value} {anR odR cddR cldR : Option Addr} {oslR ccsR cslR : Array (Option Value)} {vsR : Array Value} {fileR : Str} {tfR : Tok}
    (z_len : PySem.W.nsIn K mainGlobals "len" = some none)
    (z_int : PySem.W.nsIn K mainGlobals "int" = some none)
    (z_list : PySem.W.nsIn K mainGlobals "list" = some none)
    (z_tuple : PySem.W.nsIn K mainGlobals "tuple" = some none)
    (z_min : PySem.W.nsIn K mainGlobals "min" = some none)
    (z_range : PySem.W.nsIn K mainGlobals "range" = some none)
    (z_sorted : PySem.W.nsIn K mainGlobals "sorted" = some none)
    (z_all : PySem.W.nsIn K mainGlobals "all" = some none)
    (z_isinstance : PySem.W.nsIn K mainGlobals "isinstance" = some none)
    (z_bool : PySem.W.nsIn K mainGlobals "bool" = some none)
    (z_super : PySem.W.nsIn K mainGlobals "super" = some none)
    (z_MOST : PySem.W.nsIn K mainGlobals "MOST_NAMES" = some (some (.int 5 tmost)))
    (gN : PySem.W.nsIn K mainGlobals "BadName" = some (some (.ref CN)))
    (gR : PySem.W.nsIn K mainGlobals "BadRound" = some (some (.ref CR)))
    (gM : PySem.W.nsIn K mainGlobals "TooMany" = some (some (.ref CM)))
    (gT : PySem.W.nsIn K mainGlobals "TaskError" = some (some (.ref CT)))
    (a_isint : PySem.W.nsIn K mainGlobals "is_integer" = some (some (.ref f_isint)))
    (l_isint : K.lookup f_isint = some ⟨oc_isint, od_isint, .func (PySem.W.fnOf "is_integer" "is_integer" (defArgs sIsInteger) (defBody sIsInteger) (defScope sIsInteger) .none kV_isint dc_isint pm_isint an_isint cd_isint ct_isint), sl_isint⟩)
    (c_isint : PySem.W.codeIn K cd_isint "is_integer" = true)
    (k_isint : PySem.W.keepIn K (.ref f_isint) = true)
    (a_isnat : PySem.W.nsIn K mainGlobals "is_natural" = some (some (.ref f_isnat)))
    (l_isnat : K.lookup f_isnat = some ⟨oc_isnat, od_isnat, .func (PySem.W.fnOf "is_natural" "is_natural" (defArgs sIsNatural) (defBody sIsNatural) (defScope sIsNatural) .none kV_isnat dc_isnat pm_isnat an_isnat cd_isnat ct_isnat), sl_isnat⟩)
    (c_isnat : PySem.W.codeIn K cd_isnat "is_natural" = true)
    (k_isnat : PySem.W.keepIn K (.ref f_isnat) = true)
    (a_isrow : PySem.W.nsIn K mainGlobals "is_row" = some (some (.ref f_isrow)))
    (l_isrow : K.lookup f_isrow = some ⟨oc_isrow, od_isrow, .func (PySem.W.fnOf "is_row" "is_row" (defArgs sIsRow) (defBody sIsRow) (defScope sIsRow) .none kV_isrow dc_isrow pm_isrow an_isrow cd_isrow ct_isrow), sl_isrow⟩)
    (c_isrow : PySem.W.codeIn K cd_isrow "is_row" = true)
    (k_isrow : PySem.W.keepIn K (.ref f_isrow) = true)
    (a_ispair : PySem.W.nsIn K mainGlobals "is_pair" = some (some (.ref f_ispair)))
    (l_ispair : K.lookup f_ispair = some ⟨oc_ispair, od_ispair, .func (PySem.W.fnOf "is_pair" "is_pair" (defArgs sIsPair) (defBody sIsPair) (defScope sIsPair) .none kV_ispair dc_ispair pm_ispair an_ispair cd_ispair ct_ispair), sl_ispair⟩)
    (c_ispair : PySem.W.codeIn K cd_ispair "is_pair" = true)
    (k_ispair : PySem.W.keepIn K (.ref f_ispair) = true)
    (a_natrow : PySem.W.nsIn K mainGlobals "is_natural_row" = some (some (.ref f_natrow)))
    (l_natrow : K.lookup f_natrow = some ⟨oc_natrow, od_natrow, .func (PySem.W.fnOf "is_natural_row" "is_natural_row" (defArgs sNatRow) (defBody sNatRow) (defScope sNatRow) .none kV_natrow dc_natrow pm_natrow an_natrow cd_natrow ct_natrow), sl_natrow⟩)
    (c_natrow : PySem.W.codeIn K cd_natrow "is_natural_row" = true)
    (k_natrow : PySem.W.keepIn K (.ref f_natrow) = true)
    (a_natset : PySem.W.nsIn K mainGlobals "is_natural_set" = some (some (.ref f_natset)))
    (l_natset : K.lookup f_natset = some ⟨oc_natset, od_natset, .func (PySem.W.fnOf "is_natural_set" "is_natural_set" (defArgs sNatSet) (defBody sNatSet) (defScope sNatSet) .none kV_natset dc_natset pm_natset an_natset cd_natset ct_natset), sl_natset⟩)
    (c_natset : PySem.W.codeIn K cd_natset "is_natural_set" = true)
    (k_natset : PySem.W.keepIn K (.ref f_natset) = true)
    (a_parts : PySem.W.nsIn K mainGlobals "parts_of" = some (some (.ref f_parts)))
    (l_parts : K.lookup f_parts = some ⟨oc_parts, od_parts, .func (PySem.W.fnOf "parts_of" "parts_of" (defArgs sPartsOf) (defBody sPartsOf) (defScope sPartsOf) .none kV_parts dc_parts pm_parts an_parts cd_parts ct_parts), sl_parts⟩)
    (c_parts : PySem.W.codeIn K cd_parts "parts_of" = true)
    (k_parts : PySem.W.keepIn K (.ref f_parts) = true)
    (a_isround : PySem.W.nsIn K mainGlobals "is_round" = some (some (.ref f_isround)))
    (l_isround : K.lookup f_isround = some ⟨oc_isround, od_isround, .func (PySem.W.fnOf "is_round" "is_round" (defArgs sIsRound) (defBody sIsRound) (defScope sIsRound) .none kV_isround dc_isround pm_isround an_isround cd_isround ct_isround), sl_isround⟩)
    (c_isround : PySem.W.codeIn K cd_isround "is_round" = true)
    (k_isround : PySem.W.keepIn K (.ref f_isround) = true)
    (a_islook : PySem.W.nsIn K mainGlobals "is_look" = some (some (.ref f_islook)))
    (l_islook : K.lookup f_islook = some ⟨oc_islook, od_islook, .func (PySem.W.fnOf "is_look" "is_look" (defArgs sIsLook) (defBody sIsLook) (defScope sIsLook) .none kV_islook dc_islook pm_islook an_islook cd_islook ct_islook), sl_islook⟩)
    (c_islook : PySem.W.codeIn K cd_islook "is_look" = true)
    (k_islook : PySem.W.keepIn K (.ref f_islook) = true)
    (a_lies : PySem.W.nsIn K mainGlobals "lies_within" = some (some (.ref f_lies)))
    (l_lies : K.lookup f_lies = some ⟨oc_lies, od_lies, .func (PySem.W.fnOf "lies_within" "lies_within" (defArgs sLies) (defBody sLies) (defScope sLies) .none kV_lies dc_lies pm_lies an_lies cd_lies ct_lies), sl_lies⟩)
    (c_lies : PySem.W.codeIn K cd_lies "lies_within" = true)
    (k_lies : PySem.W.keepIn K (.ref f_lies) = true)
    (a_nest : PySem.W.nsIn K mainGlobals "looks_nest" = some (some (.ref f_nest)))
    (l_nest : K.lookup f_nest = some ⟨oc_nest, od_nest, .func (PySem.W.fnOf "looks_nest" "looks_nest" (defArgs sNest) (defBody sNest) (defScope sNest) .none kV_nest dc_nest pm_nest an_nest cd_nest ct_nest), sl_nest⟩)
    (c_nest : PySem.W.codeIn K cd_nest "looks_nest" = true)
    (k_nest : PySem.W.keepIn K (.ref f_nest) = true)
    (a_ck : PySem.W.nsIn K mainGlobals "checked_names" = some (some (.ref f_ck)))
    (l_ck : K.lookup f_ck = some ⟨oc_ck, od_ck, .func (PySem.W.fnOf "checked_names" "checked_names" (defArgs sChecked) (defBody sChecked) (defScope sChecked) .none kV_ck dc_ck pm_ck an_ck cd_ck ct_ck), sl_ck⟩)
    (c_ck : PySem.W.codeIn K cd_ck "checked_names" = true)
    (k_ck : PySem.W.keepIn K (.ref f_ck) = true)
    (a_run : PySem.W.nsIn K mainGlobals "look_run" = some (some (.ref f_run)))
    (l_run : K.lookup f_run = some ⟨oc_run, od_run, .func (PySem.W.fnOf "look_run" "look_run" (defArgs sLookRun) (defBody sLookRun) (defScope sLookRun) .none kV_run dc_run pm_run an_run cd_run ct_run), sl_run⟩)
    (c_run : PySem.W.codeIn K cd_run "look_run" = true)
    (k_run : PySem.W.keepIn K (.ref f_run) = true)
    (a_sched : PySem.W.nsIn K mainGlobals "look_schedule" = some (some (.ref f_sched)))
    (l_sched : K.lookup f_sched = some ⟨oc_sched, od_sched, .func (PySem.W.fnOf "look_schedule" "look_schedule" (defArgs sLookSched) (defBody sLookSched) (defScope sLookSched) .none kV_sched dc_sched pm_sched an_sched cd_sched ct_sched), sl_sched⟩)
    (c_sched : PySem.W.codeIn K cd_sched "look_schedule" = true)
    (k_sched : PySem.W.keepIn K (.ref f_sched) = true)
    (a_waits : PySem.W.nsIn K mainGlobals "waits" = some (some (.ref f_waits)))
    (l_waits : K.lookup f_waits = some ⟨oc_waits, od_waits, .func (PySem.W.fnOf "waits" "waits" (defArgs sWaits) (defBody sWaits) (defScope sWaits) .none kV_waits dc_waits pm_waits an_waits cd_waits ct_waits), sl_waits⟩)
    (c_waits : PySem.W.codeIn K cd_waits "waits" = true)
    (k_waits : PySem.W.keepIn K (.ref f_waits) = true)
    (a_wr : PySem.W.nsIn K mainGlobals "waiting_rounds" = some (some (.ref f_wr)))
    (l_wr : K.lookup f_wr = some ⟨oc_wr, od_wr, .func (PySem.W.fnOf "waiting_rounds" "waiting_rounds" (defArgs sWaiting) (defBody sWaiting) (defScope sWaiting) .none kV_wr dc_wr pm_wr an_wr cd_wr ct_wr), sl_wr⟩)
    (c_wr : PySem.W.codeIn K cd_wr "waiting_rounds" = true)
    (k_wr : PySem.W.keepIn K (.ref f_wr) = true)
    (a_drawn : PySem.W.nsIn K mainGlobals "_law_drawn" = some (some (.ref f_drawn)))
    (l_drawn : K.lookup f_drawn = some ⟨oc_drawn, od_drawn, .func (PySem.W.fnOf "_law_drawn" "_law_drawn" (defArgs sDrawn) (defBody sDrawn) (defScope sDrawn) .none kV_drawn dc_drawn pm_drawn an_drawn cd_drawn ct_drawn), sl_drawn⟩)
    (c_drawn : PySem.W.codeIn K cd_drawn "_law_drawn" = true)
    (k_drawn : PySem.W.keepIn K (.ref f_drawn) = true)
    (a_take : PySem.W.nsIn K mainGlobals "_law_take" = some (some (.ref f_take)))
    (l_take : K.lookup f_take = some ⟨oc_take, od_take, .func (PySem.W.fnOf "_law_take" "_law_take" (defArgs sTake) (defBody sTake) (defScope sTake) .none kV_take dc_take pm_take an_take cd_take ct_take), sl_take⟩)
    (c_take : PySem.W.codeIn K cd_take "_law_take" = true)
    (k_take : PySem.W.keepIn K (.ref f_take) = true)
    (a_lblocks : PySem.W.nsIn K mainGlobals "_law_blocks" = some (some (.ref f_lblocks)))
    (l_lblocks : K.lookup f_lblocks = some ⟨oc_lblocks, od_lblocks, .func (PySem.W.fnOf "_law_blocks" "_law_blocks" (defArgs sLBlocks) (defBody sLBlocks) (defScope sLBlocks) .none kV_lblocks dc_lblocks pm_lblocks an_lblocks cd_lblocks ct_lblocks), sl_lblocks⟩)
    (c_lblocks : PySem.W.codeIn K cd_lblocks "_law_blocks" = true)
    (k_lblocks : PySem.W.keepIn K (.ref f_lblocks) = true)
    (a_looks : PySem.W.nsIn K mainGlobals "_law_looks" = some (some (.ref f_looks)))
    (l_looks : K.lookup f_looks = some ⟨oc_looks, od_looks, .func (PySem.W.fnOf "_law_looks" "_law_looks" (defArgs sLooks) (defBody sLooks) (defScope sLooks) .none kV_looks dc_looks pm_looks an_looks cd_looks ct_looks), sl_looks⟩)
    (c_looks : PySem.W.codeIn K cd_looks "_law_looks" = true)
    (k_looks : PySem.W.keepIn K (.ref f_looks) = true)
    (a_refused : PySem.W.nsIn K mainGlobals "_law_refused" = some (some (.ref f_refused)))
    (l_refused : K.lookup f_refused = some ⟨oc_refused, od_refused, .func (PySem.W.fnOf "_law_refused" "_law_refused" (defArgs sRefused) (defBody sRefused) (defScope sRefused) .none kV_refused dc_refused pm_refused an_refused cd_refused ct_refused), sl_refused⟩)
    (c_refused : PySem.W.codeIn K cd_refused "_law_refused" = true)
    (k_refused : PySem.W.keepIn K (.ref f_refused) = true)
    (a_names : PySem.W.nsIn K mainGlobals "_law_names" = some (some (.ref f_names)))
    (l_names : K.lookup f_names = some ⟨oc_names, od_names, .func (PySem.W.fnOf "_law_names" "_law_names" (defArgs sNames) (defBody sNames) (defScope sNames) .none kV_names dc_names pm_names an_names cd_names ct_names), sl_names⟩)
    (c_names : PySem.W.codeIn K cd_names "_law_names" = true)
    (k_names : PySem.W.keepIn K (.ref f_names) = true)
    (a_own : PySem.W.nsIn K mainGlobals "_law_own_run" = some (some (.ref f_own)))
    (l_own : K.lookup f_own = some ⟨oc_own, od_own, .func (PySem.W.fnOf "_law_own_run" "_law_own_run" (defArgs sOwn) (defBody sOwn) (defScope sOwn) .none kV_own dc_own pm_own an_own cd_own ct_own), sl_own⟩)
    (c_own : PySem.W.codeIn K cd_own "_law_own_run" = true)
    (k_own : PySem.W.keepIn K (.ref f_own) = true)
    (a_within : PySem.W.nsIn K mainGlobals "_law_within" = some (some (.ref f_within)))
    (l_within : K.lookup f_within = some ⟨oc_within, od_within, .func (PySem.W.fnOf "_law_within" "_law_within" (defArgs sWithin) (defBody sWithin) (defScope sWithin) .none kV_within dc_within pm_within an_within cd_within ct_within), sl_within⟩)
    (c_within : PySem.W.codeIn K cd_within "_law_within" = true)
    (k_within : PySem.W.keepIn K (.ref f_within) = true)
    (a_fit : PySem.W.nsIn K mainGlobals "_law_looks_fit" = some (some (.ref f_fit)))
    (l_fit : K.lookup f_fit = some ⟨oc_fit, od_fit, .func (PySem.W.fnOf "_law_looks_fit" "_law_looks_fit" (defArgs sFit) (defBody sFit) (defScope sFit) .none kV_fit dc_fit pm_fit an_fit cd_fit ct_fit), sl_fit⟩)
    (c_fit : PySem.W.codeIn K cd_fit "_law_looks_fit" = true)
    (k_fit : PySem.W.keepIn K (.ref f_fit) = true)
    (a_any : PySem.W.nsIn K mainGlobals "_law_any_schedule" = some (some (.ref f_any)))
    (l_any : K.lookup f_any = some ⟨oc_any, od_any, .func (PySem.W.fnOf "_law_any_schedule" "_law_any_schedule" (defArgs sAny) (defBody sAny) (defScope sAny) .none kV_any dc_any pm_any an_any cd_any ct_any), sl_any⟩)
    (c_any : PySem.W.codeIn K cd_any "_law_any_schedule" = true)
    (k_any : PySem.W.keepIn K (.ref f_any) = true)
    (a_each : PySem.W.nsIn K mainGlobals "_law_each_comes" = some (some (.ref f_each)))
    (l_each : K.lookup f_each = some ⟨oc_each, od_each, .func (PySem.W.fnOf "_law_each_comes" "_law_each_comes" (defArgs sEach) (defBody sEach) (defScope sEach) .none kV_each dc_each pm_each an_each cd_each ct_each), sl_each⟩)
    (c_each : PySem.W.codeIn K cd_each "_law_each_comes" = true)
    (k_each : PySem.W.keepIn K (.ref f_each) = true)
    (a_lparts : PySem.W.nsIn K mainGlobals "_law_parts_of" = some (some (.ref f_lparts)))
    (l_lparts : K.lookup f_lparts = some ⟨oc_lparts, od_lparts, .func (PySem.W.fnOf "_law_parts_of" "_law_parts_of" (defArgs sLParts) (defBody sLParts) (defScope sLParts) .none kV_lparts dc_lparts pm_lparts an_lparts cd_lparts ct_lparts), sl_lparts⟩)
    (c_lparts : PySem.W.codeIn K cd_lparts "_law_parts_of" = true)
    (k_lparts : PySem.W.keepIn K (.ref f_lparts) = true)
    (a_due : PySem.W.nsIn K mainGlobals "_law_waiting_due" = some (some (.ref f_due)))
    (l_due : K.lookup f_due = some ⟨oc_due, od_due, .func (PySem.W.fnOf "_law_waiting_due" "_law_waiting_due" (defArgs sDue) (defBody sDue) (defScope sDue) .none kV_due dc_due pm_due an_due cd_due ct_due), sl_due⟩)
    (c_due : PySem.W.codeIn K cd_due "_law_waiting_due" = true)
    (k_due : PySem.W.keepIn K (.ref f_due) = true)
    (a_wait : PySem.W.nsIn K mainGlobals "_law_waiting" = some (some (.ref f_wait)))
    (l_wait : K.lookup f_wait = some ⟨oc_wait, od_wait, .func (PySem.W.fnOf "_law_waiting" "_law_waiting" (defArgs sLWait) (defBody sLWait) (defScope sLWait) .none kV_wait dc_wait pm_wait an_wait cd_wait ct_wait), sl_wait⟩)
    (c_wait : PySem.W.codeIn K cd_wait "_law_waiting" = true)
    (k_wait : PySem.W.keepIn K (.ref f_wait) = true)
    (a_allref : PySem.W.nsIn K mainGlobals "_law_all_refused" = some (some (.ref f_allref)))
    (l_allref : K.lookup f_allref = some ⟨oc_allref, od_allref, .func (PySem.W.fnOf "_law_all_refused" "_law_all_refused" (defArgs sAllRef) (defBody sAllRef) (defScope sAllRef) .none kV_allref dc_allref pm_allref an_allref cd_allref ct_allref), sl_allref⟩)
    (c_allref : PySem.W.codeIn K cd_allref "_law_all_refused" = true)
    (k_allref : PySem.W.keepIn K (.ref f_allref) = true)
    (a_law : PySem.W.nsIn K mainGlobals "law" = some (some (.ref f_law)))
    (l_law : K.lookup f_law = some ⟨oc_law, od_law, .func (PySem.W.fnOf "law" "law" (defArgs sLaw) (defBody sLaw) (defScope sLaw) .none kV_law dc_law pm_law an_law cd_law ct_law), sl_law⟩)
    (c_law : PySem.W.codeIn K cd_law "law" = true)
    (k_law : PySem.W.keepIn K (.ref f_law) = true)
    (opq : PySem.W.nsIn K cStatics "thirdparty.any" = some none)
    (iniN : PySem.W.excInitIn K CN exBm "Exception.__new__" = true)
    (ovN : PySem.W.excOver K CN exBm = true)
    (hdN : PySem.W.hasDictIn K CN = true)
    (tkN : PySem.W.takerIn K CN "name" = some none)
    (saN : PySem.W.findIn K (.ref CN) "__setattr__" = some (some (.builtin "object.__setattr__")))
    (exCN : PySem.W.subIn K (.ref CN) (.type "BaseException") = some true)
    (exEN : PySem.W.subIn K (.ref CN) (.type "Exception") = some true)
    (stN : PySem.W.subIn K (.ref CN) (.type "StopIteration") = some false)
    (tyCN : PySem.W.typeIn K (.ref CN) = some (.type "type"))
    (kCN : PySem.W.keepIn K (.ref CN) = true)
    (slfN : PySem.W.mroIn K CN (.ref CN) = some true)
    (iCN : PySem.W.findIn K (.ref CN) "__init__" = some (some (.ref fIN)))
    (tIN : PySem.W.typeIn K (.ref fIN) = some (.type "function"))
    (supN : PySem.W.ks_superIn K CN CN "__init__" = some (some (.builtin "Exception.__init__")))
    (lfN : K.lookup fIN = some ⟨ocN, odN, .func (PySem.W.fnX "__init__" "BadName.__init__" (defArgs mInitN) (defBody mInitN) (defScope mInitN) [("__class__", ccN)] .none kVN dcN pmN anN (.ref cdaN) ctN), oslN⟩)
    (hcdN : PySem.W.codeIn K (.ref cdaN) "BadName.__init__" = true)
    (lcoN : K.lookup cdaN = some ⟨cclN, cddN, .fields vsN, ccsN⟩)
    (hvsN : vsN[2]? = some (.str fileN tfN))
    (hfiN : ((P.main.file : Str) == fileN) = true)
    (lceN : K.lookup ccN = some ⟨clN, cldN, .cell (some (.ref CN)), cslN⟩)
    (gaN : PySem.W.findIn K (.ref CN) "__getattribute__" = some (some (.builtin "BaseException.__getattribute__")))
    (ggN : PySem.W.findIn K (.ref CN) "__getattr__" = some none)
    (nfN : PySem.W.findIn K (.ref CN) "name" = some none)
    (iniB : PySem.W.excInitIn K CM exBm "Exception.__new__" = true)
    (ovB : PySem.W.excOver K CM exBm = true)
    (hdB : PySem.W.hasDictIn K CM = true)
    (tkB : PySem.W.takerIn K CM "word" = some none)
    (saB : PySem.W.findIn K (.ref CM) "__setattr__" = some (some (.builtin "object.__setattr__")))
    (exCB : PySem.W.subIn K (.ref CM) (.type "BaseException") = some true)
    (exEB : PySem.W.subIn K (.ref CM) (.type "Exception") = some true)
    (stB : PySem.W.subIn K (.ref CM) (.type "StopIteration") = some false)
    (tyCB : PySem.W.typeIn K (.ref CM) = some (.type "type"))
    (kCB : PySem.W.keepIn K (.ref CM) = true)
    (slfB : PySem.W.mroIn K CM (.ref CM) = some true)
    (iCB : PySem.W.findIn K (.ref CM) "__init__" = some (some (.ref fIB)))
    (tIB : PySem.W.typeIn K (.ref fIB) = some (.type "function"))
    (supB : PySem.W.ks_superIn K CM CM "__init__" = some (some (.builtin "Exception.__init__")))
    (lfB : K.lookup fIB = some ⟨ocB, odB, .func (PySem.W.fnX "__init__" "TooMany.__init__" (defArgs mInitB) (defBody mInitB) (defScope mInitB) [("__class__", ccB)] .none kVB dcB pmB anB (.ref cdaB) ctB), oslB⟩)
    (hcdB : PySem.W.codeIn K (.ref cdaB) "TooMany.__init__" = true)
    (lcoB : K.lookup cdaB = some ⟨cclB, cddB, .fields vsB, ccsB⟩)
    (hvsB : vsB[2]? = some (.str fileB tfB))
    (hfiB : ((P.main.file : Str) == fileB) = true)
    (lceB : K.lookup ccB = some ⟨clB, cldB, .cell (some (.ref CM)), cslB⟩)
    (gaB : PySem.W.findIn K (.ref CM) "__getattribute__" = some (some (.builtin "BaseException.__getattribute__")))
    (ggB : PySem.W.findIn K (.ref CM) "__getattr__" = some none)
    (nfB : PySem.W.findIn K (.ref CM) "word" = some none)
    (iniR : PySem.W.excInitIn K CR exBm "Exception.__new__" = true)
    (ovR : PySem.W.excOver K CR exBm = true)
    (hdR : PySem.W.hasDictIn K CR = true)
    (tkR : PySem.W.takerIn K CR "place" = some none)
    (saR : PySem.W.findIn K (.ref CR) "__setattr__" = some (some (.builtin "object.__setattr__")))
    (exCR : PySem.W.subIn K (.ref CR) (.type "BaseException") = some true)
    (exER : PySem.W.subIn K (.ref CR) (.type "Exception") = some true)
    (tyCR : PySem.W.typeIn K (.ref CR) = some (.type "type"))
    (kCR : PySem.W.keepIn K (.ref CR) = true)
    (slfR : PySem.W.mroIn K CR (.ref CR) = some true)
    (iCR : PySem.W.findIn K (.ref CR) "__init__" = some (some (.ref fIR)))
    (tIR : PySem.W.typeIn K (.ref fIR) = some (.type "function"))
    (supR : PySem.W.ks_superIn K CR CR "__init__" = some (some (.builtin "Exception.__init__")))
    (lfR : K.lookup fIR = some ⟨ocR, odR, .func (PySem.W.fnX "__init__" "BadRound.__init__" (defArgs mInitR) (defBody mInitR) (defScope mInitR) [("__class__", ccR)] .none kVR dcR pmR anR (.ref cdaR) ctR), oslR⟩)
    (hcdR : PySem.W.codeIn K (.ref cdaR) "BadRound.__init__" = true)
    (lcoR : K.lookup cdaR = some ⟨cclR, cddR, .fields vsR, ccsR⟩)
    (hvsR : vsR[2]? = some (.str fileR tfR))
    (hfiR : ((P.main.file : Str) == fileR) = true)
    (lceR : K.lookup ccR = some ⟨clR, cldR, .cell (some (.ref CR)), cslR⟩)
    (gaR : PySem.W.findIn K (.ref CR) "__getattribute__" = some (some (.builtin "BaseException.__getattribute__")))
    (ggR : PySem.W.findIn K (.ref CR) "__getattr__" = some none)
    (nfR : PySem.W.findIn K (.ref CR) "place" = some none)
    (htop : (P.main.scope.names.lookup ("super" : Str)).isSome = false)
    (nn : PySem.W.exmOne K (.ref CN) (.ref CN) = some true)
    (rn : PySem.W.exmOne K (.ref CR) (.ref CN) = some false)
    (rr : PySem.W.exmOne K (.ref CR) (.ref CR) = some true)
    (mn : PySem.W.exmOne K (.ref CM) (.ref CN) = some false)
    (mr : PySem.W.exmOne K (.ref CM) (.ref CR) = some false)
    (mm : PySem.W.exmOne K (.ref CM) (.ref CM) = some true) :
    ∃ fd : FuncData, (∀ (s : Shared) (v : Value), BindsTo s fd ⟨[v], []⟩ [("_law_script", v)]) ∧ ∀ base : Heap, K.In base → base.Ns mainGlobals mg → FnOk P w K mg base (L2.CX P w) 11 fa fd ["_law_script"] (spLaw K) := by
  have e := hfa.symm.trans (PySem.W.mg_of X G a_law)
  cases e
  have m_len := PySem.W.mg_none_of X G z_len
  have m_int := PySem.W.mg_none_of X G z_int
  have m_list := PySem.W.mg_none_of X G z_list
  have m_tuple := PySem.W.mg_none_of X G z_tuple
  have m_min := PySem.W.mg_none_of X G z_min
  have m_range := PySem.W.mg_none_of X G z_range
  have m_sorted := PySem.W.mg_none_of X G z_sorted
  have m_all := PySem.W.mg_none_of X G z_all
  have m_isinstance := PySem.W.mg_none_of X G z_isinstance
  have m_bool := PySem.W.mg_none_of X G z_bool
  have m_super := PySem.W.mg_none_of X G z_super
  have m_MOST := PySem.W.mg_of X G z_MOST
  have F_isint := fun_mk (st := sIsInteger) l_isint c_isint k_isint
  have b_isint := F_isint.binds (ps := ["thing"]) fun _ _ _ _ _ _ us hl => match us, hl with | [_], _ => rfl
  have F_isnat := fun_mk (st := sIsNatural) l_isnat c_isnat k_isnat
  have b_isnat := F_isnat.binds (ps := ["thing"]) fun _ _ _ _ _ _ us hl => match us, hl with | [_], _ => rfl
  have F_isrow := fun_mk (st := sIsRow) l_isrow c_isrow k_isrow
  have b_isrow := F_isrow.binds (ps := ["thing"]) fun _ _ _ _ _ _ us hl => match us, hl with | [_], _ => rfl
  have F_ispair := fun_mk (st := sIsPair) l_ispair c_ispair k_ispair
  have b_ispair := F_ispair.binds (ps := ["thing"]) fun _ _ _ _ _ _ us hl => match us, hl with | [_], _ => rfl
  have F_natrow := fun_mk (st := sNatRow) l_natrow c_natrow k_natrow
  have b_natrow := F_natrow.binds (ps := ["thing"]) fun _ _ _ _ _ _ us hl => match us, hl with | [_], _ => rfl
  have F_natset := fun_mk (st := sNatSet) l_natset c_natset k_natset
  have b_natset := F_natset.binds (ps := ["thing"]) fun _ _ _ _ _ _ us hl => match us, hl with | [_], _ => rfl
  have F_parts := fun_mk (st := sPartsOf) l_parts c_parts k_parts
  have b_parts := F_parts.binds (ps := ["row"]) fun _ _ _ _ _ _ us hl => match us, hl with | [_], _ => rfl
  have F_isround := fun_mk (st := sIsRound) l_isround c_isround k_isround
  have b_isround := F_isround.binds (ps := ["thing"]) fun _ _ _ _ _ _ us hl => match us, hl with | [_], _ => rfl
  have F_islook := fun_mk (st := sIsLook) l_islook c_islook k_islook
  have b_islook := F_islook.binds (ps := ["name", "look", "names"]) fun _ _ _ _ _ _ us hl => match us, hl with | [_, _, _], _ => rfl
  have F_lies := fun_mk (st := sLies) l_lies c_lies k_lies
  have b_lies := F_lies.binds (ps := ["one", "other"]) fun _ _ _ _ _ _ us hl => match us, hl with | [_, _], _ => rfl
  have F_nest := fun_mk (st := sNest) l_nest c_nest k_nest
  have b_nest := F_nest.binds (ps := ["pairs"]) fun _ _ _ _ _ _ us hl => match us, hl with | [_], _ => rfl
  have F_ck := fun_mk (st := sChecked) l_ck c_ck k_ck
  have b_ck := F_ck.binds (ps := ["names", "least", "most"]) fun _ _ _ _ _ _ us hl => match us, hl with | [_, _, _], _ => rfl
  have F_run := fun_mk (st := sLookRun) l_run c_run k_run
  have b_run := F_run.binds (ps := ["schedule"]) fun _ _ _ _ _ _ us hl => match us, hl with | [_], _ => rfl
  have F_sched := fun_mk (st := sLookSched) l_sched c_sched k_sched
  have b_sched := F_sched.binds (ps := ["row"]) fun _ _ _ _ _ _ us hl => match us, hl with | [_], _ => rfl
  have F_waits := fun_mk (st := sWaits) l_waits c_waits k_waits
  have b_waits := F_waits.binds (ps := ["row"]) fun _ _ _ _ _ _ us hl => match us, hl with | [_], _ => rfl
  have F_wr := fun_mk (st := sWaiting) l_wr c_wr k_wr
  have b_wr := F_wr.binds (ps := ["names"]) fun _ _ _ _ _ _ us hl => match us, hl with | [_], _ => rfl
  have F_drawn := fun_mk (st := sDrawn) l_drawn c_drawn k_drawn
  have b_drawn := F_drawn.binds (ps := ["_law_script"]) fun _ _ _ _ _ _ us hl => match us, hl with | [_], _ => rfl
  have F_take := fun_mk (st := sTake) l_take c_take k_take
  have b_take := F_take.binds (ps := ["_law_found", "_law_many"]) fun _ _ _ _ _ _ us hl => match us, hl with | [_, _], _ => rfl
  have F_lblocks := fun_mk (st := sLBlocks) l_lblocks c_lblocks k_lblocks
  have b_lblocks := F_lblocks.binds (ps := ["_law_found", "_law_names_here"]) fun _ _ _ _ _ _ us hl => match us, hl with | [_, _], _ => rfl
  have F_looks := fun_mk (st := sLooks) l_looks c_looks k_looks
  have b_looks := F_looks.binds (ps := ["_law_found", "_law_names_here"]) fun _ _ _ _ _ _ us hl => match us, hl with | [_, _], _ => rfl
  have F_refused := fun_mk (st := sRefused) l_refused c_refused k_refused
  have b_refused := F_refused.binds (ps := ["_law_word", "_law_one"]) fun _ _ _ _ _ _ us hl => match us, hl with | [_, _], _ => rfl
  have F_names := fun_mk (st := sNames) l_names c_names k_names
  have b_names := F_names.binds (ps := ["_law_found", "_law_size"]) fun _ _ _ _ _ _ us hl => match us, hl with | [_, _], _ => rfl
  have F_own := fun_mk (st := sOwn) l_own c_own k_own
  have b_own := F_own.binds (ps := ["_law_schedule"]) fun _ _ _ _ _ _ us hl => match us, hl with | [_], _ => rfl
  have F_within := fun_mk (st := sWithin) l_within c_within k_within
  have b_within := F_within.binds (ps := ["_law_one", "_law_other"]) fun _ _ _ _ _ _ us hl => match us, hl with | [_, _], _ => rfl
  have F_fit := fun_mk (st := sFit) l_fit c_fit k_fit
  have b_fit := F_fit.binds (ps := ["_law_looks_here"]) fun _ _ _ _ _ _ us hl => match us, hl with | [_], _ => rfl
  have F_any := fun_mk (st := sAny) l_any c_any k_any
  have b_any := F_any.binds (ps := ["_law_found", "_law_names_here"]) fun _ _ _ _ _ _ us hl => match us, hl with | [_, _], _ => rfl
  have F_each := fun_mk (st := sEach) l_each c_each k_each
  have b_each := F_each.binds (ps := ["_law_found", "_law_names_here"]) fun _ _ _ _ _ _ us hl => match us, hl with | [_, _], _ => rfl
  have F_lparts := fun_mk (st := sLParts) l_lparts c_lparts k_lparts
  have b_lparts := F_lparts.binds (ps := ["_law_names_here"]) fun _ _ _ _ _ _ us hl => match us, hl with | [_], _ => rfl
  have F_due := fun_mk (st := sDue) l_due c_due k_due
  have b_due := F_due.binds (ps := ["_law_names_here"]) fun _ _ _ _ _ _ us hl => match us, hl with | [_], _ => rfl
  have F_wait := fun_mk (st := sLWait) l_wait c_wait k_wait
  have b_wait := F_wait.binds (ps := ["_law_found"]) fun _ _ _ _ _ _ us hl => match us, hl with | [_], _ => rfl
  have F_allref := fun_mk (st := sAllRef) l_allref c_allref k_allref
  have b_allref := F_allref.binds (ps := ["_law_found", "_law_names_here"]) fun _ _ _ _ _ _ us hl => match us, hl with | [_, _], _ => rfl
  have F_law := fun_mk (st := sLaw) l_law c_law k_law
  have b_law := F_law.binds (ps := ["_law_script"]) fun _ _ _ _ _ _ us hl => match us, hl with | [_], _ => rfl
  refine ⟨PySem.W.fnOf "law" "law" (defArgs sLaw) (defBody sLaw) (defScope sLaw) .none kV_law dc_law pm_law an_law cd_law ct_law, fun s v => .of_eq rfl, fun base _ _ => ?_⟩
  have xN : XC K CN fIN "name" := ⟨iniN, ovN, hdN, tkN, saN, exCN, exEN, tyCN, kCN, slfN, iCN, tIN, supN, opq⟩
  have xB : XC K CM fIB "word" := ⟨iniB, ovB, hdB, tkB, saB, exCB, exEB, tyCB, kCB, slfB, iCB, tIB, supB, opq⟩
  have xR : XC K CR fIR "place" := ⟨iniR, ovR, hdR, tkR, saR, exCR, exER, tyCR, kCR, slfR, iCR, tIR, supR, opq⟩
  have T : Errs P w K mg CN CR CM := ⟨⟨fIN, xN, initRun_N xN m_super lfN hcdN lcoN hvsN hfiN lceN htop⟩, ⟨fIR, xR, initRun_R xR m_super lfR hcdR lcoR hvsR hfiR lceR htop⟩, ⟨fIB, xB, initRun_B xB m_super lfB hcdB lcoB hvsB hfiB lceB htop⟩, PySem.W.mg_of X G gN, PySem.W.mg_of X G gR, PySem.W.mg_of X G gM⟩
  have hst : ∀ C ∈ [CN, CM], PySem.W.subIn K (.ref C) (.type "StopIteration") = some false := fun C hC => by
    rcases List.mem_cons.mp hC with z | hC
    · rw [z]; exact stN
    · rw [List.mem_singleton.mp hC]; exact stB
  have TX : ErrsX K mg CN CR CM CT := ⟨PySem.W.mg_of X G gT, nn, rn, rr, mn, mr, mm, ⟨gaN, ggN, exCN, hdN⟩, ⟨gaR, ggR, exCR, hdR⟩, ⟨gaB, ggB, exCB, hdB⟩, nfN, nfR, nfB, hst⟩
  have D_isint := fok (base := base) (w := w) (P := P) F_isint (PySem.W.mg_of X G a_isint) b_isint (ok_is_integer F_isint m_isinstance m_int m_bool)
  have D_isnat := fok (base := base) (w := w) (P := P) F_isnat (PySem.W.mg_of X G a_isnat) b_isnat (ok_is_natural F_isnat D_isint)
  have D_isrow := fok (base := base) (w := w) (P := P) F_isrow (PySem.W.mg_of X G a_isrow) b_isrow (ok_is_row F_isrow m_isinstance m_list m_tuple)
  have D_ispair := fok (base := base) (w := w) (P := P) F_ispair (PySem.W.mg_of X G a_ispair) b_ispair (ok_pair F_ispair m_len D_isrow)
  have D_natrow := fok (base := base) (w := w) (P := P) F_natrow (PySem.W.mg_of X G a_natrow) b_natrow (ok_natrow F_natrow m_all D_isrow D_isnat)
  have D_natset := fok (base := base) (w := w) (P := P) F_natset (PySem.W.mg_of X G a_natset) b_natset (ok_natset F_natset m_all m_len m_range D_natrow)
  have D_lies := fok (base := base) (w := w) (P := P) F_lies (PySem.W.mg_of X G a_lies) b_lies (ok_lies F_lies m_all)
  have D_islook := fok (base := base) (w := w) (P := P) F_islook (PySem.W.mg_of X G a_islook) b_islook (ok_look F_islook D_natset D_lies)
  have D_nest := fok (base := base) (w := w) (P := P) F_nest (PySem.W.mg_of X G a_nest) b_nest (ok_nest F_nest m_all m_len m_range m_sorted D_lies)
  have D_isround := fok (base := base) (w := w) (P := P) F_isround (PySem.W.mg_of X G a_isround) b_isround (ok_round F_isround m_all D_isrow D_ispair D_natset D_islook D_nest)
  have D_waits := fok (base := base) (w := w) (P := P) F_waits (PySem.W.mg_of X G a_waits) b_waits (ok_waits F_waits T m_all m_len D_isround)
  have D_parts := fok (base := base) (w := w) (P := P) F_parts (PySem.W.mg_of X G a_parts) b_parts (ok_parts F_parts)
  have D_ck := fok (base := base) (w := w) (P := P) F_ck (PySem.W.mg_of X G a_ck) b_ck (ok_ck F_ck T m_len m_tuple m_sorted D_isrow D_isnat)
  have D_run := fok (base := base) (w := w) (P := P) F_run (PySem.W.mg_of X G a_run) b_run (ok_lookrun F_run T m_tuple m_sorted D_isrow D_isnat)
  have D_sched := fok (base := base) (w := w) (P := P) F_sched (PySem.W.mg_of X G a_sched) b_sched (ok_sched F_sched T m_len m_tuple m_sorted D_isround)
  have D_wr := gok (base := base) (w := w) (P := P) F_wr (PySem.W.mg_of X G a_wr) b_wr (ok_wr F_wr m_tuple m_sorted m_MOST D_ck D_parts)
  have D_drawn := fok (base := base) (w := w) (P := P) F_drawn (PySem.W.mg_of X G a_drawn) b_drawn (ok_drawn F_drawn m_len m_int m_min m_range)
  have D_take := fok (base := base) (w := w) (P := P) F_take (PySem.W.mg_of X G a_take) b_take (ok_take F_take m_len m_int)
  have D_lblocks := fok (base := base) (w := w) (P := P) F_lblocks (PySem.W.mg_of X G a_lblocks) b_lblocks (ok_lblocks F_lblocks m_len m_tuple D_take)
  have D_looks := fok (base := base) (w := w) (P := P) F_looks (PySem.W.mg_of X G a_looks) b_looks (ok_looks F_looks m_len m_range m_tuple D_take)
  have D_refused := fok (base := base) (w := w) (P := P) F_refused (PySem.W.mg_of X G a_refused) b_refused (ok_refused F_refused T TX m_list D_run D_sched D_wr D_waits)
  have D_names := fok (base := base) (w := w) (P := P) F_names (PySem.W.mg_of X G a_names) b_names (ok_names F_names m_range D_take)
  have D_own := fok (base := base) (w := w) (P := P) F_own (PySem.W.mg_of X G a_own) b_own (ok_own F_own m_tuple m_sorted m_list)
  have D_within := fok (base := base) (w := w) (P := P) F_within (PySem.W.mg_of X G a_within) b_within (ok_within F_within m_all)
  have D_fit := fok (base := base) (w := w) (P := P) F_fit (PySem.W.mg_of X G a_fit) b_fit (ok_fit F_fit D_within)
  have D_any := fok (base := base) (w := w) (P := P) F_any (PySem.W.mg_of X G a_any) b_any (ok_any F_any m_len m_range m_tuple m_list D_take D_run D_own D_fit D_isround)
  have D_each := fok (base := base) (w := w) (P := P) F_each (PySem.W.mg_of X G a_each) b_each (ok_each F_each m_len m_tuple m_list m_bool m_sorted m_isinstance D_looks D_sched D_run D_own D_waits)
  have D_lparts := fok (base := base) (w := w) (P := P) F_lparts (PySem.W.mg_of X G a_lparts) b_lparts (ok_lparts F_lparts m_len)
  have D_due := fok (base := base) (w := w) (P := P) F_due (PySem.W.mg_of X G a_due) b_due (ok_due F_due m_tuple m_sorted D_lparts)
  have D_wait := fok (base := base) (w := w) (P := P) F_wait (PySem.W.mg_of X G a_wait) b_wait (ok_wait F_wait m_len m_tuple m_list m_range m_sorted D_take D_names D_due D_wr D_isround D_looks D_lblocks D_sched D_run D_waits)
  have D_allref := fok (base := base) (w := w) (P := P) F_allref (PySem.W.mg_of X G a_allref) b_allref (ok_allref F_allref m_list D_take D_refused D_run D_waits)
  exact ok_law F_law D_drawn D_take D_names D_any D_each D_wait D_allref
theorem walk {l : PySem.W.OpenLaw} {q : Program} {loose : List Str} {XP : (Str → Option Value) → Heap → Prop} {YP : World → Heap → Prop} {d : DefRec} {K : Params → PySem.W.Frag} (hn : l.most = some 63) (hdf : d.params.defaults = [])
    (hY : ∀ (w : World) (h : Heap), YP w h → (K w.params).In h)
    (F : ∀ (w : World) (mg : Str → Option Value) (fa : Addr) (h : Heap), (K w.params).In h → h.Ns mainGlobals mg → mg d.name = some (.ref fa) →
      ∃ fd : FuncData, (∀ (s : Shared) (u : Value), BindsTo s fd ⟨[u], []⟩ [("_law_script", u)]) ∧ ∀ base : Heap, (K w.params).In base → base.Ns mainGlobals mg → FnOk l.prog w (K w.params) mg base (L2.CX l.prog w) 11 fa fd ["_law_script"] (spLaw (K w.params))) :
    PySem.W.WalkO q loose XP YP l.row.toRowW d [] (fun f vs => PySem.call f vs) :=
  L2.walk_of (n := 63) (k := 11) (x := "_law_script") (CX := fun w => L2.CX l.prog w) (sp := fun w => spLaw (K w.params)) hn (by decide) hdf ⟨rfl, by decide, by decide⟩ hY F (fun _ _ a ns hl _ hS => ⟨a, ns, rfl, hS, hl, fun _ => rfl⟩) fun w H s e s' z => by
    obtain ⟨_, _, _, _, _, _, _, _, _, _, _, _, z⟩ := z
    exact z
end K9
open PySem PySem.W PyProof.Rows
set_option maxRecDepth 100000 in
set_option maxHeartbeats 0 in
theorem PySem.Challenge.cw_nowaittasks_k09_whole_looks_and_waiting_holds : PySem.Challenge.rw_nowaittasks_k09_whole_looks_and_waiting.Holds := by
  w_on; o_law; k_head; (case hw => w_witness2)
  k_fill
  refine K9.walk (l := PySem.Challenge.rw_nowaittasks_k09_whole_looks_and_waiting) rfl rfl (fun w h Y => PySem.W.kIn_of Y) ?F
  case F =>
    intro w mg fa h KX G hmg
    refine' K9.all_mk KX G hmg ?z_len ?z_int ?z_list ?z_tuple ?z_min ?z_range ?z_sorted ?z_all ?z_isinstance ?z_bool ?z_super ?z_MOST ?gN ?gR ?gM ?gT ?a_isint ?l_isint ?c_isint ?k_isint ?a_isnat ?l_isnat ?c_isnat ?k_isnat ?a_isrow ?l_isrow ?c_isrow ?k_isrow ?a_ispair ?l_ispair ?c_ispair ?k_ispair ?a_natrow ?l_natrow ?c_natrow ?k_natrow ?a_natset ?l_natset ?c_natset ?k_natset ?a_parts ?l_parts ?c_parts ?k_parts ?a_isround ?l_isround ?c_isround ?k_isround ?a_islook ?l_islook ?c_islook ?k_islook ?a_lies ?l_lies ?c_lies ?k_lies ?a_nest ?l_nest ?c_nest ?k_nest ?a_ck ?l_ck ?c_ck ?k_ck ?a_run ?l_run ?c_run ?k_run ?a_sched ?l_sched ?c_sched ?k_sched ?a_waits ?l_waits ?c_waits ?k_waits ?a_wr ?l_wr ?c_wr ?k_wr ?a_drawn ?l_drawn ?c_drawn ?k_drawn ?a_take ?l_take ?c_take ?k_take ?a_lblocks ?l_lblocks ?c_lblocks ?k_lblocks ?a_looks ?l_looks ?c_looks ?k_looks ?a_refused ?l_refused ?c_refused ?k_refused ?a_names ?l_names ?c_names ?k_names ?a_own ?l_own ?c_own ?k_own ?a_within ?l_within ?c_within ?k_within ?a_fit ?l_fit ?c_fit ?k_fit ?a_any ?l_any ?c_any ?k_any ?a_each ?l_each ?c_each ?k_each ?a_lparts ?l_lparts ?c_lparts ?k_lparts ?a_due ?l_due ?c_due ?k_due ?a_wait ?l_wait ?c_wait ?k_wait ?a_allref ?l_allref ?c_allref ?k_allref ?a_law ?l_law ?c_law ?k_law ?opq ?iniN ?ovN ?hdN ?tkN ?saN ?exCN ?exEN ?stN ?tyCN ?kCN ?slfN ?iCN ?tIN ?supN ?lfN ?hcdN ?lcoN ?hvsN ?hfiN ?lceN ?gaN ?ggN ?nfN ?iniB ?ovB ?hdB ?tkB ?saB ?exCB ?exEB ?stB ?tyCB ?kCB ?slfB ?iCB ?tIB ?supB ?lfB ?hcdB ?lcoB ?hvsB ?hfiB ?lceB ?gaB ?ggB ?nfB ?iniR ?ovR ?hdR ?tkR ?saR ?exCR ?exER ?tyCR ?kCR ?slfR ?iCR ?tIR ?supR ?lfR ?hcdR ?lcoR ?hvsR ?hfiR ?lceR ?gaR ?ggR ?nfR ?htop ?nn ?rn ?rr ?mn ?mr ?mm
    (case z_len => k_is)
    (case z_int => k_is)
    (case z_list => k_is)
    (case z_tuple => k_is)
    (case z_min => k_is)
    (case z_range => k_is)
    (case z_sorted => k_is)
    (case z_all => k_is)
    (case z_isinstance => k_is)
    (case z_bool => k_is)
    (case z_super => k_is)
    (case z_MOST => k_is)
    (case gN => k_is)
    (case gR => k_is)
    (case gM => k_is)
    (case gT => k_is)
    (case a_isint => k_is)
    (case l_isint => k_is)
    (case c_isint => k_is)
    (case k_isint => k_is)
    (case a_isnat => k_is)
    (case l_isnat => k_is)
    (case c_isnat => k_is)
    (case k_isnat => k_is)
    (case a_isrow => k_is)
    (case l_isrow => k_is)
    (case c_isrow => k_is)
    (case k_isrow => k_is)
    (case a_ispair => k_is)
    (case l_ispair => k_is)
    (case c_ispair => k_is)
    (case k_ispair => k_is)
    (case a_natrow => k_is)
    (case l_natrow => k_is)
    (case c_natrow => k_is)
    (case k_natrow => k_is)
    (case a_natset => k_is)
    (case l_natset => k_is)
    (case c_natset => k_is)
    (case k_natset => k_is)
    (case a_parts => k_is)
    (case l_parts => k_is)
    (case c_parts => k_is)
    (case k_parts => k_is)
    (case a_isround => k_is)
    (case l_isround => k_is)
    (case c_isround => k_is)
    (case k_isround => k_is)
    (case a_islook => k_is)
    (case l_islook => k_is)
    (case c_islook => k_is)
    (case k_islook => k_is)
    (case a_lies => k_is)
    (case l_lies => k_is)
    (case c_lies => k_is)
    (case k_lies => k_is)
    (case a_nest => k_is)
    (case l_nest => k_is)
    (case c_nest => k_is)
    (case k_nest => k_is)
    (case a_ck => k_is)
    (case l_ck => k_is)
    (case c_ck => k_is)
    (case k_ck => k_is)
    (case a_run => k_is)
    (case l_run => k_is)
    (case c_run => k_is)
    (case k_run => k_is)
    (case a_sched => k_is)
    (case l_sched => k_is)
    (case c_sched => k_is)
    (case k_sched => k_is)
    (case a_waits => k_is)
    (case l_waits => k_is)
    (case c_waits => k_is)
    (case k_waits => k_is)
    (case a_wr => k_is)
    (case l_wr => k_is)
    (case c_wr => k_is)
    (case k_wr => k_is)
    (case a_drawn => k_is)
    (case l_drawn => k_is)
    (case c_drawn => k_is)
    (case k_drawn => k_is)
    (case a_take => k_is)
    (case l_take => k_is)
    (case c_take => k_is)
    (case k_take => k_is)
    (case a_lblocks => k_is)
    (case l_lblocks => k_is)
    (case c_lblocks => k_is)
    (case k_lblocks => k_is)
    (case a_looks => k_is)
    (case l_looks => k_is)
    (case c_looks => k_is)
    (case k_looks => k_is)
    (case a_refused => k_is)
    (case l_refused => k_is)
    (case c_refused => k_is)
    (case k_refused => k_is)
    (case a_names => k_is)
    (case l_names => k_is)
    (case c_names => k_is)
    (case k_names => k_is)
    (case a_own => k_is)
    (case l_own => k_is)
    (case c_own => k_is)
    (case k_own => k_is)
    (case a_within => k_is)
    (case l_within => k_is)
    (case c_within => k_is)
    (case k_within => k_is)
    (case a_fit => k_is)
    (case l_fit => k_is)
    (case c_fit => k_is)
    (case k_fit => k_is)
    (case a_any => k_is)
    (case l_any => k_is)
    (case c_any => k_is)
    (case k_any => k_is)
    (case a_each => k_is)
    (case l_each => k_is)
    (case c_each => k_is)
    (case k_each => k_is)
    (case a_lparts => k_is)
    (case l_lparts => k_is)
    (case c_lparts => k_is)
    (case k_lparts => k_is)
    (case a_due => k_is)
    (case l_due => k_is)
    (case c_due => k_is)
    (case k_due => k_is)
    (case a_wait => k_is)
    (case l_wait => k_is)
    (case c_wait => k_is)
    (case k_wait => k_is)
    (case a_allref => k_is)
    (case l_allref => k_is)
    (case c_allref => k_is)
    (case k_allref => k_is)
    (case a_law => k_is)
    (case l_law => k_is)
    (case c_law => k_is)
    (case k_law => k_is)
    (case opq => k_is)
    (case iniN => kx_is)
    (case ovN => kx_is)
    (case hdN => k_is)
    (case tkN => k_is)
    (case saN => k_is)
    (case exCN => k_is)
    (case exEN => k_is)
    (case stN => k_is)
    (case tyCN => k_is)
    (case kCN => k_is)
    (case slfN => k_is)
    (case iCN => k_is)
    (case tIN => k_is)
    (case supN => ks_is)
    (case lfN => k_is)
    (case hcdN => k_is)
    (case lcoN => k_is)
    (case hvsN => exact rfl)
    (case hfiN => first | exact rfl | decide +kernel)
    (case lceN => k_is)
    (case gaN => k_is)
    (case ggN => k_is)
    (case nfN => k_is)
    (case iniB => kx_is)
    (case ovB => kx_is)
    (case hdB => k_is)
    (case tkB => k_is)
    (case saB => k_is)
    (case exCB => k_is)
    (case exEB => k_is)
    (case stB => k_is)
    (case tyCB => k_is)
    (case kCB => k_is)
    (case slfB => k_is)
    (case iCB => k_is)
    (case tIB => k_is)
    (case supB => ks_is)
    (case lfB => k_is)
    (case hcdB => k_is)
    (case lcoB => k_is)
    (case hvsB => exact rfl)
    (case hfiB => first | exact rfl | decide +kernel)
    (case lceB => k_is)
    (case gaB => k_is)
    (case ggB => k_is)
    (case nfB => k_is)
    (case iniR => kx_is)
    (case ovR => kx_is)
    (case hdR => k_is)
    (case tkR => k_is)
    (case saR => k_is)
    (case exCR => k_is)
    (case exER => k_is)
    (case tyCR => k_is)
    (case kCR => k_is)
    (case slfR => k_is)
    (case iCR => k_is)
    (case tIR => k_is)
    (case supR => ks_is)
    (case lfR => k_is)
    (case hcdR => k_is)
    (case lcoR => k_is)
    (case hvsR => exact rfl)
    (case hfiR => first | exact rfl | decide +kernel)
    (case lceR => k_is)
    (case gaR => k_is)
    (case ggR => k_is)
    (case nfR => k_is)
    (case htop => first | exact rfl | decide +kernel)
    (case nn => kts_exm)
    (case rn => kts_exm)
    (case rr => kts_exm)
    (case mn => kts_exm)
    (case mr => kts_exm)
    (case mm => kts_exm)
#print axioms PySem.Challenge.cw_nowaittasks_k09_whole_looks_and_waiting_holds
