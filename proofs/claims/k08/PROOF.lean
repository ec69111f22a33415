import PyProof.Rows.All
import Wide.All
import OpenK.AllK
import Wide.FinOn
import HandS.ForMost
import HandS.ForExc
import HandS.ExcInit
import HandS.ExcSuper
import KE.KExcLine
import PyProof.FString
import PyProof.FString4
import HandS.TryMany
import HandS.ExcField
import HandS.IsInst
import HandS.Property
import HandS.TupAny
import HandS.SortKw
import HandS.Evl
import HandS.Conv
import HandS.More
import HandS.Walk
import KE.SortKeyHeap
import KE.SortData
import PySem.Challenge.RW_nowaittasks_k08_told_steps_each_row_come
import KE.RegKSuper
import KE.RegKTryMore
set_option Elab.async false
set_option linter.all false
set_option maxRecDepth 100000
set_option maxHeartbeats 8000000
/-! Er: errors of the program: a class over a class over Exception, whose own __init__ says super().__init__(text) and then stores one attribute. -/
namespace Er
open PySem PySem.Spec PyProof.Rows L2 Builtin Builtin.ObjectAttr
abbrev exBm : List Value := [.type "Exception", .type "BaseException", .type "object"]
/-- the text handed to super().__init__ : a str, nothing else changes -/
def TxtArg (prog : Program) (w : World) (A : Around) (E : Value → Shared → Prop) (env : Env) (m : Str → Option Value) (eT : Expr) : Prop :=
  ∀ (s : Shared) (Q : Value → Shared → Prop), s.heap.Ns env.locals m → (∀ x tk t', Q (.str x tk) { s with toks := t' }) → wpAny (model prog w) A (eval eT env) Q E s

section
variable {prog : Program} {w : World} {A : Around} {E : Value → Shared → Prop} {R : Result → Shared → Prop} {h : Heap} {g : Array GenState} {d : Drawn} {t : Nat} {os : OsState}
/-- self.f = v, the first attribute of an exception that stands at x -/
theorem store1 {K : W.Frag} {f : Str} {v : Value} {x C t1 : Addr} {Q : Unit → Shared → Prop} (X : K.In h) (hx : h.get? x = some (HandSPX.excO C t1)) (hov : W.excOver K C exBm = true) (hhd : W.hasDictIn K C = true) (htk : W.takerIn K C f = some none)
    (hsa : W.findIn K (.ref C) "__setattr__" = some (some (.builtin "object.__setattr__")))
    (hq : ∀ h' tk' dx, (∀ b o, b ≠ x → h.get? b = some o → h'.get? b = some o) → h.objs.size ≤ dx → dx ≠ x → h'.get? x = some { cls := .ref C, dict := some dx, data := .fields #[.ref t1, .none, .none, .none, .bool false, .none] } →
      h'.Ns1 dx (fun y => if y = f then some v else none) → Q () ⟨h', g, d, tk', os⟩) :
    wpAny (model prog w) A (setAttr (.ref x) f v) Q E ⟨h, g, d, t, os⟩ := by
  have I : W.InstAt h x (HandSPX.excO C t1) C none := ⟨hx, rfl, rfl, trivial⟩
  have hxs : x ≠ h.objs.size := Nat.ne_of_lt (Heap.lt_size hx)
  refine W.set_plain X I hsa (W.osa_openX F.store_Exception X I hov htk fun b => ?_)
  obtain ⟨cd, hc, hd'⟩ := W.any_some hhd
  have hcls : W.Looks (model prog w) h (classData C) cd := W.looks_clsIn X hc
  obtain ⟨nm, bs, mro, ns, qn, hd, sn, sb, ab, col, del⟩ := cd
  dsimp only at hd'
  subst hd'
  show wpAny _ _ (storeInOwnDict (.ref x) (.ref C) _ f v b) _ _ _
  unfold storeInOwnDict ownDictForStores
  repeat (first | with_reducible refine HandSPX.store_in_new ?_ ?_ | with_reducible refine wpAny_loadPart_at hx ?_ | with_reducible refine hcls.at ?_ | wp_step)
  · exact ⟨_, #[], _, (Heap.get?_update_ne _ _ _ _ hxs.symm).trans (Heap.get?_push_at rfl rfl), rfl, fun e he => absurd he (by simp), fun _ => rfl⟩
  · intro h' tk' hn hs
    have hx1 : (h.push { cls := .type "dict", data := .dict #[] }).get? x = some (HandSPX.excO C t1) := Heap.get?_push_of_some _ hx
    refine hq h' tk' h.objs.size (fun b o hb ho => ?_) (Nat.le_refl _) hxs.symm ((hs.2 x hxs).trans (Heap.get?_update_self _ hx1 rfl)) hn
    have e1 := hs.2 b (Nat.ne_of_lt (Heap.lt_size ho))
    exact e1.trans ((Heap.get?_update_ne _ _ _ _ hb).trans (Heap.get?_push_of_some _ ho))
end
end Er
namespace Er
open PySem PySem.Spec PyProof.Rows L2 Builtin Builtin.ObjectAttr

/-- what the written part says of the class at C with its __init__ at fI -/
structure XC (K : PySem.W.Frag) (C fI : Addr) (f : Str) : Prop where
  ini : PySem.W.excInitIn K C exBm "Exception.__new__" = true
  ov : PySem.W.excOver K C exBm = true
  hd : PySem.W.hasDictIn K C = true
  tk : PySem.W.takerIn K C f = some none
  sa : PySem.W.findIn K (.ref C) "__setattr__" = some (some (.builtin "object.__setattr__"))
  exC : PySem.W.subIn K (.ref C) (.type "BaseException") = some true
  exE : PySem.W.subIn K (.ref C) (.type "Exception") = some true
  tyC : PySem.W.typeIn K (.ref C) = some (.type "type")
  kC : PySem.W.keepIn K (.ref C) = true
  slf : PySem.W.mroIn K C (.ref C) = some true
  iC : PySem.W.findIn K (.ref C) "__init__" = some (some (.ref fI))
  tI : PySem.W.typeIn K (.ref fI) = some (.type "function")
  sup : PySem.W.ks_superIn K C C "__init__" = some (some (.builtin "Exception.__init__"))
  opq : PySem.W.nsIn K cStatics "thirdparty.any" = some none

abbrev initBody (f x : Str) (eT : Expr) (p0 p1 p2 p3 p4 p5 p6 p7 p8 : Pos) : List Stmt :=
  [.Expr (.Call (.Attribute (.Call (.Name "super" p0) [] [] p1) "__init__" p2) [eT] [] p3) p4, .Assign [.Attribute (.Name "self" p5) f p6] (.Name x p7) p8]
abbrev args2 (a : Addr) (x : Str) (u : Value) : List (Str × Value) := [("self", .ref a), (x, u)]

section
variable {prog : Program} {w : World} {A : Around} {R : Result → Shared → Prop} {h : Heap} {g : Array GenState} {d : Drawn} {t : Nat} {os : OsState}
theorem run_init {K : W.Frag} {mg : Str → Option Value} {f x nm qual : Str} {params : Arguments} {scope : Scope} {eT : Expr} {p0 p1 p2 p3 p4 p5 p6 p7 p8 : Pos} {fI cc cda C a t1 : Addr} {u : Value}
    {dV kV doc pm ct oc ccl cl : Value} {an od cdd cld : Option Addr} {osl ccs csl : Array (Option Value)} {vs : Array Value} {file : Str} {tf : Tok} {ar : Arg} {body : List Stmt}
    (T : XC K C fI f) (X : K.In h) (hlim : h.NoLimit) (hG : h.Ns mainGlobals mg) (hms : mg "super" = none) (hB : ∃ mb, h.Ns builtinsNs mb ∧ ∀ y : Str, y ≠ "__name__" → mb y = bootBuiltins y) (hroom : A.depth < recursionLimit)
    (lf : K.lookup fI = some ⟨oc, od, .func (W.fnX nm qual params body scope [("__class__", cc)] dV kV doc pm an (.ref cda) ct), osl⟩)
    (hbody : body = initBody f x eT p0 p1 p2 p3 p4 p5 p6 p7 p8)
    (hcd : W.codeIn K (.ref cda) qual = true) (lcode : K.lookup cda = some ⟨ccl, cdd, .fields vs, ccs⟩) (hvs : vs[2]? = some (.str file tf)) (hfile : ((prog.main.file : Str) == file) = true)
    (lcell : K.lookup cc = some ⟨cl, cld, .cell (some (.ref C)), csl⟩) (htop : (prog.main.scope.names.lookup ("super" : Str)).isSome = false)
    (hpar : (params.posonlyargs ++ params.args).head? = some ar) (har : ar.arg = "self")
    (hbind : ∀ s : Shared, BindsTo s (W.fnX nm qual params body scope [("__class__", cc)] dV kV doc pm an (.ref cda) ct) ⟨[.ref a, u], []⟩ (args2 a x u))
    (ksup : scope.names.lookup ("super" : Str) = some .globalImplicit) (kcls : scope.names.lookup ("__class__" : Str) = some .free) (kslf : scope.names.lookup ("self" : Str) = some .local) (kx : scope.names.lookup x = some .local)
    (kk : scope.kind = .function) (kco : scope.isCoroutine = false) (kgen : scope.isGenerator = false) (kcell : ∀ y ∈ scope.names, y.2 ≠ .cell) (hxs : ¬ x = "self") (hxd : (x == ("__debug__" : Str)) = false)
    (hT : ∀ L E, TxtArg prog w (A.deeper (W.envX qual scope L fI (.ref cda) [("__class__", cc)])) E (W.envX qual scope L fI (.ref cda) [("__class__", cc)]) (fun y => (args2 a x u).reverse.lookup y) eT)
    (hsw1 : ∀ L, swapsWith (.Name x p7) (some (.Attribute (.Name "self" p5) f p6)) p8.line (W.envX qual scope L fI (.ref cda) [("__class__", cc)]) = pure false)
    (hst : ∀ L, starEach [eT] (W.envX qual scope L fI (.ref cda) [("__class__", cc)]) = [(false, eval eT (W.envX qual scope L fI (.ref cda) [("__class__", cc)]))])
    (hev : ∀ L, ∃ pl : Sem Bool, eval (.Call (.Attribute (.Call (.Name "super" p0) [] [] p1) "__init__" p2) [eT] [] p3) (W.envX qual scope L fI (.ref cda) [("__class__", cc)]) = (do
      let ov ← attributeBase (.Call (.Name "super" p0) [] [] p1) "__init__" (W.envX qual scope L fI (.ref cda) [("__class__", cc)]) (eval (.Call (.Name "super" p0) [] [] p1) (W.envX qual scope L fI (.ref cda) [("__class__", cc)]))
      standAt p2.atName
      let (f, first) ← holding [ov] (getMethod ov "__init__" pl)
      callWith p3 f first (backTo p3 (starEach [eT] (W.envX qual scope L fI (.ref cda) [("__class__", cc)]))) []))
    (hsw0 : ∀ L, swapsWith (.Call (.Attribute (.Call (.Name "super" p0) [] [] p1) "__init__" p2) [eT] [] p3) none p4.line (W.envX qual scope L fI (.ref cda) [("__class__", cc)]) = pure false)
    (he : h.get? a = some (HandSPX.excO C t1)) (hKa : K.lookup a = none)
    (hq : ∀ h' t' dx t2, (∀ b o, b ≠ a → h.get? b = some o → h'.get? b = some o) → h.objs.size ≤ dx → dx ≠ a → h'.get? a = some { cls := .ref C, dict := some dx, data := .fields #[.ref t2, .none, .none, .none, .bool false, .none] } →
      h'.Ns1 dx (fun y => if y = f then some u else none) → R (.ok (.ret .none)) ⟨h', g, d, t', os⟩) :
    codeAny (model prog w) A (.call (.ref fI) ⟨[.ref a, u], []⟩) R ⟨h, g, d, t, os⟩ := by
  subst hbody
  obtain ⟨nmC, N', qn, bs, bm, hdct, sn, sub, ab, col, dd, k0, k1, k2, k3, k5, hC, hTT⟩ := W.excInit_of X T.ini
  refine ks_codeAny_call_defAt hroom (X _ _ lf) rfl hlim (W.codeRec_of X hcd) rfl (hbind _) kcell (fun y hy => ?_) (fun h0 hns hk => ?_) kco kgen kk
  · rcases List.mem_cons.mp hy with rfl | hy
    · exact kslf
    rcases List.mem_cons.mp hy with rfl | hy
    · exact kx
    cases hy
  have X0 : K.In h0 := X.keeps hk
  have hns' : h0.Ns h.objs.size (fun y => (args2 a x u).reverse.lookup y) := hns
  have ha0 : h0.get? a = some (HandSPX.excO C t1) := hk _ _ he
  have I0 : W.InstAt h0 a (HandSPX.excO C t1) C none := ⟨ha0, rfl, rfl, trivial⟩
  obtain ⟨cdD, hcl⟩ : ∃ cd, W.clsIn K C = some cd := by
    obtain ⟨cd, q, _⟩ := W.any_some T.hd
    exact ⟨cd, q⟩
  obtain ⟨oD, hD1, hD2⟩ : ∃ oD, h0.get? C = some oD ∧ oD.data = .cls cdD := by
    unfold W.clsIn at hcl
    split at hcl
    · rename_i c d' cd' sl ho
      cases hcl
      exact ⟨_, X0 _ _ ho, rfl⟩
    · cases hcl
  have aC : a ≠ C := W.ks_ne X0 I0 hcl
  obtain ⟨mb, hb1, hb2⟩ := hB
  obtain ⟨pl, hev⟩ := hev h.objs.size
  have look1 : (args2 a x u).reverse.lookup ("self" : Str) = some (Value.ref a) := by
    show ([(x, u), ("self", Value.ref a)] : List (Str × Value)).lookup ("self" : Str) = some (Value.ref a)
    have e1 : (("self" : Str) == x) = false := by simpa using fun z => hxs z.symm
    simp [List.lookup, e1]
  have look2 : (args2 a x u).reverse.lookup x = some u := by
    show ([(x, u), ("self", Value.ref a)] : List (Str × Value)).lookup x = some u
    simp [List.lookup]
  refine ks_wpAt_execs_cons (ks_wpAt_Expr_any (ks_wpAt_MethodCall (pl := pl) ?_ hev) (by show interactive (W.envX qual scope h.objs.size fI (.ref cda) [("__class__", cc)]) = false; unfold interactive; simp [W.envX, newEnv, kk]) (hsw0 _))
  refine ks_wpAt_super_base (ar := ar) ksup kcls (by decide) rfl (X0 _ _ lf) rfl hpar rfl (X0 _ _ lcode) rfl hvs hfile htop ?_
  refine W.ks_loadName_global kk ksup (Calls.loadGlobal_builtin (hG.keeps hk) hms (hb1.keeps hk) ((hb2 _ (by decide)).trans (by decide +kernel)) ⟨rfl, ?_⟩)
  refine wpAny_loadName_free kk kcls rfl ⟨_, X0 _ _ lcell, rfl⟩ ?_
  rw [har]
  refine wpAny_loadName_local (v := .ref a) kk kslf hns' look1 ?_
  refine ks_wpAny_isType_cls hD1 hD2 ⟨rfl, ?_⟩
  refine ks_wpAny_call_super hD1 hD2 ha0 rfl (fun c e => by cases e) (W.looks_mroIn X0 T.slf) (fun h1 e1 k1' => ?_)
  have X1 : K.In h1 := X0.keeps k1'
  have I1 : W.InstAt h1 a (HandSPX.excO C t1) C none := ⟨k1' _ _ ha0, rfl, rfl, trivial⟩
  have hsi := T.sup
  unfold W.ks_superIn at hsi
  rw [hcl] at hsi
  refine W.kxs_getMethod W.kxs_Exception e1 (W.looks_opaque X1 T.opq) (l₀ := cdD.mro) ?_ rfl X1 hsi (I1.type.andThen (W.looks_subIn X1 T.exE)) aC (by decide) ?_
  · exact fun A Q E s k q => wpAny_bind ((W.looks_clsIn X1 hcl) A _ E s k (wpAny_pure q))
  have k2' : ∀ b o, h0.get? b = some o → (h1.push (W.kxs_mw "Exception.__init__" a)).get? b = some o := fun b o z => Heap.get?_push_of_some _ (k1' _ _ z)
  have hu : (h1.push (W.kxs_mw "Exception.__init__" a)).get? h1.objs.size = some (W.kxs_mw "Exception.__init__" a) := Heap.get?_push_at rfl rfl
  show wpAny _ _ (callWith p3 (.ref h1.objs.size) [] (backTo p3 (starEach [eT] (W.envX qual scope h.objs.size fI (.ref cda) [("__class__", cc)]))) []) _ _ _
  rw [hst]
  refine W.kxs_callWith (i := "Exception.__init__") (x := a) rfl (Calls.evalArgs_plain (Calls.spliced_cons ?_))
  have hns2 : (h1.push (W.kxs_mw "Exception.__init__" a)).Ns h.objs.size (fun y => (args2 a x u).reverse.lookup y) := hns'.keeps k2'
  rw [if_neg Bool.false_ne_true]
  refine hT h.objs.size _ _ _ hns2 fun tx tk t' => ?_
  refine Calls.spliced_nil ⟨hu, ?_⟩
  refine PySem.ESX.call_bw (C := C) (k2' _ _ (hk _ _ hC)) (k2' _ _ ha0) hu (by show 1 ≤ sizeLine; decide) fun h3 t2 k3 e3 => ?_
  refine wpAt_of_wpAny (wpAny_execs_cons ?_)
  have kk3 : ∀ b o, b ≠ a → h0.get? b = some o → h3.get? b = some o := fun b o n z => k3 b o n (k2' _ _ z)
  have aL : h.objs.size ≠ a := Ne.symm (Nat.ne_of_lt (Heap.lt_size he))
  have X3 : K.In h3 := fun b o z => by
    have q := X0 b o z
    by_cases hb : b = a
    · subst hb
      rw [hKa] at z
      cases z
    · exact kk3 b o hb q
  have hns3 : h3.Ns h.objs.size (fun y => (args2 a x u).reverse.lookup y) := by
    obtain ⟨oL, es, ep, hL, r⟩ := hns'
    exact ⟨oL, es, ep, kk3 _ _ aL hL, r⟩
  refine plainObj_wpAny_Assign_Attribute ?_ (hsw1 _)
  refine PySem.ESX.ldL (v := u) hns3 look2 ?_ kk kx hxd
  refine PySem.ESX.ldL (v := .ref a) hns3 look1 ?_ kk kslf (by decide)
  refine store1 X3 e3 T.ov T.hd T.tk T.sa fun h4 t4 dx k4 n4 ne4 e4 s4 => ?_
  refine wpAny_execs_nil ?_
  refine hq h4 t4 dx t2 (fun b o n z => k4 b o n (kk3 b o n (hk b o z))) ?_ ne4 e4 s4
  obtain ⟨oL, es, ep, hL, r⟩ := hns3
  exact Nat.le_trans (Nat.le_of_lt (Heap.lt_size hL)) n4
end
end Er
namespace Er
open PySem PySem.Spec PyProof.Rows L2 Builtin Builtin.ObjectAttr

/-- called on a new exception at a, the __init__ at fI stores one attribute and returns -/
def InitRun (prog : Program) (w : World) (K : PySem.W.Frag) (mg : Str → Option Value) (C fI : Addr) (f : Str) (okU : Value → Prop) : Prop :=
  ∀ (A : Around) (R : Result → Shared → Prop) (h : Heap) (g : Array GenState) (d : Drawn) (t : Nat) (os : OsState) (a t1 : Addr) (u : Value), okU u → K.In h → h.NoLimit → h.Ns mainGlobals mg →
    (∃ mb, h.Ns builtinsNs mb ∧ ∀ y : Str, y ≠ "__name__" → mb y = bootBuiltins y) → A.depth < recursionLimit → h.get? a = some (HandSPX.excO C t1) → K.lookup a = none →
    (∀ h' t' dx t2, (∀ b o, b ≠ a → h.get? b = some o → h'.get? b = some o) → h.objs.size ≤ dx → dx ≠ a → h'.get? a = some { cls := .ref C, dict := some dx, data := .fields #[.ref t2, .none, .none, .none, .bool false, .none] } →
      h'.Ns1 dx (fun y => if y = f then some u else none) → R (.ok (.ret .none)) ⟨h', g, d, t', os⟩) →
    codeAny (model prog w) A (.call (.ref fI) ⟨[.ref a, u], []⟩) R ⟨h, g, d, t, os⟩

/-- C(e) made to be raised: the error's own dict is new and holds f = e -/
def tMkE (C : Addr) (f : Str) (okV : V → Prop) (ta : TA) : L2.St → Hp → XK → Prop := fun σ H Q => ta σ H fun vs H1 => ∃ v, vs = [v] ∧ okV v ∧ ∀ dx, H1 dx = none → Q (.ref C) (some dx) (upd H1 dx (.xd [(f, v)]))

section
variable {X : Cx} {e : Expr} {ta : TA} {f x : Str} {p pos : Pos} {C fI : Addr} {k : Nat} {okV : V → Prop} {okU : Value → Prop}
theorem pmk_er (T : XC X.K C fI f) (RI : InitRun X.prog X.w X.K X.mg C fI f okU) (hok : ∀ v u, RelV v u → okV v → okU u) (hr : Room (k + 1) X.A) (hg : Gl X x) (hm : X.mg x = some (.ref C)) (ha : PA X [e] ta)
    (hdb : (x == ("__debug__" : Str)) = false := by decide) (he : starEach [e] X.env = (false, eval e X.env) :: starEach [] X.env := by rfl) (hpl : (backTo pos (starEach [] X.env)).any (·.1) = false := by rfl) :
    PMk X (.Call (.Name x p) [e] [] pos) (tMkE C f okV ta) := by
  intro pins s σ H Q I h
  refine wpAny_Call_Name_kw (ld_glob I hg hm ?_ hdb)
  refine PySem.W.callWith_K (h₀ := X.base) I.ok.mod.kin T.kC (thn (ha.run pos pins s σ H _ I h) fun us s1 ⟨vs, H1, I1, r1, v, ev, hv, q1⟩ => ⟨I1.kIn, ?_⟩) he hpl
  subst ev
  show wpAny _ _ (call (.ref C) us) _ _ _
  obtain ⟨hp, g, dr, tk, os⟩ := s1
  cases r1 with
  | @cons _ u _ ur ra rr =>
  cases rr
  obtain ⟨nm, N', qn, bs, bm, hdct, sn, sub, ab, col, dd, k0, k1, k2, k3, k5, hC, hTT⟩ := PySem.W.excInit_of I1.kIn T.ini
  refine wpAny_call (HandSPX.call_own F.excBase_Exception hTT hC (PySem.W.looks_findIn I1.kIn T.iC) (fun self => PySem.W.bind_fn I1.kIn self T.tI) (by show 1 ≤ sizeLine; decide) ?_)
  have kk : ∀ b o, hp.get? b = some o → ((hp.push (PySem.W.kdv_tup [u])).push (HandSPX.excO C hp.objs.size)).get? b = some o := fun b o z => Heap.get?_push_of_some _ (Heap.get?_push_of_some _ z)
  have hget : ((hp.push (PySem.W.kdv_tup [u])).push (HandSPX.excO C hp.objs.size)).get? (hp.objs.size + 1) = some (HandSPX.excO C hp.objs.size) := by heap_get
  have nK : X.K.lookup (hp.objs.size + 1) = none := by
    cases z : X.K.lookup (hp.objs.size + 1) with
    | none => rfl
    | some o =>
      have y := Heap.lt_size (I1.kIn _ _ z)
      have y' : hp.objs.size + 1 < hp.objs.size := y
      omega
  have mb := I1.mod.blt
  obtain ⟨mb1, mb2, mb3⟩ := mb
  refine RI _ _ _ _ _ _ _ _ _ _ (hok _ _ ra hv) (I1.kIn.keeps kk) (I1.nolimit.keeps kk) ((I1.mod.glob.keeps I1.bk).keeps kk) ⟨mb1, (mb2.keeps I1.bk).keeps kk, mb3⟩ (hr.make C [u] []).depth hget nK fun h2 t2 dx ty k2 n2 ne2 e2 s2 => ?_
  have hsz : ((hp.push (PySem.W.kdv_tup [u])).push (HandSPX.excO C hp.objs.size)).objs.size = hp.objs.size + 2 := by simp [Heap.push]
  rw [hsz] at n2
  have na : ∀ {b : Addr} {o : Obj}, hp.get? b = some o → b ≠ hp.objs.size + 1 := fun {b o} z y => by
    have q := Heap.lt_size z
    rw [y] at q
    exact absurd q (Nat.not_lt.mpr (Nat.le_succ _))
  obtain ⟨G, g1, g2⟩ := restrict h2 fun b => decide (b ≠ hp.objs.size + 1)
  have gk : ∀ b, b ≠ hp.objs.size + 1 → G.get? b = h2.get? b := fun b hb => g1 b (decide_eq_true hb)
  have ge : G.get? (hp.objs.size + 1) = none := g2 _ (by simp)
  have nd : H1 dx = none := I1.hok.fresh (show hp.objs.size ≤ dx by have : hp.objs.size + 2 ≤ dx := n2; omega)
  have nHa : H1 (hp.objs.size + 1) = none := I1.hok.fresh (Nat.le_succ _)
  have J : Inv X pins σ (upd H1 dx (.xd [(f, v)])) ⟨G, g, dr, ty, os⟩ := by
    refine I1.laid (t' := ty) (a := dx) (o := .xd [(f, v)]) (h' := G) (fun b o z => ?_) (by have : hp.objs.size + 2 ≤ dx := n2; show hp.objs.size ≤ dx; omega) ?_
    · rw [gk b (na z)]
      exact k2 b o (na z) (kk b o z)
    · obtain ⟨oD, es, ep, hD, r⟩ := s2
      refine ⟨fun y => if y = f then some u else none, ⟨oD, es, ep, (gk dx ne2).trans hD, r⟩, fun y => ?_⟩
      show RelO (([(f, v)] : List (Str × V)).lookup y) (if y = f then some u else none)
      by_cases hy : y = f
      · subst hy
        rw [if_pos rfl]
        simp [List.lookup]
        exact ra
      · rw [if_neg hy]
        have z : (y == f) = false := by simpa using hy
        simp [List.lookup, z]
        trivial
  refine ⟨rfl, hp.objs.size + 1, _, _, ⟨G, g, dr, ty, os⟩, _, .ref C, some dx, rfl, J, fun b o z => ?_, ge, e2, ⟨rfl, rfl⟩, rfl, rfl, ?_, rfl, I1.bare, raises_own T.exC T.tyC, q1 dx nd⟩
  · by_cases hb : b = hp.objs.size + 1
    · rw [hb, ge] at z
      cases z
    · exact (gk b hb).symm.trans z
  · rw [upd_ne (Ne.symm ne2)]
    exact nHa
end
end Er
/-! try with several clauses, each with or without a name behind it -/
namespace Er
open PySem PySem.Spec PyProof.Rows L2

abbrev Suite := Addr → Value → Option Addr → TS
/-- behind a named clause the name is gone -/
def unName (i : Nat) (D : Ends) : Ends := { nx := fun σ H => D.nx (σ.set i none) H, rt := D.rt, bk := fun σ H => D.bk (σ.set i none) H, ct := fun σ H => D.ct (σ.set i none) H }
/-- what a chain of clauses wishes of an error of the body: (class, the name's slot if there is one, its suite's reading) -/
def wCh (K : PySem.W.Frag) (Wout : WX) (D : Ends) : List (Value × Option Nat × Suite) → WX
  | [] => Wout
  | (c, none, ts) :: r => fun cls d σ H => ∃ b, PySem.W.exmOne K cls c = some b ∧ (b = true → ∀ a, H a = none → ts a cls d D σ H) ∧ (b = false → wCh K Wout D r cls d σ H)
  | (c, some i, ts) :: r => fun cls d σ H => ∃ b, PySem.W.exmOne K cls c = some b ∧ (b = true → ∀ a, H a = none → ts a cls d (unName i D) (σ.set i (some (.ref a))) H) ∧ (b = false → wCh K Wout D r cls d σ H)
/-- the clauses' texts and their readings -/
inductive Clauses (X : Cx) : List ExceptHandler → List (Value × Option Nat × Suite) → Prop
  | nil : Clauses X [] []
  | plain {x : Str} {c : Value} {ts : Suite} {b0 : Stmt} {suite : List Stmt} {np p : Pos} {hds : List ExceptHandler} {l : List (Value × Option Nat × Suite)} (hc : Names X x c)
      (hs : ∀ (a : Addr) (oe : Obj) (cls : Value) (d : Option Addr) (pn : List (Addr × Obj)), Zc cls d oe → (∃ vs, oe.data = .fields vs) → PSs (X.suite a ((a, oe) :: pn)) (b0 :: suite) (ts a cls d)) (r : Clauses X hds l) :
      Clauses X (.ExceptHandler (some (.Name x np)) none (b0 :: suite) p :: hds) ((c, none, ts) :: l)
  | named {x n : Str} {i : Nat} {c : Value} {ts : Suite} {b0 : Stmt} {suite : List Stmt} {np p : Pos} {hds : List ExceptHandler} {l : List (Value × Option Nat × Suite)} (hc : Names X x c) (hi : X.N[i]? = some n) (hl : X.env.kindOf n = some .local)
      (hs : ∀ (a : Addr) (oe : Obj) (cls : Value) (d : Option Addr) (pn : List (Addr × Obj)), Zc cls d oe → (∃ vs, oe.data = .fields vs) → PSs (X.suite a ((a, oe) :: pn)) (b0 :: suite) (ts a cls d)) (r : Clauses X hds l) :
      Clauses X (.ExceptHandler (some (.Name x np)) (some n) (b0 :: suite) p :: hds) ((c, some i, ts) :: l)

/-- an error that came to a try of this frame -/
structure Came (X : Cx) (pins : List (Addr × Obj)) (σ : L2.St) (H : Hp) (a : Addr) (cls : Value) (d : Option Addr) (B : Heap) (sI s : Shared) : Prop where
  J : Inv X pins σ H sI
  nb : ∀ b o, sI.heap.get? b = some o → b ∉ frs X.stack → B.get? b = some o
  up : sI.heap.UpToSlots s.heap
  fl : HandSPX.FlyingZ B (X.env :: X.outer) a (Zc cls d) s.heap
  na : H a = none
  os : s.os = sI.os
  ag : AllBare s.gens
  nL : a ≠ X.env.locals
  nF : a ∉ X.fs

section
variable {X : Cx} {pins : List (Addr × Obj)} {σ : L2.St} {H : Hp} {a : Addr} {cls : Value} {d : Option Addr} {B : Heap} {sI s : Shared} {D : Ends} {Wout : WX}
theorem Came.inv (c : Came X pins σ H a cls d B sI s) : Inv X pins σ H s := c.J.landed c.nb c.fl.1 c.up c.os c.ag
theorem Came.on (c : Came X pins σ H a cls d B sI s) {h : Heap} (fl : HandSPX.FlyingZ B (X.env :: X.outer) a (Zc cls d) h) (u : s.heap.UpToSlots h) : Came X pins σ H a cls d B sI { s with heap := h } :=
  ⟨c.J, c.nb, c.up.trans u, fl, c.na, c.os, c.ag, c.nL, c.nF⟩
theorem Came.held (c : Came X pins σ H a cls d B sI s) : ∃ oe vs, s.heap.get? a = some oe ∧ Zc cls d oe ∧ oe.data = .fields vs ∧ Inv (X.suite a ((a, oe) :: (X.pn ++ pins))) [] σ H s := by
  obtain ⟨oe, vs, h1, h2, h3⟩ := c.fl.there
  exact ⟨oe, vs, h1, h2, h3, c.inv.suite h1 h3 c.na c.nL c.nF⟩
/-- one clause's test -/
theorem Came.test (c : Came X pins σ H a cls d B sI s) {x : Str} {cv : Value} {np : Pos} {b : Bool} (hc : Names X x cv) (hb : PySem.W.exmOne X.K cls cv = some b) {Q : Bool → Shared → Prop} {E : Value → Shared → Prop} (q : Q b s) :
    wpAny (model X.prog X.w) (X.A.mark (some (.ref a))) (eval (.Name x np) X.env) (fun v s1 => wpAny (model X.prog X.w) (X.A.mark (some (.ref a))) (excMatches (.ref a) v) Q E s1) E s := by
  obtain ⟨oe, vs, h1, h2, h3, S⟩ := c.held
  have LT : PySem.W.Looks (model X.prog X.w) s.heap (typeOf (.ref a)) cls := fun A Q E s k q => wpAny_typeOf_ref (k _ _ h1) (by rw [h2.1]; exact q)
  have LM := PySem.W.exm_one (M := model X.prog X.w) c.inv.kIn LT hb
  obtain ⟨hg, hd, hm | ⟨hm, hv, hn⟩⟩ := hc
  · exact ld_glob (X := X.suite a ((a, oe) :: (X.pn ++ pins))) S hg hm (LM.here q) hd
  · exact ld_blt (X := X.suite a ((a, oe) :: (X.pn ++ pins))) S hg hm hv (LM.here q) hn hd
/-- no clause is left: on it flies -/
theorem Came.out (c : Came X pins σ H a cls d B sI s) (hs : X.stack = X.env :: X.outer) (hf : X.env.frame = some X.env.locals) (tk : Takes X Wout) (w : Wout cls d σ H) :
    wpAny (model X.prog X.w) X.A (handleBy (.ref a) X.env []) (SP X pins D) X.xe s := by
  refine wpAny_handleBy_nil ?_
  have fl := c.fl
  obtain ⟨_, _, _, oe, vs, T, oT, ts, he, hz, hd, h1, hr⟩ := id fl
  have away : wpAny (model X.prog X.w) X.A (setFlight (.ref a) X.env.frame) (fun _ s4 => wpAny (model X.prog X.w) X.A (throw (.ref a) : Sem Flow) (SP X pins D) X.xe s4) X.xe s := by
    rw [hf]
    exact HandSPX.setFlight_upZ fl fun h4 held up4 => wpAny_throw (tk _ _ ⟨a, B, sI, pins, σ, H, cls, d, rfl, c.J, c.nb, c.up.trans up4, .inr (.inr (by rw [hs]; exact held)), c.na, c.os, c.ag, w⟩)
  unfold PySem.passOn
  refine wpAny_bind (wpAny_field he hd h1 ?_)
  rw [if_neg (by simp)]
  first
    | exact wpAny_bind (wpAny_pure (wpAny_bind away))
    | exact wpAny_bind away
theorem chain_ok (hs : X.stack = X.env :: X.outer) (hf : X.env.frame = some X.env.locals) (hN : X.N.Nodup) (tk : Takes X Wout) {hds : List ExceptHandler} {l : List (Value × Option Nat × Suite)} (hk : Clauses X hds l) :
    ∀ {s : Shared}, Came X pins σ H a cls d B sI s → wCh X.K Wout D l cls d σ H → wpAny (model X.prog X.w) X.A (handleBy (.ref a) X.env hds) (SP X pins D) X.xe s := by
  induction hk with
  | nil => exact fun c w => c.out hs hf tk w
  | @plain x cv ts b0 suite np p hds l hc hsu r ih =>
    intro s c w
    obtain ⟨b, hb, hy, hn⟩ := w
    refine wpAny_handleBy_cons (codeAny_handlers_test (c.test hc hb ?_)) (by intro q; cases q)
    cases b with
    | false =>
      show wpAny _ X.A (handleBy (.ref a) X.env hds) _ _ _
      exact ih c (hn rfl)
    | true =>
      refine codeAny_handlers_suite (HandSPX.lands_againZ c.fl fun h4 fl4 up4 => ?_)
      obtain ⟨oe, vs, h1, h2, h3, S⟩ := (c.on fl4 up4).held
      have ok := c.J.ok
      refine wpAny_mono ((hsu a oe cls d (X.pn ++ pins) h2 ⟨_, h3⟩).run [] _ _ H _ S (hy rfl a c.na)) (fun f s6 q => ?_) (fun _ _ z => False.elim z)
      cases f with
      | ret u =>
        obtain ⟨v6, σ6, H6, S6, r6, q6⟩ := q
        exact ⟨_, _, _, S6.unsuite ok, r6, q6⟩
      | next | brk | cont =>
        obtain ⟨σ6, H6, S6, q6⟩ := q
        exact ⟨_, _, S6.unsuite ok, q6⟩
  | @named x n i cv ts b0 suite np p hds l hc hi hl hsu r ih =>
    intro s c w
    obtain ⟨b, hb, hy, hn⟩ := w
    refine wpAny_handleBy_cons (codeAny_handlers_test (c.test hc hb ?_)) (by intro q; cases q)
    cases b with
    | false =>
      show wpAny _ X.A (handleBy (.ref a) X.env hds) _ _ _
      exact ih c (hn rfl)
    | true =>
      refine codeAny_handlers_suite_as (HandSPX.lands_againZ c.fl fun h4 fl4 up4 => ?_)
      obtain ⟨oe, vs, h1, h2, h3, S⟩ := (c.on fl4 up4).held
      have ok := c.J.ok
      refine store_ok (X := X.suite a ((a, oe) :: (X.pn ++ pins))) (v := .ref a) S hN hi (.inl hl) rfl (fun s5 S5 => ?_) (.inr hl)
      refine wpAny_mono ((hsu a oe cls d (X.pn ++ pins) h2 ⟨_, h3⟩).run [] s5 _ H _ S5 (hy rfl a c.na)) (fun f s6 q => ?_) (fun _ _ z => False.elim z)
      have gone : ∀ {σ6 : L2.St} {H6 : Hp} {Q : Shared → Prop}, Inv (X.suite a ((a, oe) :: (X.pn ++ pins))) [] σ6 H6 s6 → (∀ s7, Inv X pins (σ6.set i none) H6 s7 → Q s7) →
        wpAny (model X.prog X.w) X.A (do bindName X.env n .none; unbindBehindTheSuite X.env n p) (fun _ s7 => Q s7) X.xe s6 := fun S6 k => gone_ok (S6.unsuite ok) hN hi hl k
      cases f with
      | ret u =>
        obtain ⟨v6, σ6, H6, S6, r6, q6⟩ := q
        exact gone S6 fun s7 J7 => ⟨_, _, _, J7, r6, q6⟩
      | next | brk | cont =>
        obtain ⟨σ6, H6, S6, q6⟩ := q
        exact gone S6 fun s7 J7 => ⟨_, _, J7, q6⟩
end

section
variable {X : Cx} {body : List Stmt} {h0 : ExceptHandler} {hds : List ExceptHandler} {l : List (Value × Option Nat × Suite)} {pos : Pos} {tb : WX → TS} {Wout : WX}
/-- try: body except A as x: .. except B: .. -/
theorem ps_try_ch (hs : X.stack = X.env :: X.outer) (hf : X.env.frame = some X.env.locals) (hN : X.N.Nodup) (tk : Takes X Wout)
    (hb : ∀ (W : WX) (pn : List (Addr × Obj)) (xe : Value → Shared → Prop), Takes (X.tr pn xe) W → PassesOwn (model X.prog X.w) X.A X.env xe → PSs (X.tr pn xe) body (tb W)) (hh : Clauses X (h0 :: hds) l) :
    PS X (.Try body (h0 :: hds) [] [] pos) (fun D σ H => tb (wCh X.K Wout D l) D σ H) := by
  refine ⟨fun pins s σ H D I h => wpAny_Try_except ?_⟩
  have ok := I.ok
  have hfr : X.A.frames = some (X.env :: X.outer) := ok.frames.trans (congrArg some hs)
  refine wpAny_mono ((hb (wCh X.K Wout D l) (X.pn ++ pins) (fun e s1 => wpAny (model X.prog X.w) X.A (noteFrame e X.env) (fun _ s2 => wpAny (model X.prog X.w) X.A (setFlight e none) (fun _ s3 =>
    wpAny (model X.prog X.w) X.A (handleBy e X.env (h0 :: hds)) (SP X pins D) X.xe s3) X.xe s2) X.xe s1) (fun u s' xx => ?_) PassesOwn.looking).run [] s σ H D (I.toTry _) h) (fun f s1 q => ?_) (fun e s1 he => he)
  · obtain ⟨a, B, sI, pins', σ', H', cls, d, eu, J', nb, up, sky, na, os, ag, w⟩ := xx
    subst eu
    have sky' : Sky B (X.env :: X.outer) a (Zc cls d) X.env.locals s'.heap := by rw [← hs]; exact sky
    show wpAny (model X.prog X.w) X.A (noteFrame (.ref a) X.env) _ _ _
    refine Sky.land Zc.steady hfr hf sky' fun h3 fl3 up3 => ?_
    obtain ⟨oe, vs, he, hz, hd⟩ := fl3.there
    have far : a ∉ frs (X.env :: X.outer) := fun hm => by
      obtain ⟨_, o', e', nf⟩ := fl3.2.2.1.mem hm
      rw [he] at e'
      cases e'
      exact nf _ hd
    refine chain_ok hs hf hN tk hh ⟨J'.ofTry ok, nb, up.trans up3, fl3, na, os, ag, fun z => far (List.mem_filterMap.mpr ⟨X.env, List.mem_cons_self, by rw [hf, z]⟩), fun hm => ?_⟩ w
    obtain ⟨e, he', q'⟩ := List.mem_filterMap.mp hm
    exact far (List.mem_filterMap.mpr ⟨e, List.mem_cons_of_mem _ he', q'⟩)
  · cases f with
    | next =>
      obtain ⟨σ', H', J', q⟩ := q
      exact wpAny_execs_nil ⟨σ', H', J'.ofTry ok, q⟩
    | ret u =>
      obtain ⟨v, σ', H', J', r, q⟩ := q
      exact ⟨v, σ', H', J'.ofTry ok, r, q⟩
    | brk | cont =>
      obtain ⟨σ', H', J', q⟩ := q
      exact ⟨σ', H', J'.ofTry ok, q⟩
end
end Er
/-! a def, a method, a class of the program, each with its promise, in one word -/
namespace Er
open PySem PySem.Spec PyProof.Rows L2

/-- the def x keeps the promise sp -/
def Fok (P : Program) (w : World) (K : PySem.W.Frag) (mg : Str → Option Value) (base : Heap) (k : Nat) (x : Str) (ps : List Str) (sp : Sp) : Prop :=
  ∃ (f : Addr) (fd : FuncData), mg x = some (.ref f) ∧ PySem.W.keepIn K (.ref f) = true ∧ Binds K fd ps [] ∧ FnOk P w K mg base (L2.CX P w) k f fd ps sp
/-- the method m of the class at C keeps the promise sp -/
def Mok (P : Program) (w : World) (K : PySem.W.Frag) (mg : Str → Option Value) (base : Heap) (C : Addr) (k : Nat) (m : Str) (ps : List Str) (sp : Sp) : Prop :=
  ∃ (f : Addr) (fd : FuncData), Meth K C m f ∧ Binds K fd ps [] ∧ FnOk P w K mg base (L2.CX P w) k f fd ps sp
/-- the class x at C, its __init__ keeps the promise sp -/
def Cok (P : Program) (w : World) (K : PySem.W.Frag) (mg : Str → Option Value) (base : Heap) (C : Addr) (k : Nat) (x : Str) (ps : List Str) (sp : Sp) : Prop :=
  ∃ (f : Addr) (fd : FuncData), Mk K C f ∧ mg x = some (.ref C) ∧ Binds K fd ps [] ∧ FnOk P w K mg base (L2.CX P w) k f fd ps sp
/-- the property of the class at C -/
def Pok (P : Program) (w : World) (K : PySem.W.Frag) (mg : Str → Option Value) (base : Heap) (C : Addr) (k : Nat) (m : Str) (ps : List Str) (sp : Sp) : Prop :=
  ∃ (p g : Addr) (fd : FuncData), PropOf K C m p g ∧ Binds K fd ps [] ∧ FnOk P w K mg base (L2.CX P w) k g fd ps sp

/-- what is raised is wished for at any slots of the frame's length -/
def allW (n : Nat) (W : WX) : XK := fun cls d H => ∀ σ : L2.St, σ.length = n → W cls d σ H
theorem passAll {X : Cx} {W : WX} (tk : Takes X W) : Passes (L2.CX X.prog X.w) X (allW X.N.length W) := fun _ σ _ _ e s' I c => tk e s' (XE.of_call I (fun _ _ _ h => h σ I.len) c)
theorem passOut {X : Cx} {E : XK} (tk : Takes X (fun c d _ H => E c d H)) : Passes (L2.CX X.prog X.w) X E := passes_call tk fun _ _ _ _ h => h

section
variable {X : Cx} {k : Nat} {C : Addr} {x m : Str} {ps : List Str} {sp : Sp} {E : XK} {p pos apos : Pos} {e o : Expr} {es : List Expr} {ta : TE} {t : TA} {W : WX}
/-- f(e, ..), nothing is raised -/
theorem pe_f (D : Fok X.prog X.w X.K X.mg X.base k x ps sp) (hr : Room k X.A) (ha : PA X (e :: es) t) (hg : Gl X x := by rfl) (hdb : (x == ("__debug__" : Str)) = false := by decide) (he : starEach (e :: es) X.env = (false, eval e X.env) :: starEach es X.env := by rfl)
    (hpl : (backTo pos (starEach es X.env)).any (·.1) = false := by rfl) : PE X (.Call (.Name x p) (e :: es) [] pos) (tCall sp [] E0 t) := by
  obtain ⟨f, fd, hm, kp, b, F⟩ := D
  exact pe_call F hr hg hm kp b .nil passL ha hdb he hpl
/-- f(e, ..), what is raised leaves this def too -/
theorem pe_fX (D : Fok X.prog X.w X.K X.mg X.base k x ps sp) (hr : Room k X.A) (tk : Takes X (fun c d _ H => E c d H)) (ha : PA X (e :: es) t) (hg : Gl X x := by rfl) (hdb : (x == ("__debug__" : Str)) = false := by decide)
    (he : starEach (e :: es) X.env = (false, eval e X.env) :: starEach es X.env := by rfl) (hpl : (backTo pos (starEach es X.env)).any (·.1) = false := by rfl) : PE X (.Call (.Name x p) (e :: es) [] pos) (tCall sp [] E t) := by
  obtain ⟨f, fd, hm, kp, b, F⟩ := D
  exact pe_call F hr hg hm kp b .nil (passOut tk) ha hdb he hpl
/-- f(e, ..) within a try -/
theorem pe_fT (D : Fok X.prog X.w X.K X.mg X.base k x ps sp) (hr : Room k X.A) (n : Nat) (tk : Takes X W) (ha : PA X (e :: es) t) (hg : Gl X x := by rfl) (hdb : (x == ("__debug__" : Str)) = false := by decide)
    (he : starEach (e :: es) X.env = (false, eval e X.env) :: starEach es X.env := by rfl) (hpl : (backTo pos (starEach es X.env)).any (·.1) = false := by rfl) (hn : X.N.length = n := by rfl) : PE X (.Call (.Name x p) (e :: es) [] pos) (tCall sp [] (allW n W) t) := by
  subst hn
  obtain ⟨f, fd, hm, kp, b, F⟩ := D
  exact pe_call F hr hg hm kp b .nil (passAll tk) ha hdb he hpl
theorem pe_m {pl : Sem Bool} (he : PE X o ta) (c : Cls X.K C) (D : Mok X.prog X.w X.K X.mg X.base C k m ps sp) (hr : Room k X.A) (ha : PA X (e :: es) t) (hst : starEach (e :: es) X.env = (false, eval e X.env) :: starEach es X.env := by rfl)
    (hpl : (backTo pos (starEach es X.env)).any (·.1) = false := by rfl)
    (ht : eval (.Call (.Attribute o m apos) (e :: es) [] pos) X.env = (do
      let ov ← eval o X.env
      standAt apos.atName
      let (f, first) ← holding [ov] (getMethod ov m pl)
      callWith pos f first (backTo pos (starEach (e :: es) X.env)) (backToKw pos (keywordEach [] X.env))) := by rfl) : PE X (.Call (.Attribute o m apos) (e :: es) [] pos) (tMeth C m sp [] E0 ta t) := by
  obtain ⟨f, fd, hm, b, F⟩ := D
  exact pe_meth he c hm F hr b .nil passL ha hst hpl ht
theorem pe_mX {pl : Sem Bool} (he : PE X o ta) (c : Cls X.K C) (D : Mok X.prog X.w X.K X.mg X.base C k m ps sp) (hr : Room k X.A) (tk : Takes X (fun c d _ H => E c d H)) (ha : PA X (e :: es) t) (hst : starEach (e :: es) X.env = (false, eval e X.env) :: starEach es X.env := by rfl)
    (hpl : (backTo pos (starEach es X.env)).any (·.1) = false := by rfl)
    (ht : eval (.Call (.Attribute o m apos) (e :: es) [] pos) X.env = (do
      let ov ← eval o X.env
      standAt apos.atName
      let (f, first) ← holding [ov] (getMethod ov m pl)
      callWith pos f first (backTo pos (starEach (e :: es) X.env)) (backToKw pos (keywordEach [] X.env))) := by rfl) : PE X (.Call (.Attribute o m apos) (e :: es) [] pos) (tMeth C m sp [] E ta t) := by
  obtain ⟨f, fd, hm, b, F⟩ := D
  exact pe_meth he c hm F hr b .nil (passOut tk) ha hst hpl ht
theorem pe_mT {pl : Sem Bool} (he : PE X o ta) (c : Cls X.K C) (D : Mok X.prog X.w X.K X.mg X.base C k m ps sp) (hr : Room k X.A) (n : Nat) (tk : Takes X W) (ha : PA X (e :: es) t) (hst : starEach (e :: es) X.env = (false, eval e X.env) :: starEach es X.env := by rfl)
    (hpl : (backTo pos (starEach es X.env)).any (·.1) = false := by rfl)
    (ht : eval (.Call (.Attribute o m apos) (e :: es) [] pos) X.env = (do
      let ov ← eval o X.env
      standAt apos.atName
      let (f, first) ← holding [ov] (getMethod ov m pl)
      callWith pos f first (backTo pos (starEach (e :: es) X.env)) (backToKw pos (keywordEach [] X.env))) := by rfl) (hn : X.N.length = n := by rfl) : PE X (.Call (.Attribute o m apos) (e :: es) [] pos) (tMeth C m sp [] (allW n W) ta t) := by
  subst hn
  obtain ⟨f, fd, hm, b, F⟩ := D
  exact pe_meth he c hm F hr b .nil (passAll tk) ha hst hpl ht
theorem pe_c (D : Cok X.prog X.w X.K X.mg X.base C k x ps sp) (hr : Room (k + 1) X.A) (ha : PA X (e :: es) t) (hg : Gl X x := by rfl) (hdb : (x == ("__debug__" : Str)) = false := by decide) (he : starEach (e :: es) X.env = (false, eval e X.env) :: starEach es X.env := by rfl)
    (hpl : (backTo pos (starEach es X.env)).any (·.1) = false := by rfl) : PE X (.Call (.Name x p) (e :: es) [] pos) (tMake C sp [] E0 t) := by
  obtain ⟨f, fd, M, hm, b, F⟩ := D
  exact pe_make M F hr hg hm b .nil passL ha hdb he hpl
theorem pe_cX (D : Cok X.prog X.w X.K X.mg X.base C k x ps sp) (hr : Room (k + 1) X.A) (tk : Takes X (fun c d _ H => E c d H)) (ha : PA X (e :: es) t) (hg : Gl X x := by rfl) (hdb : (x == ("__debug__" : Str)) = false := by decide)
    (he : starEach (e :: es) X.env = (false, eval e X.env) :: starEach es X.env := by rfl) (hpl : (backTo pos (starEach es X.env)).any (·.1) = false := by rfl) : PE X (.Call (.Name x p) (e :: es) [] pos) (tMake C sp [] E t) := by
  obtain ⟨f, fd, M, hm, b, F⟩ := D
  exact pe_make M F hr hg hm b .nil (passOut tk) ha hdb he hpl
theorem pe_cT (D : Cok X.prog X.w X.K X.mg X.base C k x ps sp) (hr : Room (k + 1) X.A) (n : Nat) (tk : Takes X W) (ha : PA X (e :: es) t) (hg : Gl X x := by rfl) (hdb : (x == ("__debug__" : Str)) = false := by decide)
    (he : starEach (e :: es) X.env = (false, eval e X.env) :: starEach es X.env := by rfl) (hpl : (backTo pos (starEach es X.env)).any (·.1) = false := by rfl) (hn : X.N.length = n := by rfl) : PE X (.Call (.Name x p) (e :: es) [] pos) (tMake C sp [] (allW n W) t) := by
  subst hn
  obtain ⟨f, fd, M, hm, b, F⟩ := D
  exact pe_make M F hr hg hm b .nil (passAll tk) ha hdb he hpl
theorem pe_p (he : PE X e ta) (c : Cls X.K C) (D : Pok X.prog X.w X.K X.mg X.base C k m ps sp) (hr : Room (k + 1) X.A) (hab : attributeBase e m X.env (eval e X.env) = eval e X.env := by rfl) : PE X (.Attribute e m pos) (tProp C sp [] E0 ta) := by
  obtain ⟨q, g, fd, hp, b, F⟩ := D
  exact pe_prop he c hp F hr b .nil (fun pins σ H s e s' I h => by
    obtain ⟨_, _, _, _, _, _, _, _, _, _, _, _, z⟩ := h
    exact z.elim) hab
end

/-! ### things of unknown kind -/
/-- a value with the name of its type -/
inductive Sm (K : PySem.W.Frag) (H : Hp) : V → String → Prop
  | non : Sm K H .non "NoneType"
  | bl (b : Bool) : Sm K H (.bl b) "bool"
  | int (i : Int) : Sm K H (.int i) "int"
  | str (x : Str) : Sm K H (.str x) "str"
  | lst {a : Addr} {xs : List V} (h : SqL K H a xs) : Sm K H (.ref a) "list"
  | tup {a : Addr} {xs : List V} (h : SqT K H a xs) : Sm K H (.ref a) "tuple"
end Er
/-! readings, step by step: one lemma a combinator -/
namespace Er
open PySem PySem.Spec PyProof.Rows L2
section
variable {D : Ends} {σ : L2.St} {H : Hp} {Q : VK} {QT : Bool → Hp → Prop} {t u : TS} {ta tb te : TE} {tt tu : TT} {i : Nat} {v x y : V} {K : PySem.W.Frag}
theorem r_seq (h : t { D with nx := u D } σ H) : tSeq t u D σ H := h
theorem r_nx (h : D.nx σ H) : tNext D σ H := h
theorem r_asgN (h : te σ H fun x H1 => D.nx (σ.set i (some x)) H1) : tAsg te (gName i) D σ H := h
theorem r_asgS {to ti : TE} {r : TSet} (h : te σ H fun x H1 => to σ H1 fun o H2 => ti σ H2 fun k H3 => r o k x H3 fun H4 => D.nx σ H4) : tAsg te (gSub to ti r) D σ H := h
theorem r_asgT {n : Nat} {tg : TGs} (h : te σ H fun x H1 => gTup K n tg x σ H1 D.nx) : tAsg te (gTup K n tg) D σ H := h
theorem r_ifS (h : tt σ H fun b H1 => if b = true then t D σ H1 else u D σ H1) : tIfS tt t u D σ H := h
theorem r_ret (h : te σ H D.rt) : tRet te D σ H := h
theorem r_retN (h : D.rt .non H) : tRetN D σ H := h
theorem r_drop (h : te σ H fun _ H1 => D.nx σ H1) : tDrop te D σ H := h
theorem r_test (h : te σ H fun x H' => ∃ k, x = .bl k ∧ QT k H') : tTest te σ H QT := h
theorem r_B (h : te σ H fun x H' => ∃ k, x = .bl k ∧ QT k H') : tB te σ H QT := h
theorem r_not (h : tt σ H fun c H1 => QT (!c) H1) : tNot tt σ H QT := h
theorem r_and (h : tt σ H fun c H1 => if c = true then tu σ H1 QT else QT false H1) : tAnd tt tu σ H QT := h
theorem r_or (h : tt σ H fun c H1 => if c = true then QT true H1 else tu σ H1 QT) : tOr tt tu σ H QT := h
theorem r_andV (h : ta σ H fun x H1 => ∃ c, x = .bl c ∧ if c = true then tb σ H1 Q else Q (.bl false) H1) : tAndV ta tb σ H Q := h
theorem r_orV (h : ta σ H fun x H1 => ∃ c, x = .bl c ∧ if c = true then Q (.bl true) H1 else tb σ H1 Q) : tOrV ta tb σ H Q := h
theorem r_notV (h : ta σ H fun x H1 => ∃ c, x = .bl c ∧ Q (.bl (!c)) H1) : tNotV ta σ H Q := h
theorem r_var (e : σ[i]? = some (some v)) (q : Q v H) : tVar i σ H Q := ⟨v, e, q⟩
theorem r_c (q : Q v H) : tC v σ H Q := q
theorem r_op {r : R2} (h : ta σ H fun x H1 => tb σ H1 fun y H2 => r x y H2 Q) : tOp r ta tb σ H Q := h
theorem r_un {r : V → Hp → VK → Prop} (h : ta σ H fun x H1 => r x H1 Q) : tUn r ta σ H Q := h
theorem r_I0 {g : Int → Int → V} {a b : Int} (q : Q (g a b) H) : rI0 g (.int a) (.int b) H Q := ⟨a, b, rfl, rfl, q⟩
theorem r_I {C : Int → Int → Prop} {g : Int → Int → V} {a b : Int} (c : C a b) (q : Q (g a b) H) : rI C g (.int a) (.int b) H Q := ⟨a, b, rfl, rfl, c, q⟩
theorem r_eqI {a b : Int} (q : Q (.bl (decide (a = b))) H) : rEq (.int a) (.int b) H Q := ⟨rfl, by
  have e : decide ((V.int a) = V.int b) = decide (a = b) := by
    by_cases h : a = b
    · subst h; simp
    · rw [decide_eq_false h, decide_eq_false]
      exact fun z => h (V.int.inj z)
  rw [e]; exact q⟩
theorem r_neI {a b : Int} (q : Q (.bl (!decide (a = b))) H) : rNe (.int a) (.int b) H Q := ⟨rfl, by
  have e : decide ((V.int a) = V.int b) = decide (a = b) := by
    by_cases h : a = b
    · subst h; simp
    · rw [decide_eq_false h, decide_eq_false]
      exact fun z => h (V.int.inj z)
  rw [e]; exact q⟩
theorem r_bl {k : Bool} {B : Bool → Prop} (q : B k) : ∃ k', V.bl k = .bl k' ∧ B k' := ⟨k, rfl, q⟩
theorem r_nil {QA : List V → Hp → Prop} (q : QA [] H) : tNil σ H QA := q
theorem r_cons {ts : TA} {QA : List V → Hp → Prop} (h : ta σ H fun x H1 => ts σ H1 fun xs H2 => QA (x :: xs) H2) : tCons ta ts σ H QA := h
theorem r_cb {r : List V → Hp → VK → Prop} {ts : TA} (h : ts σ H fun vs H1 => r vs H1 Q) : tCB r ts σ H Q := h
theorem r_call {sp : Sp} {dvs : List V} {E : XK} {ts : TA} (h : ts σ H fun vs H1 => sp (vs ++ dvs) H1 Q E) : tCall sp dvs E ts σ H Q := h
theorem r_tup {ts : TA} (h : ts σ H fun xs H1 => xs.length ≤ sizeLine ∧ ∀ p, H1 p = none → Q (.ref p) (upd H1 p (.tup xs))) : tTup ts σ H Q := h
theorem r_lst {ts : TA} (h : ts σ H fun xs H1 => xs.length ≤ sizeLine ∧ ∀ p, H1 p = none → Q (.ref p) (upd H1 p (.lst xs))) : tLst ts σ H Q := h
def fldR (K : PySem.W.Frag) (f : Str) (x : V) (H1 : Hp) (Q : VK) : Prop := ∃ a C dx fs v, x = .ref a ∧ H1 a = some (.ins C dx fs) ∧ Cls K C ∧ NoAttr K C f ∧ fs.lookup f = some v ∧ Q v H1
theorem r_fld {f : Str} (h : ta σ H fun x H1 => fldR K f x H1 Q) : tFld K ta f σ H Q := h
theorem r_fldR {f : Str} {a C dx : Addr} {fs : List (Str × V)} (ha : H a = some (.ins C dx fs)) (c : Cls K C) (n : NoAttr K C f) (l : fs.lookup f = some v) (q : Q v H) : fldR K f (.ref a) H Q := ⟨a, C, dx, fs, v, rfl, ha, c, n, l, q⟩
theorem r_ixL {p : Addr} {xs : List V} {k : Int} (h : SqL K H p xs) (e : atI xs k = some v) (q : Q v H) : rIxL K (.ref p) (.int k) H Q := ⟨p, xs, k, v, rfl, rfl, h, e, q⟩
theorem r_ixT {p : Addr} {xs : List V} {k : Int} (h : SqT K H p xs) (e : atI xs k = some v) (q : Q v H) : rIxT K (.ref p) (.int k) H Q := ⟨p, xs, k, v, rfl, rfl, h, e, q⟩
theorem r_setL {p : Addr} {xs : List V} {k : Int} {j : Nat} {QH : Hp → Prop} (h : H p = some (.lst xs)) (e : ixN xs.length k = some j) (q : QH (upd H p (.lst (xs.set j v)))) : rSetL (.ref p) (.int k) v H QH := ⟨p, xs, k, j, rfl, rfl, h, e, q⟩
theorem r_bm {T : String} {r : V → List V → Hp → VK → Prop} {ts : TA} (h : ta σ H fun x H1 => tyV K T x H1 ∧ ts σ H1 fun xs H2 => r x xs H2 Q) : tBM K T r ta ts σ H Q := h
theorem r_bm0 {T : String} {r : V → List V → Hp → VK → Prop} (h : ta σ H fun x H1 => tyV K T x H1 ∧ r x [] H1 Q) : tBM0 K T r ta σ H Q := h
theorem r_app {l : Addr} {xs : List V} (h : H l = some (.lst xs)) (hz : xs.length < sizeLine) (q : Q .non (upd H l (.lst (xs ++ [y])))) : rAppend (.ref l) [y] H Q := ⟨l, xs, y, rfl, rfl, h, hz, q⟩
theorem r_tyL {l : Addr} {xs : List V} {B : Prop} (h : SqL K H l xs) (q : B) : tyV K "list" (.ref l) H ∧ B := ⟨.inl ⟨rfl, xs, h⟩, q⟩
/-! relations with a name -/
def rInt1 : List V → Hp → VK → Prop := fun xs H Q => (∃ i, xs = [.int i] ∧ Q (.int i) H) ∨ ∃ k, xs = [.bl k] ∧ Q (.int (if k then 1 else 0)) H
def rLen (K : PySem.W.Frag) : List V → Hp → VK → Prop := fun xs H Q => ∃ p ys, xs = [.ref p] ∧ (SqL K H p ys ∨ SqT K H p ys) ∧ Q (.int ys.length) H
def rListO (K : PySem.W.Frag) : List V → Hp → VK → Prop := fun xs H Q => ∃ p ys, xs = [.ref p] ∧ (SqL K H p ys ∨ SqT K H p ys) ∧ ∀ l, H l = none → Q (.ref l) (upd H l (.lst ys))
def rTupO (K : PySem.W.Frag) : List V → Hp → VK → Prop := fun xs H Q => ∃ p ys, xs = [.ref p] ∧ ((SqL K H p ys ∧ ∀ l, H l = none → Q (.ref l) (upd H l (.tup ys))) ∨ (SqT K H p ys ∧ Q (.ref p) H))
def rMin2 : List V → Hp → VK → Prop := fun xs H Q => ∃ i j, xs = [.int i, .int j] ∧ Q (.int (if j < i then j else i)) H
def rIsN : R2 := fun x y H Q => y = .non ∧ Q (.bl (decide (x = .non))) H
def rNotN : R2 := fun x y H Q => y = .non ∧ Q (.bl (!decide (x = .non))) H
theorem c_int {X : Cx} : CallR X (.type "int") rInt1 := call_int1
theorem c_len {X : Cx} : CallR X (.builtin "len") (rLen X.K) := call_len_seq
theorem c_list {X : Cx} : CallR X (.type "list") (rListO X.K) := call_list_of
theorem c_tuple {X : Cx} : CallR X (.type "tuple") (rTupO X.K) := call_tuple_of
theorem c_min2 {X : Cx} (hc : X.calm = true) : CallR X (.builtin "min") rMin2 := call_min2 hc
theorem o_isN {X : Cx} : OpR X (compareOp .Is) rIsN := op_isN
theorem o_notN {X : Cx} : OpR X (compareOp .IsNot) rNotN := op_notN
theorem r_int {k : Int} (q : Q (.int k) H) : rInt1 [.int k] H Q := .inl ⟨k, rfl, q⟩
theorem r_lenL {p : Addr} {ys : List V} (h : SqL K H p ys) (q : Q (.int ys.length) H) : rLen K [.ref p] H Q := ⟨p, ys, rfl, .inl h, q⟩
theorem r_lenT {p : Addr} {ys : List V} (h : SqT K H p ys) (q : Q (.int ys.length) H) : rLen K [.ref p] H Q := ⟨p, ys, rfl, .inr h, q⟩
theorem r_listO {p : Addr} {ys : List V} (h : SqL K H p ys ∨ SqT K H p ys) (q : ∀ l, H l = none → Q (.ref l) (upd H l (.lst ys))) : rListO K [.ref p] H Q := ⟨p, ys, rfl, h, q⟩
theorem r_tupL {p : Addr} {ys : List V} (h : SqL K H p ys) (q : ∀ l, H l = none → Q (.ref l) (upd H l (.tup ys))) : rTupO K [.ref p] H Q := ⟨p, ys, rfl, .inl ⟨h, q⟩⟩
theorem r_tupT {p : Addr} {ys : List V} (h : SqT K H p ys) (q : Q (.ref p) H) : rTupO K [.ref p] H Q := ⟨p, ys, rfl, .inr ⟨h, q⟩⟩
theorem r_min2 {i j : Int} (q : Q (.int (if j < i then j else i)) H) : rMin2 [.int i, .int j] H Q := ⟨i, j, rfl, q⟩
theorem r_isN (q : Q (.bl (decide (x = .non))) H) : rIsN x .non H Q := ⟨rfl, q⟩
theorem r_notN (q : Q (.bl (!decide (x = .non))) H) : rNotN x .non H Q := ⟨rfl, q⟩
theorem r_all {p : Addr} {bs : List Bool} (h : SqL K H p (bs.map V.bl)) (q : Q (.bl (bs.all id)) H) : rAll K [.ref p] H Q := ⟨p, bs, rfl, h, q⟩
/-! data that is alike -/
def Okd (k : Nat) (d : PyData) : Prop := PyData.canLay0 d = true ∧ PyData.depth d ≤ k
theorem okd_non : Okd 0 .none := ⟨rfl, Nat.le_refl _⟩
theorem okd_bl (b : Bool) : Okd 0 (.bool b) := ⟨rfl, Nat.le_refl _⟩
theorem okd_int (i : Int) : Okd 0 (.int i) := ⟨rfl, Nat.le_refl _⟩
theorem Okd.up {j k : Nat} {d : PyData} (h : Okd j d) (l : j ≤ k) : Okd k d := ⟨h.1, Nat.le_trans h.2 l⟩
theorem okd_all {k : Nat} : ∀ {ds : List PyData}, (∀ d ∈ ds, Okd k d) → PyData.canLayAll0 ds = true ∧ PyData.depthAll ds ≤ k
  | [], _ => ⟨rfl, Nat.zero_le _⟩
  | d :: ds, h => by
    obtain ⟨a, b⟩ := h d (List.mem_cons_self ..)
    obtain ⟨a', b'⟩ := okd_all fun e he => h e (List.mem_cons_of_mem _ he)
    refine ⟨?_, ?_⟩
    · show (PyData.canLay0 d && PyData.canLayAll0 ds) = true
      rw [a, a']; rfl
    · show max (PyData.depth d) (PyData.depthAll ds) ≤ k
      omega
theorem okd_tup {k : Nat} {ds : List PyData} (h : ∀ d ∈ ds, Okd k d) : Okd (k + 1) (.tuple ds) := ⟨(okd_all h).1, Nat.succ_le_succ (okd_all h).2⟩
theorem okd_lst {k : Nat} {ds : List PyData} (h : ∀ d ∈ ds, Okd k d) : Okd (k + 1) (.list ds) := ⟨(okd_all h).1, Nat.succ_le_succ (okd_all h).2⟩
theorem Okd.sh {k : Nat} {d : PyData} (h : Okd k d) (l : k ≤ 64 := by decide) : SeqAt.shaped d = true := Bool.and_eq_true_iff.mpr ⟨h.1, decide_eq_true (Nat.le_trans h.2 l)⟩
theorem r_neSame {k : Nat} {d : PyData} (hx : Dp K H x d) (hy : Dp K H y d) (o : Okd k d) (l : k ≤ 64) (q : Q (.bl false) H) : rNeD K x y H Q := by
  refine ⟨d, d, hx, hy, o.sh l, o.sh l, ?_⟩
  rw [SeqAt.eqv_refl d o.1]
  exact q
theorem r_eqSame {k : Nat} {d : PyData} (hx : Dp K H x d) (hy : Dp K H y d) (o : Okd k d) (l : k ≤ 64) (q : Q (.bl true) H) : rEqD K x y H Q := by
  refine ⟨d, d, hx, hy, o.sh l, o.sh l, ?_⟩
  rw [SeqAt.eqv_refl d o.1]
  exact q
theorem dp_ints {H : Hp} : ∀ (ns : List Int), DpAll K H (ns.map V.int) (ns.map PyData.int)
  | [] => .nil
  | n :: ns => .cons (.int n) (dp_ints ns)
theorem okd_ints (ns : List Int) : ∀ d ∈ ns.map PyData.int, Okd 0 d := fun d hd => by
  obtain ⟨n, _, rfl⟩ := List.mem_map.mp hd
  exact okd_int n
theorem r_cut {Mid : L2.St → Hp → Prop} (h1 : t { D with nx := Mid } σ H) (h2 : ∀ σ' H', Mid σ' H' → u D σ' H') : Evl.tCut t u D σ H := ⟨Mid, h1, h2⟩
/-! loops -/
def forK (g : TG) (tb : TS) (D : Ends) (σ : L2.St) : It → Hp → Prop := fun J H1 => ∃ W : Nat → Nat → L2.St → Hp → Prop, (∃ m, W 0 m σ H1) ∧ ∀ i m σ H, W i m σ H →
  (J.stop i H ∧ D.nx σ H) ∨ (J.go i H ∧ ∃ N : L2.St → Hp → Prop, (∀ σ' H', N σ' H' → ∃ m', m' < m ∧ W (i + 1) m' σ' H') ∧ ∀ x H', J.yld i H x H' → g x σ H' fun σ2 H2 => tb { D with nx := N, ct := N, bk := D.nx } σ2 H2)
theorem r_for {wi : TI} {g : TG} (h : wi σ H (forK g t D σ)) : tFor wi g t D σ H := h
def rngK (vs : List V) (H : Hp) (R : It → Hp → Prop) : Prop := ∃ j : Int, vs = [.int j] ∧ -(2 ^ 62) ≤ j ∧ j < 2 ^ 62 ∧ R (Itr 0 j.toNat) H
theorem r_rng {ts : TA} {R : It → Hp → Prop} (h : ts σ H fun vs H1 => rngK vs H1 R) : iRng1 ts σ H R := h
theorem r_rngK {R : It → Hp → Prop} {j : Int} (n : Nat) (e : j.toNat = n) (l : -(2 ^ 62) ≤ j ∧ j < 2 ^ 62) (q : R (Itr 0 n) H) : rngK [.int j] H R := ⟨j, rfl, l.1, l.2, by rw [e]; exact q⟩
def rngK2 (vs : List V) (H : Hp) (R : It → Hp → Prop) : Prop := ∃ i j : Int, vs = [.int i, .int j] ∧ (-(2 ^ 62) ≤ i ∧ i < 2 ^ 62 ∧ -(2 ^ 62) ≤ j ∧ j < 2 ^ 62) ∧ R (Itr i (j - i).toNat) H
theorem r_rng2 {ts : TA} {R : It → Hp → Prop} (h : ts σ H fun vs H1 => rngK2 vs H1 R) : iRng2 ts σ H R := h
theorem r_rngK2 {R : It → Hp → Prop} {i j : Int} (n : Nat) (e : (j - i).toNat = n) (l : -(2 ^ 62) ≤ i ∧ i < 2 ^ 62 ∧ -(2 ^ 62) ≤ j ∧ j < 2 ^ 62) (q : R (Itr i n) H) : rngK2 [.int i, .int j] H R := ⟨i, j, rfl, l, by rw [e]; exact q⟩
def lstK (K : PySem.W.Frag) (x : V) (H : Hp) (R : It → Hp → Prop) : Prop := ∃ a, x = .ref a ∧ (∃ xs, SqL K H a xs) ∧ R (Itl K a) H
theorem r_lstI {R : It → Hp → Prop} (h : ta σ H fun x H1 => lstK K x H1 R) : iList K ta σ H R := h
theorem r_lstK {R : It → Hp → Prop} {a : Addr} {xs : List V} (h : SqL K H a xs) (q : R (Itl K a) H) : lstK K (.ref a) H R := ⟨a, rfl, ⟨xs, h⟩, q⟩
def tupK (K : PySem.W.Frag) (x : V) (H : Hp) (R : It → Hp → Prop) : Prop := ∃ a, x = .ref a ∧ (∃ xs, SqT K H a xs) ∧ R (Itt K a) H
theorem r_tupI {R : It → Hp → Prop} (h : ta σ H fun x H1 => tupK K x H1 R) : iTup K ta σ H R := h
theorem r_tupK {R : It → Hp → Prop} {a : Addr} {xs : List V} (h : SqT K H a xs) (q : R (Itt K a) H) : tupK K (.ref a) H R := ⟨a, rfl, ⟨xs, h⟩, q⟩
theorem r_forR {n : Nat} {lo : Int} {j : Nat} (Pv : Nat → L2.St → Hp → Prop) (h0 : Pv 0 σ H)
    (hs : ∀ i σ' H', i < n → Pv i σ' H' → t { D with nx := Pv (i + 1), ct := Pv (i + 1), bk := D.nx } (σ'.set j (some (.int (lo + i)))) H') (hd : ∀ σ' H', Pv n σ' H' → D.nx σ' H') : forK (gName j) t D σ (Itr lo n) H :=
  for_range Pv h0 hs hd
theorem r_forR0 {n : Nat} {j : Nat} (Pv : Nat → L2.St → Hp → Prop) (h0 : Pv 0 σ H)
    (hs : ∀ i σ' H', i < n → Pv i σ' H' → t { D with nx := Pv (i + 1), ct := Pv (i + 1), bk := D.nx } (σ'.set j (some (.int (i : Int)))) H') (hd : ∀ σ' H', Pv n σ' H' → D.nx σ' H') : forK (gName j) t D σ (Itr 0 n) H :=
  for_range Pv h0 (fun i σ' H' hi p => by
    have e : (0 : Int) + (i : Int) = i := Int.zero_add _
    rw [e]
    exact hs i σ' H' hi p) hd
theorem r_forL {a : Addr} {xs : List V} {g : TG} (Pv : Nat → L2.St → Hp → Prop) (h0 : Pv 0 σ H) (hl : ∀ i σ H, i ≤ xs.length → Pv i σ H → SqL K H a xs)
    (hs : ∀ i x σ' H', xs[i]? = some x → Pv i σ' H' → g x σ' H' fun σ2 H2 => t { D with nx := Pv (i + 1), ct := Pv (i + 1), bk := D.nx } σ2 H2) (hd : ∀ σ' H', Pv xs.length σ' H' → D.nx σ' H') : forK g t D σ (Itl K a) H := for_list Pv h0 hl hs hd
theorem r_forT {a : Addr} {xs : List V} {g : TG} (Pv : Nat → L2.St → Hp → Prop) (h0 : Pv 0 σ H) (hl : ∀ i σ H, i ≤ xs.length → Pv i σ H → SqT K H a xs)
    (hs : ∀ i x σ' H', xs[i]? = some x → Pv i σ' H' → g x σ' H' fun σ2 H2 => t { D with nx := Pv (i + 1), ct := Pv (i + 1), bk := D.nx } σ2 H2) (hd : ∀ σ' H', Pv xs.length σ' H' → D.nx σ' H') : forK g t D σ (Itt K a) H := for_tup Pv h0 hl hs hd
/-! comprehensions -/
def lcK (g : TG) (tt : TT) (te : TE) (vs : List Nat) (σ : L2.St) (Q : VK) : It → Hp → Prop := fun J H1 => ∀ D, H1 D = none → ∃ W : Nat → Nat → Hp → Prop, (∃ m, W 0 m (upd H1 D (.lst []))) ∧ ∀ i m H, W i m H →
  (J.stop i H ∧ Q (.ref D) H) ∨ (J.go i H ∧ ∃ Nx : Hp → Prop, (∀ H', Nx H' → ∃ m', m' < m ∧ W (i + 1) m' H') ∧ ∀ x H', J.yld i H x H' → g x (wipe σ vs) H' fun σ2 H2 => wipe σ2 vs = wipe σ vs ∧ tt σ2 H2 fun b H3 =>
    if b = true then te σ2 H3 fun y H4 => ∃ acc, H4 D = some (.lst acc) ∧ acc.length < sizeLine ∧ Nx (upd H4 D (.lst (acc ++ [y]))) else Nx H3)
theorem r_lc {wi : TI} {g : TG} {vs : List Nat} (h : wi σ H (lcK g tt te vs σ Q)) : tLc wi g tt te vs σ H Q := h
theorem Same.upd2 {H H' : Hp} {p : Addr} {o : HO} (s : Same H H') (h : H p = none) : Same H (upd H' p o) := fun b u z => by
  rw [upd_ne (ne_of_none z h)]
  exact s b u z
theorem filt_yes {n : Nat} {f : Nat → Bool} {v : Nat → V} (h : f n = true) : ((List.range (n + 1)).filter f).map v = ((List.range n).filter f).map v ++ [v n] := by
  rw [List.range_succ, List.filter_append, List.map_append]
  simp [h]
theorem filt_no {n : Nat} {f : Nat → Bool} {v : Nat → V} (h : f n = false) : ((List.range (n + 1)).filter f).map v = ((List.range n).filter f).map v := by
  rw [List.range_succ, List.filter_append, List.map_append]
  simp [h]
theorem filt_len (n : Nat) (f : Nat → Bool) (v : Nat → V) : (((List.range n).filter f).map v).length ≤ n := by
  rw [List.length_map]
  have h := List.length_filter_le f (List.range n)
  rw [List.length_range] at h
  exact h
/-- one turn, and the next -/
theorem lc_turn {f : Nat → Bool} {v : Nat → V} {i : Nat} {H0 H' : Hp} {Dl : Addr} {σ2 : L2.St} (hD : H0 Dl = none) (s : Same H0 H') (hl : H' Dl = some (.lst (((List.range i).filter f).map v))) (hi : i < 100000)
    (ht : ∀ QT : Bool → Hp → Prop, (∀ H2, Same H' H2 → QT (f i) H2) → tt σ2 H' QT) (he : ∀ H2, f i = true → Same H' H2 → ∀ Q : VK, (∀ H3, Same H2 H3 → Q (v i) H3) → te σ2 H2 Q) :
    tt σ2 H' fun b H3 => if b = true then te σ2 H3 fun y H4 => ∃ acc, H4 Dl = some (.lst acc) ∧ acc.length < sizeLine ∧ (Same H0 (upd H4 Dl (.lst (acc ++ [y]))) ∧ (upd H4 Dl (.lst (acc ++ [y]))) Dl = some (.lst (((List.range (i + 1)).filter f).map v)))
      else (Same H0 H3 ∧ H3 Dl = some (.lst (((List.range (i + 1)).filter f).map v))) := by
  refine ht _ fun H2 s2 => ?_
  cases hf : f i with
  | true =>
    show te σ2 H2 _
    refine he H2 hf s2 _ fun H3 s3 => ⟨_, s3 _ _ (s2 _ _ hl), ?_, Same.upd2 ((s.trans s2).trans s3) hD, ?_⟩
    · have := filt_len i f v
      exact Nat.lt_of_le_of_lt (Nat.le_trans this (Nat.le_of_lt hi)) (by decide)
    · rw [upd_same, filt_yes hf]
  | false =>
    refine ⟨s.trans s2, ?_⟩
    rw [filt_no hf]
    exact s2 _ _ hl
theorem r_lcR {n : Nat} {j : Nat} {vs : List Nat} (f : Nat → Bool) (v : Nat → V) (hn : n ≤ 100000) (hw : ∀ x, wipe ((wipe σ vs).set j (some x)) vs = wipe σ vs)
    (ht : ∀ i H', i < n → Same H H' → ∀ QT : Bool → Hp → Prop, (∀ H2, Same H' H2 → QT (f i) H2) → tt ((wipe σ vs).set j (some (.int (i : Int)))) H' QT)
    (he : ∀ i H', i < n → f i = true → Same H H' → ∀ Q : VK, (∀ H2, Same H' H2 → Q (v i) H2) → te ((wipe σ vs).set j (some (.int (i : Int)))) H' Q)
    (q : ∀ p H', H p = none → Same H H' → H' p = some (.lst (((List.range n).filter f).map v)) → Q (.ref p) H') : lcK (gName j) tt te vs σ Q (Itr 0 n) H := fun Dl hD =>
  lc_range (fun i H' => Same H H' ∧ H' Dl = some (.lst (((List.range i).filter f).map v))) ⟨fun b o z => by rw [upd_ne (ne_of_none z hD)]; exact z, upd_same⟩
    (fun i H' hi p => by
      have e0 : (0 : Int) + (i : Int) = (i : Int) := Int.zero_add _
      rw [e0]
      exact ⟨hw _, lc_turn hD p.1 p.2 (Nat.lt_of_lt_of_le hi hn) (fun QT k => ht i H' hi p.1 QT k) fun H2 hf s2 => he i H2 hi hf (p.1.trans s2)⟩) fun H' p => q Dl H' hD p.1 p.2
theorem r_lcL {a : Addr} {xs : List V} {j : Nat} {vs : List Nat} (f : Nat → Bool) (v : Nat → V) (hn : xs.length ≤ 100000) (hx : SqL K H a xs) (hw : ∀ x, wipe ((wipe σ vs).set j (some x)) vs = wipe σ vs)
    (ht : ∀ i x H', xs[i]? = some x → Same H H' → ∀ QT : Bool → Hp → Prop, (∀ H2, Same H' H2 → QT (f i) H2) → tt ((wipe σ vs).set j (some x)) H' QT)
    (he : ∀ i x H', xs[i]? = some x → f i = true → Same H H' → ∀ Q : VK, (∀ H2, Same H' H2 → Q (v i) H2) → te ((wipe σ vs).set j (some x)) H' Q)
    (q : ∀ p H', H p = none → Same H H' → H' p = some (.lst (((List.range xs.length).filter f).map v)) → Q (.ref p) H') : lcK (gName j) tt te vs σ Q (Itl K a) H := fun Dl hD =>
  lc_list (xs := xs) (fun i H' => Same H H' ∧ H' Dl = some (.lst (((List.range i).filter f).map v))) ⟨fun b o z => by rw [upd_ne (ne_of_none z hD)]; exact z, upd_same⟩ (fun i H' _ p => p.1.seq hx)
    (fun i x H' hi p => ⟨hw _, lc_turn hD p.1 p.2 (Nat.lt_of_lt_of_le (List.getElem?_eq_some_iff.mp hi).1 hn) (fun QT k => ht i x H' hi p.1 QT k) fun H2 hf s2 => he i x H2 hi hf (p.1.trans s2)⟩) fun H' p => q Dl H' hD p.1 p.2
theorem same_tup {H H' : Hp} {a : Addr} {xs : List V} (e : Same H H') (h : SqT K H a xs) : SqT K H' a xs := by
  rcases h with (h | ⟨o, h⟩) | h
  · exact .inl (.inl (e _ _ h))
  · exact .inl (.inr ⟨o, e _ _ h⟩)
  · exact .inr h
theorem r_lcT {a : Addr} {xs : List V} {j : Nat} {vs : List Nat} (f : Nat → Bool) (v : Nat → V) (hn : xs.length ≤ 100000) (hx : SqT K H a xs) (hw : ∀ x, wipe ((wipe σ vs).set j (some x)) vs = wipe σ vs)
    (ht : ∀ i x H', xs[i]? = some x → Same H H' → ∀ QT : Bool → Hp → Prop, (∀ H2, Same H' H2 → QT (f i) H2) → tt ((wipe σ vs).set j (some x)) H' QT)
    (he : ∀ i x H', xs[i]? = some x → f i = true → Same H H' → ∀ Q : VK, (∀ H2, Same H' H2 → Q (v i) H2) → te ((wipe σ vs).set j (some x)) H' Q)
    (q : ∀ p H', H p = none → Same H H' → H' p = some (.lst (((List.range xs.length).filter f).map v)) → Q (.ref p) H') : lcK (gName j) tt te vs σ Q (Itt K a) H := fun Dl hD =>
  lc_tup (xs := xs) (fun i H' => Same H H' ∧ H' Dl = some (.lst (((List.range i).filter f).map v))) ⟨fun b o z => by rw [upd_ne (ne_of_none z hD)]; exact z, upd_same⟩ (fun i H' _ p => same_tup p.1 hx)
    (fun i x H' hi p => ⟨hw _, lc_turn hD p.1 p.2 (Nat.lt_of_lt_of_le (List.getElem?_eq_some_iff.mp hi).1 hn) (fun QT k => ht i x H' hi p.1 QT k) fun H2 hf s2 => he i x H2 hi hf (p.1.trans s2)⟩) fun H' p => q Dl H' hD p.1 p.2
/-! xs[j] op= e -/
def rGetL (K : PySem.W.Frag) : V → V → Hp → VK → Prop := fun x y H Q => ∃ p xs v, ∃ j : Nat, x = .ref p ∧ y = .int j ∧ SqL K H p xs ∧ xs[j]? = some v ∧ Q v H
theorem pget_list {X : Cx} : PGet X (rGetL X.K) := by
  intro pins s σ H o i ov iv Q I r1 r2 h
  obtain ⟨p, xs, v, j, rfl, rfl, hs, hj, q⟩ := h
  cases r1
  obtain ⟨t, rfl⟩ := r2
  obtain ⟨its, r, pl, hz⟩ := I.list hs
  obtain ⟨u, hu, ru⟩ := r.get hj
  have hl : j < xs.length := (List.getElem?_eq_some_iff.mp hj).1
  exact wpAny_getItem_list pl.isList (by omega) (by have := line63; omega) (by simpa using hu) ⟨v, H, I, ru, q⟩
theorem r_augS {o i e : TE} {tg : V → V → Hp → VK → Prop} {ip : TIp} {ts : TSet} (h : o σ H fun x H1 => i σ H1 fun k H2 => tg x k H2 fun v H3 => e σ H3 fun y H4 => ip v y H4 fun z H5 => ts x k z H5 fun H6 => D.nx σ H6) : tAugS o i e tg ip ts D σ H := h
theorem r_getL {p : Addr} {xs : List V} {j : Nat} (h : SqL K H p xs) (e : xs[j]? = some v) (q : Q v H) : rGetL K (.ref p) (.int j) H Q := ⟨p, xs, v, j, rfl, rfl, h, e, q⟩
theorem r_ipI {f : Int → Int → Int} {a b : Int} (q : Q (.int (f a b)) H) : ipI f (.int a) (.int b) H Q := ⟨a, b, rfl, rfl, q⟩
theorem ix_nat {n j : Nat} (h : j < n) : ixN n (j : Int) = some j := by
  unfold ixN
  first
    | (rw [if_pos (by omega)]; simp; omega)
    | simp [h]
/-! raise C(e) -/
def mkK (C : Addr) (f : Str) (okV : V → Prop) (vs : List V) (H1 : Hp) (QX : XK) : Prop := ∃ v, vs = [v] ∧ okV v ∧ ∀ dx, H1 dx = none → QX (.ref C) (some dx) (upd H1 dx (.xd [(f, v)]))
theorem r_mkE {C : Addr} {f : Str} {okV : V → Prop} {ts : TA} {QX : XK} (h : ts σ H fun vs H1 => mkK C f okV vs H1 QX) : tMkE C f okV ts σ H QX := h
theorem r_mkK {C : Addr} {f : Str} {okV : V → Prop} {QX : XK} (ok : okV v) (q : ∀ dx, H dx = none → QX (.ref C) (some dx) (upd H dx (.xd [(f, v)]))) : mkK C f okV [v] H QX := ⟨v, rfl, ok, q⟩
/-! t + u, the right one not empty -/
theorem r_catT {a b : Addr} {xs ys : List V} (ha : SqT K H a xs) (hb : H b = some (.tup ys)) (hz : xs.length + ys.length ≤ 100000) (hy : ys ≠ [])
    (q : ∀ t H', Same H H' → H' t = some (.tup (xs ++ ys)) → Q (.ref t) H') : rCatA K (.ref a) (.ref b) H Q :=
  ⟨a, b, xs, ys, rfl, rfl, ha, SqT.of hb, Nat.le_trans hz (by decide), fun e => q b H (Same.refl H) (by rw [e]; exact hb), fun _ e => absurd e hy,
    fun _ _ p hp => q p _ (fun c o z => by rw [upd_ne (ne_of_none z hp)]; exact z) upd_same⟩
/-! methods, properties, new instances -/
def mthK (C : Addr) (m : Str) (sp : Sp) (dvs : List V) (E : XK) (ts : TA) (σ : L2.St) (x : V) (H1 : Hp) (Q : VK) : Prop := ∃ a dx fs, x = .ref a ∧ H1 a = some (.ins C dx fs) ∧ fs.lookup m = none ∧ ts σ H1 fun vs H2 => sp (x :: (vs ++ dvs)) H2 Q E
theorem r_meth {C : Addr} {m : Str} {sp : Sp} {dvs : List V} {E : XK} {ts : TA} (h : ta σ H fun x H1 => mthK C m sp dvs E ts σ x H1 Q) : tMeth C m sp dvs E ta ts σ H Q := h
theorem r_mthK {C a dx : Addr} {fs : List (Str × V)} {m : Str} {sp : Sp} {dvs : List V} {E : XK} {ts : TA} (ha : H a = some (.ins C dx fs)) (l : fs.lookup m = none) (h : ts σ H fun vs H2 => sp (.ref a :: (vs ++ dvs)) H2 Q E) : mthK C m sp dvs E ts σ (.ref a) H Q := ⟨a, dx, fs, rfl, ha, l, h⟩
def prpK (C : Addr) (sp : Sp) (dvs : List V) (E : XK) (x : V) (H1 : Hp) (Q : VK) : Prop := ∃ a dx fs, x = .ref a ∧ H1 a = some (.ins C dx fs) ∧ sp (.ref a :: dvs) H1 Q E
theorem r_prop {C : Addr} {sp : Sp} {dvs : List V} {E : XK} (h : ta σ H fun x H1 => prpK C sp dvs E x H1 Q) : tProp C sp dvs E ta σ H Q := h
theorem r_prpK {C a dx : Addr} {fs : List (Str × V)} {sp : Sp} {dvs : List V} {E : XK} (ha : H a = some (.ins C dx fs)) (h : sp (.ref a :: dvs) H Q E) : prpK C sp dvs E (.ref a) H Q := ⟨a, dx, fs, rfl, ha, h⟩
theorem r_make {C : Addr} {sp : Sp} {dvs : List V} {E : XK} {ts : TA} (h : ts σ H fun vs H1 => ∀ x dx, H1 x = none → H1 dx = none → dx ≠ x → sp (.ref x :: (vs ++ dvs)) (upd (upd H1 dx (.own x)) x (.ins C dx [])) (fun v H2 => v = .non ∧ Q (.ref x) H2) E) : tMake C sp dvs E ts σ H Q := h
/-! dicts with keys that are ints -/
def dinK (y x : V) (H2 : Hp) (Q : VK) : Prop := ∃ a o, x = .ref a ∧ DGet H2 a y o ∧ Q (.bl o.isSome) H2
theorem r_din {ty td : TE} (h : ty σ H fun y H1 => td σ H1 fun x H2 => dinK y x H2 Q) : tDIn ty td σ H Q := h
theorem r_dinK {a : Addr} {kvs : List (Key × V)} {k : Int} (e : Rd H a (.dK kvs)) (q : Q (.bl (valV kvs (Sum.inl k : Key)).isSome) H) : dinK (.int k) (.ref a) H Q := ⟨a, _, rfl, .inl ⟨kvs, Sum.inl k, e, rfl, rfl⟩, q⟩
def dninK (y x : V) (H2 : Hp) (Q : VK) : Prop := ∃ a o, x = .ref a ∧ DGet H2 a y o ∧ Q (.bl (!o.isSome)) H2
theorem r_dnin {ty td : TE} (h : ty σ H fun y H1 => td σ H1 fun x H2 => dninK y x H2 Q) : tDNotIn ty td σ H Q := h
theorem r_dninK {a : Addr} {kvs : List (Key × V)} {k : Int} (e : Rd H a (.dK kvs)) (q : Q (.bl (!(valV kvs (Sum.inl k : Key)).isSome)) H) : dninK (.int k) (.ref a) H Q := ⟨a, _, rfl, .inl ⟨kvs, Sum.inl k, e, rfl, rfl⟩, q⟩
def dputK (x y v : V) (H3 : Hp) (N : Hp → Prop) : Prop := ∃ a H4, x = .ref a ∧ DPut H3 a y v H4 ∧ N H4
theorem r_dput {td ty tv : TE} (h : tv σ H fun v H1 => td σ H1 fun x H2 => ty σ H2 fun y H3 => dputK x y v H3 (D.nx σ)) : sDPut td ty tv D σ H := h
theorem r_dputK {a : Addr} {kvs : List (Key × V)} {k : Int} {N : Hp → Prop} (e : H a = some (.dK kvs)) (hl : kvs.length < sizeLine) (q : N (upd H a (.dK (putK kvs (Sum.inl k : Key) v)))) : dputK (.ref a) (.int k) v H N := ⟨a, _, rfl, DPut.k (k := Sum.inl k) e hl, q⟩
def dgetK (x y : V) (H2 : Hp) (Q : VK) : Prop := ∃ a v, x = .ref a ∧ DGet H2 a y (some v) ∧ Q v H2
theorem r_dget {td ty : TE} (h : td σ H fun x H1 => ty σ H1 fun y H2 => dgetK x y H2 Q) : tDGet td ty σ H Q := h
theorem r_dgetK {a : Addr} {kvs : List (Key × V)} {k : Int} (e : Rd H a (.dK kvs)) (g : valV kvs (Sum.inl k : Key) = some v) (q : Q v H) : dgetK (.ref a) (.int k) H Q := ⟨a, v, rfl, .inl ⟨kvs, Sum.inl k, e, rfl, g.symm⟩, q⟩
end
/-- one step of a plain reading -/
local macro_rules | `(tactic| walk_at "step") => `(tactic| first
  | with_reducible refine r_seq ?_ | with_reducible refine r_nx ?_ | with_reducible refine r_asgN ?_ | with_reducible refine r_asgS ?_ | with_reducible refine r_asgT ?_ | with_reducible refine r_ifS ?_
  | with_reducible refine r_ret ?_ | with_reducible refine r_retN ?_ | with_reducible refine r_drop ?_ | with_reducible refine r_test ?_ | with_reducible refine r_B ?_ | with_reducible refine r_not ?_
  | with_reducible refine r_and ?_ | with_reducible refine r_or ?_ | with_reducible refine r_andV ?_ | with_reducible refine r_orV ?_ | with_reducible refine r_notV ?_
  | ((with_reducible refine' r_var ?e ?_); (case e => exact rfl)) | with_reducible refine r_c ?_ | with_reducible refine r_op ?_ | with_reducible refine r_un ?_
  | with_reducible refine r_I0 ?_ | with_reducible refine r_eqI ?_ | with_reducible refine r_neI ?_ | with_reducible refine r_bl ?_ | with_reducible refine r_nil ?_ | with_reducible refine r_cons ?_
  | with_reducible refine r_cb ?_ | with_reducible refine r_call ?_ | with_reducible refine r_tup ?_ | with_reducible refine r_lst ?_ | with_reducible refine r_fld ?_ | with_reducible refine r_bm ?_ | with_reducible refine r_bm0 ?_
  | with_reducible refine r_for ?_ | with_reducible refine r_rng ?_ | with_reducible refine r_rng2 ?_ | with_reducible refine r_lstI ?_ | with_reducible refine r_tupI ?_ | with_reducible refine r_lc ?_
  | with_reducible refine r_augS ?_ | with_reducible refine r_ipI ?_
  | with_reducible refine r_meth ?_ | with_reducible refine r_prop ?_ | with_reducible refine r_make ?_ | with_reducible refine r_din ?_ | with_reducible refine r_dnin ?_ | with_reducible refine r_dput ?_ | with_reducible refine r_dget ?_
  | with_reducible refine r_gN ?_ | with_reducible refine r_tsl ?_ | with_reducible refine r_noP ?_ | with_reducible refine r_part ?_ | with_reducible refine r_pI ?_ | with_reducible refine r_tif ?_ | with_reducible refine r_SL ?_ | with_reducible refine r_gC ?_ | with_reducible refine r_U ?_ | with_reducible refine r_sfld ?_ | with_reducible refine r_dnew ?_ | with_reducible refine r_keys ?_
  | with_reducible refine r_mkE ?_ | with_reducible refine iteT ?_ | with_reducible refine iteF ?_
  | with_reducible refine r_int ?_ | with_reducible refine r_min2 ?_ | with_reducible refine r_isN ?_ | with_reducible refine r_notN ?_)
/-- as far as it goes by itself -/
local macro_rules | `(tactic| walk_at "go") => `(tactic| ((repeat walk_at "step"); (try dsimp only)))

example {H : Hp} {Q : VK} (q : Q (.int 5) H) : tOp (rI0 fun i j => V.int (i + j)) (tVar 0) (tC (.int 3)) [some (.int 2)] H Q := by
  repeat walk_at "step"
  exact q
end Er
namespace Er
open PySem PySem.Spec PyProof.Rows L2
section
variable {K : PySem.W.Frag} {σ : L2.St} {H : Hp} {D : Ends} {Q : VK} {QT : Bool → Hp → Prop} {ta tb te : TE} {t u : TS} {tt tu : TT} {i : Nat} {v x y : V}
theorem r_gN {k : L2.St → Hp → Prop} (h : k (σ.set i (some x)) H) : gName i x σ H k := h
theorem r_U {g : Int → V} {a : Int} (q : Q (g a) H) : rU g (.int a) H Q := ⟨a, rfl, q⟩
/-! e.f = v -/
def sfldK (K : PySem.W.Frag) (f : Str) (y x : V) (H2 : Hp) (N : Hp → Prop) : Prop := ∃ a C dx fs, x = .ref a ∧ H2 a = some (.ins C dx fs) ∧ Cls K C ∧ NoAttr K C f ∧ fs.length < 1000 ∧ N (upd H2 a (.ins C dx (putF f y fs)))
theorem r_sfld {to tv : TE} {f : Str} (h : tv σ H fun y H1 => to σ H1 fun x H2 => sfldK K f y x H2 (D.nx σ)) : sFld K to tv f D σ H := h
theorem r_sfldK {f : Str} {a C dx : Addr} {fs : List (Str × V)} {N : Hp → Prop} (ha : H a = some (.ins C dx fs)) (c : Cls K C) (n : NoAttr K C f) (l : fs.length < 1000) (q : N (upd H a (.ins C dx (putF f y fs)))) : sfldK K f y (.ref a) H N := ⟨a, C, dx, fs, rfl, ha, c, n, l, q⟩
theorem r_dnew (h : ∀ p, H p = none → Q (.ref p) (upd H p (.dK []))) : tDNewK σ H Q := h
/-! [v] * n -/
theorem r_rep {l : Addr} {k : Nat} {v : V} (h : H l = some (.lst [v])) (hk : k ≤ 1000) (q : ∀ p, H p = none → Q (.ref p) (upd H p (.lst (List.replicate k v)))) : rRep (.ref l) (.int (k : Int)) H Q := by
  refine ⟨l, k, [v], rfl, rfl, h, by omega, by omega, ?_, fun p hp => ?_⟩
  · show 1 * (k : Int).toNat ≤ sizeLine
    have : (1000 : Nat) ≤ sizeLine := by decide
    omega
  · have e : (List.replicate ((k : Int).toNat) [v]).flatten = List.replicate k v := by
      rw [Int.toNat_natCast]
      clear hk q
      induction k with
      | zero => rfl
      | succ k ih => rw [List.replicate_succ, List.flatten_cons, ih]; rfl
    rw [e]
    exact q p hp
/-! sorted of a dict's ints, list of a dict -/
def rSortDI : List V → Hp → VK → Prop := fun xs H Q => ∃ (a : Addr) (kvs : List (Key × V)) (ks : List Int), xs = [.ref a] ∧ Rd H a (.dK kvs) ∧ kvs.map (·.1) = ks.map Sum.inl ∧ ks.length < 64 ∧
    ∀ (ys : List Int) (p : Addr), ys.Perm ks → ys.Pairwise (· ≤ ·) → H p = none → Q (.ref p) (upd H p (.lst (ys.map V.int)))
theorem c_sortDI {X : Cx} (hc : X.calm = true) : CallR X (.builtin "sorted") rSortDI := call_sortedDI hc
def rListDK : List V → Hp → VK → Prop := fun xs H Q => ∃ (a : Addr) (kvs : List (Key × V)), xs = [.ref a] ∧ Rd H a (.dK kvs) ∧ ∀ p, H p = none → Q (.ref p) (upd H p (.lst (kvs.map fun kv => kV kv.1)))
theorem c_listD {X : Cx} (hc : X.calm = true) : CallR X (.type "list") rListDK := call_listD hc
theorem sort_one_int {xs ys : List Int} (p : xs.Perm ys) (hx : xs.Pairwise (· ≤ ·)) (hy : ys.Pairwise (· ≤ ·)) : xs = ys := List.Perm.eq_of_pairwise (fun _ _ _ _ a b => Int.le_antisymm a b) hx hy p
/-- the ints of zs, in order: ss -/
theorem r_sortDI {a : Addr} {kvs : List (Key × V)} {ks ss : List Int} (h : Rd H a (.dK kvs)) (e : kvs.map (·.1) = ks.map Sum.inl) (l : ks.length < 64) (p : ss.Perm ks) (o : ss.Pairwise (· ≤ ·)) (q : ∀ p, H p = none → Q (.ref p) (upd H p (.lst (ss.map V.int)))) : rSortDI [.ref a] H Q :=
  ⟨a, kvs, ks, rfl, h, e, l, fun ys p' h1 h2 => by
    rw [sort_one_int (h1.trans p.symm) h2 o]
    exact q p'⟩
theorem r_sorted {a : Addr} {ks ss : List Int} (h : SqL K H a (ks.map V.int)) (l : ks.length < 64) (p : ss.Perm ks) (o : ss.Pairwise (· ≤ ·)) (q : ∀ p, H p = none → Q (.ref p) (upd H p (.lst (ss.map V.int)))) : rSorted K [.ref a] H Q :=
  ⟨a, ks, rfl, h, l, fun ys p' h1 h2 => by
    rw [sort_one_int (h1.trans p.symm) h2 o]
    exact q p'⟩
theorem r_listDK {a : Addr} {kvs : List (Key × V)} (h : Rd H a (.dK kvs)) (q : ∀ p, H p = none → Q (.ref p) (upd H p (.lst (kvs.map fun kv => kV kv.1)))) : rListDK [.ref a] H Q := ⟨a, kvs, rfl, h, q⟩
/-! for k in d -/
def keysK (x : V) (H1 : Hp) (R : It → Hp → Prop) : Prop := ∃ d o, x = .ref d ∧ ((∃ kvs, H1 d = some (.frz o (.dK kvs)) ∧ R (Itk d o kvs) H1) ∨ ∃ kvs, H1 d = some (.frz o (.dT kvs)) ∧ R (Itkt d o kvs) H1)
theorem r_keys {R : It → Hp → Prop} (h : ta σ H fun x H1 => keysK x H1 R) : iKeys ta σ H R := h
theorem r_keysK {R : It → Hp → Prop} {d : Addr} {o : Obj} {kvs : List (Key × V)} (h : H d = some (.frz o (.dK kvs))) (q : R (Itk d o kvs) H) : keysK (.ref d) H R := ⟨d, o, rfl, .inl ⟨kvs, h, q⟩⟩
theorem r_forK {d : Addr} {o : Obj} {kvs : List (Key × V)} {g : TG} (Pv : Nat → L2.St → Hp → Prop) (h0 : Pv 0 σ H) (hl : ∀ i σ H, i ≤ kvs.length → Pv i σ H → H d = some (.frz o (.dK kvs)))
    (hs : ∀ i k v σ' H', kvs[i]? = some (k, v) → Pv i σ' H' → g (kV k) σ' H' fun σ2 H2 => t { D with nx := Pv (i + 1), ct := Pv (i + 1), bk := D.nx } σ2 H2) (hd : ∀ σ' H', Pv kvs.length σ' H' → D.nx σ' H') : forK g t D σ (Itk d o kvs) H :=
  for_it walk_keys Pv h0 hl (fun i x σ' H' H2 hi p y => by
    obtain ⟨rfl, k, v, e, rfl⟩ := y
    exact hs i k v _ _ e p) hd
end
/-! within a comprehension: K is told -/
section
variable {X : Cx}
theorem ixL (K : PySem.W.Frag) (e : X.K = K := by rfl) : IxR X (rIxL K) := by subst e; exact ix_list
theorem ixT (K : PySem.W.Frag) (e : X.K = K := by rfl) : IxR X (rIxT K) := by subst e; exact ix_tup
theorem inK (K : PySem.W.Frag) (e : X.K = K := by rfl) : OpR X (compareOp .In) (rIn K false) := by subst e; exact op_in_seq
theorem ninK (K : PySem.W.Frag) (e : X.K = K := by rfl) : OpR X (compareOp .NotIn) (rIn K true) := by subst e; exact op_notIn_seq
theorem lenK (K : PySem.W.Frag) (e : X.K = K := by rfl) : CallR X (.builtin "len") (rLen K) := by subst e; exact c_len
theorem fldE (K : PySem.W.Frag) {e : Expr} {f : Str} {pos : Pos} {ta : TE} (he : PE X e ta) (h : X.K = K := by rfl) (hb : attributeBase e f X.env (eval e X.env) = eval e X.env := by rfl) : PE X (.Attribute e f pos) (tFld K ta f) := by subst h; exact pe_fld he hb
end
end Er
namespace Er
open PySem PySem.Spec PyProof.Rows L2
section
variable {K : PySem.W.Frag} {σ : L2.St} {H : Hp} {D : Ends} {Q : VK} {te : TE} {tt : TT}
/-- [e for x in xs] where e is made anew each time: the item of turn i is told by Rl -/
theorem lcm_core {n : Nat} {Rl : Nat → V → Hp → Prop} (st : ∀ i v H H', Same H H' → Rl i v H → Rl i v H') {i : Nat} {H0 H' : Hp} {Dl : Addr} {σ2 : L2.St} {acc : List V} (hD : H0 Dl = none) (s : Same H0 H') (hl : H' Dl = some (.lst acc)) (la : acc.length = i) (ha : ∀ j y, acc[j]? = some y → Rl j y H') (hi : i < 100000)
    (away : ∀ j y H H', H Dl = some (.lst acc) → Rl j y H → (∀ b u, b ≠ Dl → H b = some u → H' b = some u) → Rl j y H')
    (he : ∀ Q : VK, (∀ y H2, Same H' H2 → Rl i y H2 → Q y H2) → te σ2 H' Q) :
    te σ2 H' fun y H4 => ∃ acc, H4 Dl = some (.lst acc) ∧ acc.length < sizeLine ∧ (Same H0 (upd H4 Dl (.lst (acc ++ [y]))) ∧ ∃ ac, (upd H4 Dl (.lst (acc ++ [y]))) Dl = some (.lst ac) ∧ ac.length = i + 1 ∧ ∀ j y', ac[j]? = some y' → Rl j y' (upd H4 Dl (.lst (acc ++ [y])))) := by
  refine he _ fun y H2 s2 r2 => ⟨acc, s2 _ _ hl, ?_, Same.upd2 (s.trans s2) hD, acc ++ [y], upd_same, by rw [List.length_append, la]; rfl, fun j y' hj => ?_⟩
  · rw [la]
    exact Nat.lt_of_lt_of_le hi (by decide)
  · have keep : ∀ b u, b ≠ Dl → H2 b = some u → upd H2 Dl (.lst (acc ++ [y])) b = some u := fun b u nb z => by rw [upd_ne nb]; exact z
    rcases Nat.lt_or_ge j acc.length with h | h
    · rw [List.getElem?_append_left h] at hj
      exact away j y' H2 _ (s2 _ _ hl) (st _ _ _ _ s2 (ha j y' hj)) keep
    · rw [List.getElem?_append_right h] at hj
      have e : j - acc.length = 0 := by
        rcases Nat.eq_zero_or_pos (j - acc.length) with z | z
        · exact z
        · rw [List.getElem?_eq_none (by show 1 ≤ _; omega)] at hj
          cases hj
      rw [e] at hj
      cases hj
      have ej : j = i := by omega
      subst ej
      exact away _ _ H2 _ (s2 _ _ hl) r2 keep
theorem r_lcLm {a : Addr} {xs : List V} {j : Nat} {vs : List Nat} (Rl : Nat → V → Hp → Prop) (away : ∀ i v Dl zs H H', H Dl = some (.lst zs) → Rl i v H → (∀ b u, b ≠ Dl → H b = some u → H' b = some u) → Rl i v H') (st : ∀ i v H H', Same H H' → Rl i v H → Rl i v H')
    (hn : xs.length ≤ 100000) (hx : SqL K H a xs) (hw : ∀ x, wipe ((wipe σ vs).set j (some x)) vs = wipe σ vs)
    (he : ∀ i x H', xs[i]? = some x → Same H H' → ∀ Q : VK, (∀ y H2, Same H' H2 → Rl i y H2 → Q y H2) → te ((wipe σ vs).set j (some x)) H' Q)
    (q : ∀ p ys H', H p = none → Same H H' → H' p = some (.lst ys) → ys.length = xs.length → (∀ i y, ys[i]? = some y → Rl i y H') → Q (.ref p) H') : lcK (gName j) tYes te vs σ Q (Itl K a) H := fun Dl hD =>
  lc_list (xs := xs) (fun i H' => Same H H' ∧ ∃ acc, H' Dl = some (.lst acc) ∧ acc.length = i ∧ ∀ j y, acc[j]? = some y → Rl j y H') ⟨fun b o z => by rw [upd_ne (ne_of_none z hD)]; exact z, [], upd_same, rfl, fun j y h => by simp at h⟩ (fun i H' _ p => p.1.seq hx)
    (fun i x H' hi p => by
      obtain ⟨s, acc, hl, la, ha⟩ := p
      exact ⟨hw _, lcm_core (n := xs.length) st hD s hl la ha (Nat.lt_of_lt_of_le (List.getElem?_eq_some_iff.mp hi).1 hn) (fun j y H H' h1 h2 h3 => away j y Dl acc H H' h1 h2 h3) (he i x H' hi s)⟩)
    fun H' p => by
      obtain ⟨s, acc, hl, la, ha⟩ := p
      exact q Dl acc H' hD s hl la ha
end
end Er
namespace Er
open PySem PySem.Spec PyProof.Rows L2
/-! sorted(e, key=len), e a list of tuples -/
def lenLe (x y : Addr × List V) : Bool := decide (x.2.length ≤ y.2.length)
def refsOf (ts : List (Addr × List V)) : List V := ts.map fun t => V.ref t.1
def rSortLen (K : PySem.W.Frag) : List V → Hp → VK → Prop := fun xs H Q => ∃ (a : Addr) (ts : List (Addr × List V)), xs = [.ref a] ∧ SqL K H a (refsOf ts) ∧ (∀ t ∈ ts, H t.1 = some (.tup t.2)) ∧ ts.length ≤ 1000 ∧
  ∀ p, H p = none → Q (.ref p) (upd H p (.lst (refsOf (ts.mergeSort lenLe))))
def tSL (K : PySem.W.Frag) (t : TA) : TE := fun σ H Q => t σ H fun vs H1 => rSortLen K vs H1 Q
theorem each_refs : ∀ {ts : List (Addr × List V)} {its : List Value}, Vals (refsOf ts) its → PySem.W.EachIs (fun v (t : Addr × List V) => v = Value.ref t.1) its ts
  | [], _, .nil => .nil
  | t :: ts, _, .cons r rs => by
    cases r
    exact .cons rfl (each_refs rs)
theorem vals_each : ∀ {ts : List (Addr × List V)} {its : List Value}, PySem.W.EachIs (fun v (t : Addr × List V) => v = Value.ref t.1) its ts → Vals (refsOf ts) its
  | _, _, .nil => .nil
  | _, _, .cons r rs => .cons r (vals_each rs)
section
variable {X : Cx}
theorem sortLen_run {pins : List (Addr × Obj)} {s : Shared} {σ : L2.St} {H : Hp} {Q : VK} {vs : List V} {us : List Value} (I : Inv X pins σ H s) (r : Vals vs us) (hu : X.A.units + 64 < cLine) (q : rSortLen X.K vs H Q) :
    wpAny (model X.prog X.w) X.A (call (.builtin "sorted") us [(Str.ofString "key", .builtin "len")]) (EP X pins σ Q) X.xe s := by
  obtain ⟨a, ts, rfl, hl, ht, hz, q⟩ := q
  obtain rfl := Vals.ref1 r
  obtain ⟨its, rv, pl, hz'⟩ := I.list hl
  have e := each_refs rv
  have hline : (1000 : Nat) ≤ sizeLine := by decide
  refine PySem.W.sorted_key_data (b := false) (k := fun t : Addr × List V => PyData.int t.2.length) pl.isList e (PySem.W.AllAlike.of fun _ _ => by simp [PySem.W.alike]) (PySem.W.Sortable.others fun _ => ⟨by simp, by simp⟩) (Nat.le_trans hz hline) (fun x _ => ?_) (PyProof.Rows.ksk_s1 _ _) (fun _ => PyProof.Rows.ksk_l1 _ _) (fun _ => PyProof.Rows.ksk_t4 _ _)
    (fun v t hv hm h tk kp => ?_) fun out c h' tk kp fr hD hlen eo => ?_
  · show X.A.units + 2 + 0 < cLine
    omega
  · subst hv
    obtain ⟨its2, r2, p2, z2⟩ := I.tuple (SqT.of (K := X.K) (ht t hm))
    refine len_tuple (p2.keeps kp) (by have e1 := r2.length; have e2 := line63; simp only [List.size_toArray]; omega) ⟨_, _, rfl, fun b o z => z, ?_⟩
    rw [List.size_toArray, ← r2.length]
    exact .int _ _
  · have hm : ts.mergeSort (PySem.W.dataLe false fun t : Addr × List V => PyData.int t.2.length) = ts.mergeSort lenLe := by
      rw [PySem.W.dataLe_int fun t : Addr × List V => (t.2.length : Int)]
      congr 1
      funext x y
      unfold lenLe
      exact decide_eq_decide.mpr (by omega)
    rw [hm] at eo
    have hv := vals_each eo
    refine ⟨.ref _, upd H (s.heap.objs.size + 1) (.lst (refsOf (ts.mergeSort lenLe))), I.laid (t' := tk) kp (Nat.le_succ _) ⟨?_, _, c, hv, hD⟩, rfl, q _ (I.hok.fresh (Nat.le_succ _))⟩
    unfold refsOf
    rw [List.length_map, List.length_mergeSort]
    exact Nat.le_trans hz hline
theorem pe_sortLen {e : Expr} {t : TA} {p p2 pos kpos : Pos} (hu : X.A.units + 64 < cLine) (ha : PA X [e] t) (hg : Gl X "sorted") (hm : X.mg "sorted" = none) (hg2 : Gl X "len") (hm2 : X.mg "len" = none)
    (he : backTo pos (starEach [e] X.env) = (false, eval e X.env) :: backTo pos (starEach [] X.env) := by rfl) (hpl : (backTo pos (starEach [e] X.env)).any (·.1) = false := by rfl) :
    PE X (.Call (.Name "sorted" p) [e] [⟨some "key", .Name "len" p2, kpos⟩] pos) (tSL X.K t) := by
  refine ⟨fun pins s σ H Q I h => ?_⟩
  refine wpAny_Call_Name_kw (ld_blt I hg hm (u := .builtin "sorted") (by decide +kernel) ?_)
  refine PyProof.Rows.callWith_kw (thn (ha.run pos pins s σ H _ I h) fun us s1 ⟨vs, H1, I1, r1, q1⟩ => ?_) he hpl rfl rfl
  show wpAny _ _ (evalAll ((do let v ← eval (.Name "len" p2) X.env; standAt pos; pure v) :: [])) _ _ s1
  refine wpAny_evalAll_cons (wpAny_bind (ld_blt I1 hg2 hm2 PySem.boot_len (wpAny_bind (wpAny_standAt (wpAny_pure ?_)))))
  refine wpAny_evalAll_nil ?_
  exact sortLen_run I1 r1 hu q1
theorem r_SL {K : PySem.W.Frag} {t : TA} {σ : L2.St} {H : Hp} {Q : VK} (h : t σ H fun vs H1 => rSortLen K vs H1 Q) : tSL K t σ H Q := h
end
end Er
namespace Er
open PySem PySem.Spec PyProof.Rows L2
/-! sorted(xs), xs a list of pairs of a length and a tuple of ints -/
structure LP where
  p : Addr
  l : List Int
def LP.enc (x : LP) : PyData := .tuple [.int (x.l.length : Int), .tuple (x.l.map PyData.int)]
def refsL (ts : List LP) : List V := ts.map fun t => V.ref t.p
def rSortLP (K : PySem.W.Frag) : List V → Hp → VK → Prop := fun xs H Q => ∃ (a : Addr) (ts : List LP), xs = [.ref a] ∧ SqL K H a (refsL ts) ∧ (∀ t ∈ ts, Dp K H (.ref t.p) t.enc) ∧ ts.length ≤ 1000 ∧
  ∀ p ts', ts'.Perm ts → ts'.Pairwise (fun x y => x.l.length ≤ y.l.length) → H p = none → Q (.ref p) (upd H p (.lst (refsL ts')))
theorem each_refsL : ∀ {ts : List LP} {its : List Value}, Vals (refsL ts) its → PySem.W.EachIs (fun v (t : LP) => v = Value.ref t.p) its ts
  | [], _, .nil => .nil
  | t :: ts, _, .cons r rs => by
    cases r
    exact .cons rfl (each_refsL rs)
theorem vals_eachL : ∀ {ts : List LP} {its : List Value}, PySem.W.EachIs (fun v (t : LP) => v = Value.ref t.p) its ts → Vals (refsL ts) its
  | _, _, .nil => .nil
  | _, _, .cons r rs => .cons r (vals_eachL rs)
theorem alike_ints : ∀ xs ys : List Int, PySem.W.alikeAll (xs.map PyData.int) (ys.map PyData.int) = true
  | [], _ => by simp [PySem.W.alikeAll]
  | _ :: _, [] => by simp [PySem.W.alikeAll]
  | x :: xs, y :: ys => by
    have := alike_ints xs ys
    simp [PySem.W.alikeAll, PySem.W.alike, this]
theorem alike_enc (x y : LP) : PySem.W.alike x.enc y.enc = true := by
  simp [LP.enc, PySem.W.alike, PySem.W.alikeAll, alike_ints]
theorem okd_enc (x : LP) : Okd 2 x.enc := okd_tup fun d hd => by
  rcases List.mem_cons.mp hd with rfl | hd
  · exact (okd_int _).up (by decide)
  rcases List.mem_cons.mp hd with rfl | hd
  · exact okd_tup (okd_ints _)
  cases hd
theorem le_len {x y : LP} (h : PySem.W.dataLe false LP.enc x y = true) : x.l.length ≤ y.l.length := by
  have h : (!PySem.W.dataLt y.enc x.enc) = true := h
  rcases Nat.lt_or_ge y.l.length x.l.length with hl | hl
  · exfalso
    unfold LP.enc at h
    rw [PySem.W.dataLt_pair (by simp [PySem.W.alike]) (by simp [PySem.W.alike, alike_ints]), PySem.W.dataLt_int] at h
    have e : PyData.eqv (.int (y.l.length : Int)) (.int (x.l.length : Int)) = false := by
      simp only [PyData.eqv, beq_eq_false_iff_ne, ne_eq]
      omega
    rw [e, if_neg Bool.false_ne_true, decide_eq_true (by omega)] at h
    cases h
  · exact hl
section
variable {X : Cx}
theorem c_sortLP (hu : X.A.units + 64 < cLine) : CallR X (.builtin "sorted") (rSortLP X.K) := by
  intro pins s σ H xs us Q I r q
  obtain ⟨a, ts, rfl, hl, hd, hz, q⟩ := q
  obtain rfl := Vals.ref1 r
  obtain ⟨its, rv, pl, hz'⟩ := I.list hl
  have e := each_refsL rv
  have hline : (1000 : Nat) ≤ sizeLine := by decide
  have er : PySem.W.EachIs (fun v (b : LP) => ∃ as, Reads s.heap v b.enc as) its ts := (PySem.W.each_mem e).mono fun v b ⟨h1, h2⟩ => by
    subst h1
    exact Dp.reads I b.enc (.ref b.p) _ (hd b h2) rfl
  refine PySem.W.sorted_data pl.isList e er (PySem.W.AllAlike.of fun x y => alike_enc x y) (PySem.W.Sortable.tuples fun b => ⟨_, _, rfl⟩) (Nat.le_trans hz hline) (fun b _ => ?_) fun out ho eo => ?_
  · have := (okd_enc b).2
    omega
  · have hv := vals_eachL eo
    obtain ⟨ep, hat⟩ := PyProof.Rows.sortedAll_at s.heap its out.toArray
    refine ⟨.ref _, upd H (s.heap.objs.size + 1) (.lst (refsL (ts.mergeSort (PySem.W.dataLe false LP.enc)))), I.laid (t' := s.toks) (fun _ _ => PyProof.Rows.sortedAll_old) (Nat.le_succ _) ⟨?_, _, ep, hv, hat⟩, rfl, q _ _ (List.mergeSort_perm _ _) ?_ (I.hok.fresh (Nat.le_succ _))⟩
    · unfold refsL
      rw [List.length_map, List.length_mergeSort]
      exact Nat.le_trans hz hline
    · exact (PySem.W.sort_pairwise (PySem.W.sortLe_total _ _ _) ts).imp fun {x y} h => le_len h
end
end Er
namespace Er
open PySem PySem.Spec PyProof.Rows L2
/-! for x in e, e a list or a tuple, told when it is read -/
def seqK (K : PySem.W.Frag) (x : V) (H1 : Hp) (R : It → Hp → Prop) : Prop := ∃ a, x = .ref a ∧ (((∃ xs, SqL K H1 a xs) ∧ R (Itl K a) H1) ∨ ((∃ xs, SqT K H1 a xs) ∧ R (Itt K a) H1))
def iSeq (K : PySem.W.Frag) (te : TE) : TI := fun σ H R => te σ H fun x H1 => seqK K x H1 R
section
variable {X : Cx} {tg : Expr}
theorem pi_seq {l : Expr} {te : TE} (he : PE X l te) : PI X tg l (iSeq X.K te) := by
  constructor
  intro pins s σ H R I h
  refine thn (he.run pins s σ H _ I h) fun u s1 hh => ?_
  obtain ⟨x, H1, I1, rx, a, rfl, hx⟩ := hh
  obtain rfl : u = Value.ref a := rx
  rcases hx with ⟨⟨xs, hq⟩, q⟩ | ⟨⟨xs, hq⟩, q⟩
  · obtain ⟨its, _, pl, _⟩ := I1.list hq
    exact wpAny_pyIter_list pl.isList (pi_one (tk := s1.toks) I1 _ (turn_list a _) ⟨_, Heap.get?_push_size _ rfl, rfl, rfl⟩ q)
  · obtain ⟨its, _, pt, _⟩ := I1.tuple hq
    exact wpAny_pyIter_tuple pt (pi_one (tk := s1.toks) I1 _ (turn_tuple a _) ⟨_, Heap.get?_push_size _ rfl, rfl, rfl⟩ q)
theorem r_seqI {K : PySem.W.Frag} {te : TE} {σ : L2.St} {H : Hp} {R : It → Hp → Prop} (h : te σ H fun x H1 => seqK K x H1 R) : iSeq K te σ H R := h
theorem r_seqL {K : PySem.W.Frag} {H : Hp} {R : It → Hp → Prop} {a : Addr} {xs : List V} (h : SqL K H a xs) (q : R (Itl K a) H) : seqK K (.ref a) H R := ⟨a, rfl, .inl ⟨⟨xs, h⟩, q⟩⟩
theorem r_seqT {K : PySem.W.Frag} {H : Hp} {R : It → Hp → Prop} {a : Addr} {xs : List V} (h : SqT K H a xs) (q : R (Itt K a) H) : seqK K (.ref a) H R := ⟨a, rfl, .inr ⟨⟨xs, h⟩, q⟩⟩
end
end Er
namespace Er
open PySem PySem.Spec PyProof.Rows L2
/-! [x for x in xs for y in range(n)] -/
def lc2K (g : TG) (tt : TT) (wi1 : TI) (g1 : TG) (tt1 : TT) (te : TE) (vs vs1 : List Nat) (σ : L2.St) (Q : VK) : It → Hp → Prop := fun J H1 => ∀ D, H1 D = none → ∃ W : Nat → Nat → Hp → Prop, (∃ m, W 0 m (upd H1 D (.lst []))) ∧ ∀ i m H, W i m H →
  (J.stop i H ∧ Q (.ref D) H) ∨ (J.go i H ∧ ∃ Nx : Hp → Prop, (∀ H', Nx H' → ∃ m', m' < m ∧ W (i + 1) m' H') ∧ ∀ x H', J.yld i H x H' → g x (wipe σ vs) H' fun σ2 H2 => wipe σ2 vs = wipe σ vs ∧ tt σ2 H2 fun b H3 =>
    if b = true then wi1 σ2 H3 fun J1 H4 => ∃ W1 : Nat → Nat → Hp → Prop, (∃ m, W1 0 m H4) ∧ ∀ j k H, W1 j k H →
      (J1.stop j H ∧ Nx H) ∨ (J1.go j H ∧ ∃ Nx1 : Hp → Prop, (∀ H', Nx1 H' → ∃ k', k' < k ∧ W1 (j + 1) k' H') ∧ ∀ x H', J1.yld j H x H' → g1 x (wipe σ2 vs1) H' fun σ3 H5 => wipe σ3 vs1 = wipe σ2 vs1 ∧ tt1 σ3 H5 fun b H6 =>
        if b = true then te σ3 H6 fun y H7 => ∃ acc, H7 D = some (.lst acc) ∧ acc.length < sizeLine ∧ Nx1 (upd H7 D (.lst (acc ++ [y]))) else Nx1 H6)
    else Nx H3)
section
variable {K : PySem.W.Frag} {σ : L2.St} {H : Hp} {Q : VK} {wi wi1 : TI} {g g1 : TG} {tt tt1 : TT} {te : TE} {vs vs1 : List Nat}
theorem r_tYesE {QT : Bool → Hp → Prop} (h : QT true H) : tYes σ H QT := h
theorem r_lc2 (h : wi σ H (lc2K g tt wi1 g1 tt1 te vs vs1 σ Q)) : tLc2 wi g tt wi1 g1 tt1 te vs vs1 σ H Q := h
theorem r_lc2R {J : It} {xs : List V} {G : Hp → Prop} {n j j1 : Nat} (w : Walk J xs.length G (YAt xs)) (hG : ∀ H', Same H H' → G H') (hz : xs.length * n ≤ 100000)
    (hw : ∀ x, wipe ((wipe σ vs).set j (some x)) vs = wipe σ vs) (hw1 : ∀ x y, wipe ((wipe ((wipe σ vs).set j (some x)) vs1).set j1 (some y)) vs1 = wipe ((wipe σ vs).set j (some x)) vs1)
    (hwi : ∀ x H' R, Same H H' → R (Itr 0 n) H' → wi1 ((wipe σ vs).set j (some x)) H' R)
    (hel : ∀ x y H' (Q' : VK), Q' x H' → te ((wipe ((wipe σ vs).set j (some x)) vs1).set j1 (some y)) H' Q')
    (q : ∀ p H', H p = none → Same H H' → H' p = some (.lst (xs.flatMap fun x => List.replicate n x)) → Q (.ref p) H') : lc2K (gName j) tYes wi1 (gName j1) tYes te vs vs1 σ Q J H := fun D hD => by
  have h1000 : (100000 : Nat) < sizeLine := by decide
  refine ⟨fun i m H' => m = xs.length - i ∧ i ≤ xs.length ∧ Same H H' ∧ H' D = some (.lst ((xs.take i).flatMap fun x => List.replicate n x)), ⟨xs.length, by simp, Nat.zero_le _, fun b o z => by rw [upd_ne (ne_of_none z hD)]; exact z, by rw [upd_same]; rfl⟩, ?_⟩
  rintro i m H1 ⟨rfl, hi, s1, hl⟩
  rcases Nat.lt_or_ge i xs.length with hlt | hge
  · refine .inr ⟨w.goes i H1 hlt (hG H1 s1), fun H' => Same H H' ∧ H' D = some (.lst ((xs.take (i + 1)).flatMap fun x => List.replicate n x)), fun H' p => ⟨xs.length - (i + 1), by omega, rfl, hlt, p⟩, fun x H2 y => ?_⟩
    obtain ⟨rfl, hx⟩ := w.yields i H1 x H2 hlt (hG H1 s1) y
    have et : (xs.take (i + 1)).flatMap (fun x => List.replicate n x) = (xs.take i).flatMap (fun x => List.replicate n x) ++ List.replicate n x := by
      rw [List.take_add_one, hx, List.flatMap_append]
      simp
    have hlen : ((xs.take i).flatMap fun x => List.replicate n x).length = i * n := by
      rw [List.length_flatMap]
      simp only [List.length_replicate, List.map_const', List.sum_replicate_nat, List.length_take]
      rw [Nat.min_eq_left (by omega)]
    have hb : i * n + n ≤ xs.length * n := by
      have := Nat.mul_le_mul_right n hlt
      rw [Nat.succ_mul] at this
      exact this
    refine ⟨hw x, ?_⟩
    refine r_tYesE ?_
    refine iteT ?_
    refine hwi x H2 _ s1 ?_
    refine ⟨fun jj k H' => k = n - jj ∧ jj ≤ n ∧ Same H H' ∧ H' D = some (.lst ((xs.take i).flatMap (fun x => List.replicate n x) ++ List.replicate jj x)), ⟨n, by simp, Nat.zero_le _, s1, by simpa using hl⟩, ?_⟩
    rintro jj k H3 ⟨rfl, hj, s3, hl3⟩
    rcases Nat.lt_or_ge jj n with hjn | hjn
    · refine .inr ⟨hjn, fun H' => Same H H' ∧ H' D = some (.lst ((xs.take i).flatMap (fun x => List.replicate n x) ++ List.replicate (jj + 1) x)), fun H' p => ⟨n - (jj + 1), by omega, rfl, hjn, p⟩, fun z H4 y => ?_⟩
      obtain ⟨rfl, rfl⟩ := y
      refine ⟨hw1 x _, ?_⟩
      refine r_tYesE ?_
      refine iteT ?_
      refine hel x _ _ _ ⟨_, hl3, ?_, fun b o z => by rw [upd_ne (ne_of_none z hD)]; exact s3 _ _ z, ?_⟩
      · rw [List.length_append, List.length_replicate, hlen]
        omega
      · rw [upd_same, List.append_assoc, List.replicate_succ']
    · have e : jj = n := by omega
      subst e
      exact .inl ⟨hjn, s3, by rw [et]; exact hl3⟩
  · have e : i = xs.length := by omega
    subst e
    rw [List.take_length] at hl
    exact .inl ⟨w.stops H1 (hG H1 s1), q D H1 hD s1 hl⟩
end
end Er
namespace Er
open PySem PySem.Spec PyProof.Rows L2
/-! sorted(xs), xs a list of pairs of a name and a tuple of names -/
structure NP where
  p : Addr
  c : Nat
  l : List Nat
def NP.enc (x : NP) : PyData := .tuple [.int (x.c : Int), .tuple ((x.l.map fun (c : Nat) => (c : Int)).map PyData.int)]
def refsN (ts : List NP) : List V := ts.map fun t => V.ref t.p
def rSortNP (K : PySem.W.Frag) : List V → Hp → VK → Prop := fun xs H Q => ∃ (a : Addr) (ts : List NP), xs = [.ref a] ∧ SqL K H a (refsN ts) ∧ (∀ t ∈ ts, Dp K H (.ref t.p) t.enc) ∧ ts.length ≤ 1000 ∧
  ∀ p ts', ts'.Perm ts → ts'.Pairwise (fun x y => x.c ≤ y.c) → H p = none → Q (.ref p) (upd H p (.lst (refsN ts')))
theorem each_refsN : ∀ {ts : List NP} {its : List Value}, Vals (refsN ts) its → PySem.W.EachIs (fun v (t : NP) => v = Value.ref t.p) its ts
  | [], _, .nil => .nil
  | t :: ts, _, .cons r rs => by
    cases r
    exact .cons rfl (each_refsN rs)
theorem vals_eachN : ∀ {ts : List NP} {its : List Value}, PySem.W.EachIs (fun v (t : NP) => v = Value.ref t.p) its ts → Vals (refsN ts) its
  | _, _, .nil => .nil
  | _, _, .cons r rs => .cons r (vals_eachN rs)
theorem alike_encN (x y : NP) : PySem.W.alike x.enc y.enc = true := by
  simp [NP.enc, PySem.W.alike, PySem.W.alikeAll, alike_ints, -List.map_map]
theorem okd_encN (x : NP) : Okd 2 x.enc := okd_tup fun d hd => by
  rcases List.mem_cons.mp hd with rfl | hd
  · exact (okd_int _).up (by decide)
  rcases List.mem_cons.mp hd with rfl | hd
  · exact okd_tup (okd_ints _)
  cases hd
theorem le_nam {x y : NP} (h : PySem.W.dataLe false NP.enc x y = true) : x.c ≤ y.c := by
  have h : (!PySem.W.dataLt y.enc x.enc) = true := h
  rcases Nat.lt_or_ge y.c x.c with hl | hl
  · exfalso
    unfold NP.enc at h
    rw [PySem.W.dataLt_pair (by simp [PySem.W.alike]) (by simp [PySem.W.alike, alike_ints, -List.map_map]), PySem.W.dataLt_int] at h
    have e : PyData.eqv (.int (y.c : Int)) (.int (x.c : Int)) = false := by
      simp only [PyData.eqv, beq_eq_false_iff_ne, ne_eq]
      omega
    rw [e, if_neg Bool.false_ne_true, decide_eq_true (by omega)] at h
    cases h
  · exact hl
section
variable {X : Cx}
theorem c_sortNP (hu : X.A.units + 64 < cLine) : CallR X (.builtin "sorted") (rSortNP X.K) := by
  intro pins s σ H xs us Q I r q
  obtain ⟨a, ts, rfl, hl, hd, hz, q⟩ := q
  obtain rfl := Vals.ref1 r
  obtain ⟨its, rv, pl, hz'⟩ := I.list hl
  have e := each_refsN rv
  have hline : (1000 : Nat) ≤ sizeLine := by decide
  have er : PySem.W.EachIs (fun v (b : NP) => ∃ as, Reads s.heap v b.enc as) its ts := (PySem.W.each_mem e).mono fun v b ⟨h1, h2⟩ => by
    subst h1
    exact Dp.reads I b.enc (.ref b.p) _ (hd b h2) rfl
  refine PySem.W.sorted_data pl.isList e er (PySem.W.AllAlike.of fun x y => alike_encN x y) (PySem.W.Sortable.tuples fun b => ⟨_, _, rfl⟩) (Nat.le_trans hz hline) (fun b _ => ?_) fun out ho eo => ?_
  · have := (okd_encN b).2
    omega
  · have hv := vals_eachN eo
    obtain ⟨ep, hat⟩ := PyProof.Rows.sortedAll_at s.heap its out.toArray
    refine ⟨.ref _, upd H (s.heap.objs.size + 1) (.lst (refsN (ts.mergeSort (PySem.W.dataLe false NP.enc)))), I.laid (t' := s.toks) (fun _ _ => PyProof.Rows.sortedAll_old) (Nat.le_succ _) ⟨?_, _, ep, hv, hat⟩, rfl, q _ _ (List.mergeSort_perm _ _) ?_ (I.hok.fresh (Nat.le_succ _))⟩
    · unfold refsN
      rw [List.length_map, List.length_mergeSort]
      exact Nat.le_trans hz hline
    · exact (PySem.W.sort_pairwise (PySem.W.sortLe_total _ _ _) ts).imp fun {x y} h => le_nam h
end
end Er
/-! the levels: plain mathematics, no Python -/
namespace K7M
structure NS where
  lev : Int
  cnt : Nat
  rd : List Nat
abbrev Sys := Nat → NS
def stp (n : Nat) (S : Sys) (i : Nat) : NS :=
  if (S i).cnt % (n + 1) = 0 then ⟨(S i).lev - 1, (S i).cnt + 1, []⟩
  else ⟨(S i).lev, (S i).cnt + 1, if (S ((S i).cnt % (n + 1) - 1)).lev ≤ (S i).lev then (S i).rd ++ [(S i).cnt % (n + 1) - 1] else (S i).rd⟩
def lvs (n : Nat) (S : Sys) (i : Nat) : Bool := decide ((S i).cnt % (n + 1) = n ∧ (stp n S i).lev ≤ ((stp n S i).rd.length : Int))
def put (S : Sys) (i : Nat) (x : NS) : Sys := fun j => if j = i then x else S j
theorem put_same (S : Sys) (i : Nat) (x : NS) : put S i x i = x := if_pos rfl
theorem put_ne (S : Sys) {i j : Nat} (x : NS) (h : j ≠ i) : put S i x j = S j := if_neg h
def init (n : Nat) : Sys := fun _ => ⟨n + 1, 0, []⟩
def pos (n : Nat) (x : NS) : Nat := if x.cnt % (n + 1) = 0 then (if x.cnt = 0 then 0 else n) else x.cnt % (n + 1) - 1
def low (S : Sys) (k : Int) (j : Nat) : Bool := decide ((S j).lev ≤ k)
def card (n : Nat) (S : Sys) (k : Int) : Nat := (List.range n).countP (low S k)

theorem cnt_le {P Q : Nat → Bool} : ∀ {l : List Nat}, (∀ j ∈ l, P j = true → Q j = true) → l.countP P ≤ l.countP Q
  | [], _ => Nat.le_refl _
  | a :: l, h => by
    have ih := cnt_le (l := l) fun j hj => h j (List.mem_cons_of_mem _ hj)
    have ha := h a (List.mem_cons_self ..)
    rw [List.countP_cons, List.countP_cons]
    cases hp : P a with
    | false => simp; omega
    | true => rw [ha hp]; simp; omega
theorem cnt_lt {P Q : Nat → Bool} {a : Nat} : ∀ {l : List Nat}, (∀ j ∈ l, P j = true → Q j = true) → a ∈ l → Q a = true → P a = false → l.countP P + 1 ≤ l.countP Q
  | [], _, h, _, _ => by cases h
  | b :: l, h, ha, q, p => by
    have hb := h b (List.mem_cons_self ..)
    have hl : ∀ j ∈ l, P j = true → Q j = true := fun j hj => h j (List.mem_cons_of_mem _ hj)
    rw [List.countP_cons, List.countP_cons]
    rcases List.mem_cons.mp ha with rfl | ha
    · have := cnt_le hl
      rw [q, p]
      simp
      omega
    · have ih := cnt_lt hl ha q p
      cases hp : P b with
      | false => simp; omega
      | true => rw [hb hp]; simp; omega
theorem cnt_lt2 {P Q : Nat → Bool} {a b : Nat} {l : List Nat} (h : ∀ j ∈ l, P j = true → Q j = true) (ha : a ∈ l) (hb : b ∈ l) (ne : a ≠ b) (qa : Q a = true) (pa : P a = false) (qb : Q b = true) (pb : P b = false) : l.countP P + 2 ≤ l.countP Q := by
  have h1 := cnt_lt (P := P) (Q := fun j => P j || decide (j = a)) (l := l) (fun j _ hj => by simp [hj]) ha (by simp) pa
  have h2 := cnt_lt (P := fun j => P j || decide (j = a)) (Q := Q) (l := l) (fun j hj hp => by
    rcases Bool.or_eq_true_iff.mp hp with hp | hp
    · exact h j hj hp
    · rw [of_decide_eq_true hp]; exact qa) hb qb (by simp [pb, Ne.symm ne])
  omega
theorem sub_card {n p : Nat} {l : List Nat} {P : Nat → Bool} (hl : l.Sublist (List.range p)) (hp : p ≤ n) (h : ∀ c ∈ l, P c = true) : l.Sublist ((List.range n).filter P) := by
  have h1 : l.Sublist (List.range n) := hl.trans (by
    have e : List.range n = List.range p ++ (List.range (n - p)).map (p + ·) := by
      rw [← List.range_add]
      congr 1
      omega
    rw [e]
    exact List.sublist_append_left _ _)
  have h2 := h1.filter P
  rwa [List.filter_eq_self.mpr h] at h2
theorem len_card {n p : Nat} {l : List Nat} {S : Sys} {k : Int} (hl : l.Sublist (List.range p)) (hp : p ≤ n) (h : ∀ c ∈ l, (S c).lev ≤ k) : l.length ≤ card n S k := by
  have := (sub_card (P := low S k) hl hp fun c hc => decide_eq_true (h c hc)).length_le
  rwa [← List.countP_eq_length_filter] at this
theorem eq_card {n p : Nat} {l : List Nat} {S : Sys} {k : Int} (hl : l.Sublist (List.range p)) (hp : p ≤ n) (h : ∀ c ∈ l, (S c).lev ≤ k) (e : card n S k ≤ l.length) : l = (List.range n).filter (low S k) := by
  have s := sub_card (P := low S k) hl hp fun c hc => decide_eq_true (h c hc)
  refine s.eq_of_length_le ?_
  rw [← List.countP_eq_length_filter]
  exact e

structure Good (n : Nat) (S : Sys) (gone : List Nat) : Prop where
  lev : ∀ i, i < n → (S i).lev = (n : Int) + 1 - (((S i).cnt + n) / (n + 1) : Nat)
  one : ∀ i, i < n → 1 ≤ (S i).lev
  rd : ∀ i, i < n → (S i).rd.Sublist (List.range (pos n (S i)))
  down : ∀ i, i < n → ∀ c ∈ (S i).rd, (S c).lev ≤ (S i).lev
  self : ∀ i, i < n → i < pos n (S i) → i ∈ (S i).rd
  few : ∀ k : Nat, 1 ≤ k → k ≤ n → card n S k ≤ k
  wit : ∀ k : Nat, 1 ≤ k → k ≤ n → card n S k = k → ∃ w, w < n ∧ (S w).lev = k ∧ ∀ c, c < n → (S c).lev ≤ k → c < pos n (S w) → c ∈ (S w).rd
  gon : ∀ i ∈ gone, i < n ∧ (S i).cnt % (n + 1) = 0 ∧ 0 < (S i).cnt ∧ (S i).lev ≤ (S i).rd.length
  not : ∀ i, i < n → i ∉ gone → (S i).cnt % (n + 1) = 0 → 0 < (S i).cnt → ((S i).rd.length : Int) < (S i).lev
  nd : gone.Nodup

theorem pos_le {n : Nat} (x : NS) : pos n x ≤ n := by
  unfold pos
  have : x.cnt % (n + 1) < n + 1 := Nat.mod_lt x.cnt (Nat.succ_pos n)
  split
  · split <;> omega
  · omega
theorem good_init {n : Nat} (hn : 1 ≤ n) : Good n (init n) [] where
  lev := fun i _ => by
    show (n : Int) + 1 = (n : Int) + 1 - ((0 + n) / (n + 1) : Nat)
    rw [Nat.zero_add, Nat.div_eq_of_lt (Nat.lt_succ_self n)]
    simp
  one := fun i _ => by show (1 : Int) ≤ n + 1; omega
  rd := fun i _ => List.nil_sublist _
  down := fun i _ c hc => by cases hc
  self := fun i _ h => by
    have e : pos n (init n i) = 0 := by simp [pos, init]
    rw [e] at h
    omega
  few := fun k _ hk => by
    have e : card n (init n) k = 0 := by
      unfold card
      rw [List.countP_eq_zero]
      intro j _
      show ¬ decide ((n : Int) + 1 ≤ k) = true
      rw [decide_eq_true_iff]
      omega
    omega
  wit := fun k h1 hk hc => by
    have e : card n (init n) k = 0 := by
      unfold card
      rw [List.countP_eq_zero]
      intro j _
      show ¬ decide ((n : Int) + 1 ≤ k) = true
      rw [decide_eq_true_iff]
      omega
    omega
  gon := fun i h => by cases h
  not := fun i _ _ _ h => by simp [init] at h
  nd := List.nodup_nil

/-- a read step -/
theorem good_read {n : Nat} {S : Sys} {gone : List Nat} {i : Nat} (G : Good n S gone) (hi : i < n) (hg : i ∉ gone) (ht : (S i).cnt % (n + 1) ≠ 0) :
    Good n (put S i (stp n S i)) (if lvs n S i = true then gone ++ [i] else gone) := by
  have hlt : (S i).cnt % (n + 1) < n + 1 := Nat.mod_lt (S i).cnt (Nat.succ_pos n)
  have hs : stp n S i = ⟨(S i).lev, (S i).cnt + 1, if (S ((S i).cnt % (n + 1) - 1)).lev ≤ (S i).lev then (S i).rd ++ [(S i).cnt % (n + 1) - 1] else (S i).rd⟩ := if_neg ht
  have hl : (stp n S i).lev = (S i).lev := by rw [hs]
  have hlev : ∀ j, (put S i (stp n S i) j).lev = (S j).lev := fun j => by
    by_cases h : j = i
    · subst h; rw [put_same, hl]
    · rw [put_ne S _ h]
  have hcard : ∀ k, card n (put S i (stp n S i)) k = card n S k := fun k => by
    unfold card
    congr 1
    funext j
    unfold low
    rw [hlev]
  have hpos0 : pos n (S i) = (S i).cnt % (n + 1) - 1 := by unfold pos; rw [if_neg ht]
  have hpos1 : pos n (stp n S i) = (S i).cnt % (n + 1) := by
    rw [hs]
    unfold pos
    show (if ((S i).cnt + 1) % (n + 1) = 0 then (if (S i).cnt + 1 = 0 then 0 else n) else ((S i).cnt + 1) % (n + 1) - 1) = _
    by_cases he : (S i).cnt % (n + 1) = n
    · have : ((S i).cnt + 1) % (n + 1) = 0 := by rw [Nat.add_mod, he, Nat.mod_eq_of_lt (by omega : 1 < n + 1), Nat.mod_self]
      rw [if_pos this, if_neg (by omega), he]
    · have : ((S i).cnt + 1) % (n + 1) = (S i).cnt % (n + 1) + 1 := by
        rw [Nat.add_mod, Nat.mod_eq_of_lt (by omega : 1 < n + 1), Nat.mod_eq_of_lt (by omega)]
      rw [if_neg (by omega), this]
      omega
  obtain ⟨c, hc⟩ : ∃ c, c = (S i).cnt % (n + 1) - 1 := ⟨_, rfl⟩
  have hrd : (stp n S i).rd = if (S c).lev ≤ (S i).lev then (S i).rd ++ [c] else (S i).rd := by rw [hs, hc]
  have hcn : c < n := by omega
  have hpc : pos n (S i) = c := by rw [hpos0, hc]
  have hpc1 : pos n (stp n S i) = c + 1 := by rw [hpos1]; omega
  have sub1 : (stp n S i).rd.Sublist (List.range (c + 1)) := by
    rw [hrd, List.range_succ]
    have := G.rd i hi
    rw [hpc] at this
    split
    · exact this.append (List.Sublist.refl _)
    · exact this.trans (List.sublist_append_left _ _)
  have mem1 : ∀ y, y ∈ (stp n S i).rd ↔ y ∈ (S i).rd ∨ (y = c ∧ (S c).lev ≤ (S i).lev) := fun y => by
    rw [hrd]
    split
    · rename_i h; simp [h]
    · rename_i h; simp [h]
  refine ⟨fun j hj => ?_, fun j hj => ?_, fun j hj => ?_, fun j hj y hy => ?_, fun j hj hp => ?_, fun k h1 h2 => ?_, fun k h1 h2 hk => ?_, fun j hj => ?_, fun j hj hjg h0 hpos => ?_, ?_⟩
  · rw [hlev]
    by_cases h : j = i
    · subst h
      rw [put_same, hs, G.lev j hj]
      show (n : Int) + 1 - (((S j).cnt + n) / (n + 1) : Nat) = (n : Int) + 1 - (((S j).cnt + 1 + n) / (n + 1) : Nat)
      have e : ((S j).cnt + n) / (n + 1) = ((S j).cnt + 1 + n) / (n + 1) := by
        have d := Nat.div_add_mod (S j).cnt (n + 1)
        generalize hq : (S j).cnt / (n + 1) = q at d
        generalize hr : (S j).cnt % (n + 1) = r at d ht hlt
        have e1 : (S j).cnt + n = (n + 1) * q + (r + n) := by omega
        have e2 : (S j).cnt + 1 + n = (n + 1) * q + (r + 1 + n) := by omega
        rw [e1, e2, Nat.mul_add_div (Nat.succ_pos n), Nat.mul_add_div (Nat.succ_pos n)]
        congr 1
        have a1 : (r + n) / (n + 1) = 1 := by rw [show r + n = (n + 1) * 1 + (r - 1) by omega, Nat.mul_add_div (Nat.succ_pos n), Nat.div_eq_of_lt (by omega)]
        have a2 : (r + 1 + n) / (n + 1) = 1 := by rw [show r + 1 + n = (n + 1) * 1 + r by omega, Nat.mul_add_div (Nat.succ_pos n), Nat.div_eq_of_lt (by omega)]
        rw [a1, a2]
      rw [e]
    · rw [put_ne S _ h]
      exact G.lev j hj
  · rw [hlev]; exact G.one j hj
  · by_cases h : j = i
    · subst h
      rw [put_same, hpc1]
      exact sub1
    · rw [put_ne S _ h]; exact G.rd j hj
  · rw [hlev, hlev]
    by_cases h : j = i
    · subst h
      rw [put_same] at hy
      rcases (mem1 y).mp hy with hy | ⟨rfl, hy⟩
      · exact G.down j hj y hy
      · exact hy
    · rw [put_ne S _ h] at hy; exact G.down j hj y hy
  · by_cases h : j = i
    · subst h
      rw [put_same, hpc1] at hp
      rw [put_same]
      refine (mem1 j).mpr ?_
      by_cases hjc : j = c
      · right
        refine ⟨hjc, ?_⟩
        rw [← hjc]
        exact Int.le_refl _
      · left
        exact G.self j hj (by rw [hpc]; omega)
    · rw [put_ne S _ h] at hp ⊢; exact G.self j hj hp
  · rw [hcard]; exact G.few k h1 h2
  · rw [hcard] at hk
    obtain ⟨w, hw, hwl, hwr⟩ := G.wit k h1 h2 hk
    refine ⟨w, hw, by rw [hlev]; exact hwl, fun y hy hyl hyp => ?_⟩
    rw [hlev] at hyl
    by_cases h : w = i
    · subst h
      rw [put_same] at hyp ⊢
      rw [hpc1] at hyp
      refine (mem1 y).mpr ?_
      by_cases hyc : y = c
      · right
        refine ⟨hyc, ?_⟩
        rw [← hyc, hwl]
        exact hyl
      · left
        exact hwr y hy hyl (by rw [hpc]; omega)
    · rw [put_ne S _ h] at hyp ⊢
      exact hwr y hy hyl hyp
  · have old : j ∈ gone → j < n ∧ (put S i (stp n S i) j).cnt % (n + 1) = 0 ∧ 0 < (put S i (stp n S i) j).cnt ∧ (put S i (stp n S i) j).lev ≤ (put S i (stp n S i) j).rd.length := fun hj => by
      have h : j ≠ i := fun z => hg (z ▸ hj)
      rw [put_ne S _ h]
      exact G.gon j hj
    by_cases hv : lvs n S i = true
    · rw [if_pos hv] at hj
      rcases List.mem_append.mp hj with hj | hj
      · exact old hj
      · have e : j = i := List.mem_singleton.mp hj
        subst e
        obtain ⟨v1, v2⟩ := of_decide_eq_true hv
        rw [put_same]
        refine ⟨hi, ?_, ?_, v2⟩
        · rw [hs]
          show ((S j).cnt + 1) % (n + 1) = 0
          have d := Nat.div_add_mod (S j).cnt (n + 1)
          rw [v1] at d
          rw [← d, Nat.add_assoc, ← Nat.mul_succ, Nat.mul_mod_right]
        · rw [hs]
          exact Nat.succ_pos _
    · rw [if_neg hv] at hj
      exact old hj
  · by_cases h : j = i
    · subst h
      rw [put_same] at h0 hpos ⊢
      have he : (S j).cnt % (n + 1) = n := by
        rw [hs] at h0
        have h0 : ((S j).cnt + 1) % (n + 1) = 0 := h0
        by_cases he : (S j).cnt % (n + 1) = n
        · exact he
        · have : ((S j).cnt + 1) % (n + 1) = (S j).cnt % (n + 1) + 1 := by
            rw [Nat.add_mod, Nat.mod_eq_of_lt (by omega : 1 < n + 1), Nat.mod_eq_of_lt (by omega)]
          omega
      have hv : ¬ lvs n S j = true := fun hv => by
        rw [if_pos hv] at hjg
        exact hjg (List.mem_append_right _ (List.mem_singleton.mpr rfl))
      have := fun z => hv (decide_eq_true (⟨he, z⟩ : (S j).cnt % (n + 1) = n ∧ (stp n S j).lev ≤ ((stp n S j).rd.length : Int)))
      exact Int.not_le.mp this
    · rw [put_ne S _ h] at h0 hpos ⊢
      refine G.not j hj (fun z => hjg ?_) h0 hpos
      split
      · exact List.mem_append_left _ z
      · exact z
  · split
    · refine List.nodup_append.mpr ⟨G.nd, List.nodup_cons.mpr ⟨by simp, List.nodup_nil⟩, fun a ha b hb e => ?_⟩
      have : b = i := List.mem_singleton.mp hb
      subst this
      subst e
      exact hg ha
    · exact G.nd
theorem sub_self {r l : List Nat} (h : l.Sublist r) : r.Nodup → r.filter (fun j => decide (j ∈ l)) = l := by
  induction h with
  | slnil => intro _; rfl
  | @cons l r a h ih =>
    intro nd
    obtain ⟨h1, h2⟩ := List.nodup_cons.mp nd
    have : a ∉ l := fun z => h1 (h.subset z)
    rw [List.filter_cons_of_neg (by simp [this])]
    exact ih h2
  | @cons_cons l r a h ih =>
    intro nd
    obtain ⟨h1, h2⟩ := List.nodup_cons.mp nd
    rw [List.filter_cons_of_pos (by simp)]
    congr 1
    rw [← ih h2]
    refine List.filter_congr fun x hx => ?_
    have : x ≠ a := fun z => h1 (z ▸ hx)
    simp [this, ih h2]
theorem cnt_or1 {P : Nat → Bool} {a : Nat} : ∀ {l : List Nat}, l.Nodup → l.countP (fun j => P j || decide (j = a)) ≤ l.countP P + 1
  | [], _ => Nat.zero_le _
  | b :: l, nd => by
    obtain ⟨h1, h2⟩ := List.nodup_cons.mp nd
    rw [List.countP_cons, List.countP_cons]
    by_cases hb : b = a
    · subst hb
      have e : l.countP (fun j => P j || decide (j = b)) = l.countP P := List.countP_congr fun x hx => by
        have : x ≠ b := fun z => h1 (z ▸ hx)
        simp [this]
      rw [e]
      cases P b <;> simp
    · have ih := cnt_or1 (P := P) (a := a) h2
      cases hp : P b <;> simp [hp, hb] <;> omega
theorem rd_card {n : Nat} {S : Sys} {k : Int} {l : List Nat} (hl : l.Sublist (List.range n)) (h : ∀ c, c < n → (S c).lev ≤ k → c ∈ l) : card n S k ≤ l.length := by
  have e := sub_self hl List.nodup_range
  have q : card n S k ≤ (List.range n).countP (fun j => decide (j ∈ l)) := cnt_le fun j hj p => decide_eq_true (h j (List.mem_range.mp hj) (of_decide_eq_true p))
  rw [List.countP_eq_length_filter, e] at q
  exact q

/-- a step down -/
theorem good_down {n : Nat} {S : Sys} {gone : List Nat} {i : Nat} (hn : 1 ≤ n) (G : Good n S gone) (hi : i < n) (hg : i ∉ gone) (ht : (S i).cnt % (n + 1) = 0) :
    Good n (put S i (stp n S i)) (if lvs n S i = true then gone ++ [i] else gone) := by
  have hs : stp n S i = ⟨(S i).lev - 1, (S i).cnt + 1, []⟩ := if_pos ht
  have hv : ¬ lvs n S i = true := fun z => by
    have := (of_decide_eq_true z).1
    omega
  rw [if_neg hv]
  have hd := Nat.div_add_mod (S i).cnt (n + 1)
  rw [ht, Nat.add_zero] at hd
  generalize hq : (S i).cnt / (n + 1) = q at hd
  have hmod1 : ((S i).cnt + 1) % (n + 1) = 1 := by rw [← hd, Nat.mul_add_mod, Nat.mod_eq_of_lt (by omega)]
  have hdiv0 : ((S i).cnt + n) / (n + 1) = q := by rw [← hd, Nat.mul_add_div (Nat.succ_pos n), Nat.div_eq_of_lt (Nat.lt_succ_self n), Nat.add_zero]
  have hdiv1 : ((S i).cnt + 1 + n) / (n + 1) = q + 1 := by
    rw [← hd, Nat.add_assoc, Nat.mul_add_div (Nat.succ_pos n), Nat.add_comm 1 n, Nat.div_self (Nat.succ_pos n)]
  have hli := G.lev i hi
  rw [hdiv0] at hli
  have hpos1 : pos n (stp n S i) = 0 := by
    rw [hs]
    unfold pos
    show (if ((S i).cnt + 1) % (n + 1) = 0 then (if (S i).cnt + 1 = 0 then 0 else n) else ((S i).cnt + 1) % (n + 1) - 1) = 0
    rw [hmod1]
    rfl
  -- what stood before
  have full : 0 < (S i).cnt → pos n (S i) = n := fun h => by
    unfold pos
    rw [if_pos ht, if_neg (by omega)]
  have two : 2 ≤ (S i).lev := by
    by_cases h0 : 0 < (S i).cnt
    · have h1 := G.not i hi hg ht h0
      have h2 := G.self i hi (by rw [full h0]; exact hi)
      have h3 := List.length_pos_of_mem h2
      omega
    · have : (S i).cnt = 0 := by omega
      have : q = 0 := by rw [← hq, this]; simp
      omega
  have nowit : ∀ w, w < n → (S w).lev = (S i).lev → card n S (S i).lev = (S i).lev.toNat → (∀ c, c < n → (S c).lev ≤ (S i).lev → c < pos n (S w) → c ∈ (S w).rd) → 0 < (S i).cnt → w ≠ i := fun w hw hwl hc hr h0 e => by
    subst e
    have h1 := G.not w hi hg ht h0
    have h2 := rd_card (S := S) (k := (S w).lev) (l := (S w).rd) (by have := G.rd w hi; rwa [full h0] at this) fun c hcn hcl => hr c hcn hcl (by rw [full h0]; exact hcn)
    have := G.one w hi
    omega
  have key : (card n S ((S i).lev - 1) : Int) ≤ (S i).lev - 2 := by
    have sub : ∀ j ∈ List.range n, low S ((S i).lev - 1) j = true → low S (S i).lev j = true := fun j _ h => by
      have := of_decide_eq_true h
      exact decide_eq_true (by omega)
    have pi : low S ((S i).lev - 1) i = false := decide_eq_false (by omega)
    have qi : low S (S i).lev i = true := decide_eq_true (Int.le_refl _)
    by_cases h0 : 0 < (S i).cnt
    · have hq1 : 1 ≤ q := by
        rcases Nat.eq_zero_or_pos q with z | z
        · rw [z, Nat.mul_zero] at hd; omega
        · exact z
      have one := G.one i hi
      obtain ⟨k, hk⟩ : ∃ k : Nat, (S i).lev = k := ⟨(S i).lev.toNat, by omega⟩
      have few := G.few k (by omega) (by omega)
      by_cases hc : card n S k = k
      · obtain ⟨w, hw, hwl, hwr⟩ := G.wit k (by omega) (by omega) hc
        have ne := nowit w hw (by omega) (by rw [hk]; omega) (by rw [hk]; exact hwr) h0
        have := cnt_lt2 sub (List.mem_range.mpr hi) (List.mem_range.mpr hw) (Ne.symm ne) qi pi (decide_eq_true (by omega)) (decide_eq_false (by omega))
        have e : card n S (S i).lev = k := by rw [hk]; exact hc
        have : card n S ((S i).lev - 1) + 2 ≤ card n S (S i).lev := this
        omega
      · have := cnt_lt sub (List.mem_range.mpr hi) qi pi
        have : card n S ((S i).lev - 1) + 1 ≤ card n S (S i).lev := this
        rw [hk] at this ⊢
        omega
    · have : (S i).cnt = 0 := by omega
      have : q = 0 := by rw [← hq, this]; simp
      have := cnt_lt (P := low S ((S i).lev - 1)) (Q := fun _ => true) (fun _ _ _ => rfl) (List.mem_range.mpr hi) rfl pi
      have e : (List.range n).countP (fun _ => true) = n := by
        have : (List.range n).countP (fun _ => true) = (List.range n).length := by rw [List.countP_eq_length]; intro _ _; rfl
        rw [this, List.length_range]
      rw [e] at this
      have : card n S ((S i).lev - 1) + 1 ≤ n := this
      omega
  have lev_ne : ∀ j, j ≠ i → (put S i (stp n S i) j).lev = (S j).lev := fun j h => by rw [put_ne S _ h]
  have lev_i : (put S i (stp n S i) i).lev = (S i).lev - 1 := by rw [put_same, hs]
  have le_lev : ∀ j, (put S i (stp n S i) j).lev ≤ (S j).lev := fun j => by
    by_cases h : j = i
    · subst h; rw [lev_i]; omega
    · rw [lev_ne j h]; exact Int.le_refl _
  have lowK : ∀ k : Int, k ≠ (S i).lev - 1 → ∀ j, ((put S i (stp n S i) j).lev ≤ k ↔ (S j).lev ≤ k) := fun k hk j => by
    by_cases h : j = i
    · subst h; rw [lev_i]; omega
    · rw [lev_ne j h]
  have cardK : ∀ k : Int, k ≠ (S i).lev - 1 → card n (put S i (stp n S i)) k = card n S k := fun k hk => by
    unfold card
    congr 1
    funext j
    exact decide_eq_decide.mpr (lowK k hk j)
  have cardL : (card n (put S i (stp n S i)) ((S i).lev - 1) : Int) ≤ (S i).lev - 1 := by
    have e : card n (put S i (stp n S i)) ((S i).lev - 1) ≤ card n S ((S i).lev - 1) + 1 := by
      have := cnt_or1 (P := low S ((S i).lev - 1)) (a := i) (List.nodup_range (n := n))
      refine Nat.le_trans (cnt_le fun j _ hj => ?_) this
      by_cases h : j = i
      · simp [h]
      · have hj := of_decide_eq_true hj
        rw [lev_ne j h] at hj
        have : low S ((S i).lev - 1) j = true := decide_eq_true hj
        simp [this]
    omega
  refine ⟨fun j hj => ?_, fun j hj => ?_, fun j hj => ?_, fun j hj y hy => ?_, fun j hj hp => ?_, fun k h1 h2 => ?_, fun k h1 h2 hk => ?_, fun j hj => ?_, fun j hj hjg h0 hpos => ?_, G.nd⟩
  · by_cases h : j = i
    · subst h
      rw [lev_i, put_same, hs, hli]
      show (n : Int) + 1 - (q : Int) - 1 = (n : Int) + 1 - (((S j).cnt + 1 + n) / (n + 1) : Nat)
      rw [hdiv1]
      omega
    · rw [put_ne S _ h]
      exact G.lev j hj
  · by_cases h : j = i
    · subst h; rw [lev_i]; omega
    · rw [lev_ne j h]; exact G.one j hj
  · by_cases h : j = i
    · subst h
      rw [put_same, hs]
      exact List.nil_sublist _
    · rw [put_ne S _ h]; exact G.rd j hj
  · by_cases h : j = i
    · subst h
      rw [put_same, hs] at hy
      cases hy
    · rw [put_ne S _ h] at hy
      rw [lev_ne j h]
      exact Int.le_trans (le_lev y) (G.down j hj y hy)
  · by_cases h : j = i
    · subst h
      rw [put_same, hpos1] at hp
      omega
    · rw [put_ne S _ h] at hp ⊢; exact G.self j hj hp
  · by_cases h : (k : Int) = (S i).lev - 1
    · rw [h]
      omega
    · rw [cardK k h]; exact G.few k h1 h2
  · by_cases h : (k : Int) = (S i).lev - 1
    · refine ⟨i, hi, by rw [lev_i, h], fun c _ _ hp => ?_⟩
      rw [put_same, hpos1] at hp
      omega
    · rw [cardK k h] at hk
      obtain ⟨w, hw, hwl, hwr⟩ := G.wit k h1 h2 hk
      have ne : w ≠ i := fun e => by
        subst e
        have h0 : 0 < (S w).cnt := by
          rcases Nat.eq_zero_or_pos (S w).cnt with z | z
          · have : q = 0 := by rw [← hq, z]; simp
            omega
          · exact z
        exact nowit w hw rfl (by rw [hwl]; omega) (by rw [hwl]; exact hwr) h0 rfl
      refine ⟨w, hw, by rw [lev_ne w ne]; exact hwl, fun c hc hcl hp => ?_⟩
      rw [put_ne S _ ne] at hp ⊢
      exact hwr c hc ((lowK k h c).mp hcl) hp
  · have h : j ≠ i := fun z => hg (z ▸ hj)
    rw [put_ne S _ h]
    exact G.gon j hj
  · by_cases h : j = i
    · subst h
      rw [put_same, hs] at h0
      have h0 : ((S j).cnt + 1) % (n + 1) = 0 := h0
      omega
    · rw [put_ne S _ h] at h0 hpos ⊢
      exact G.not j hj hjg h0 hpos
theorem good_step {n : Nat} {S : Sys} {gone : List Nat} {i : Nat} (hn : 1 ≤ n) (G : Good n S gone) (hi : i < n) (hg : i ∉ gone) : Good n (put S i (stp n S i)) (if lvs n S i = true then gone ++ [i] else gone) := by
  by_cases ht : (S i).cnt % (n + 1) = 0
  · exact good_down hn G hi hg ht
  · exact good_read G hi hg ht
end K7M
namespace K7M
def runS (n : Nat) (p : Sys × List Nat) (i : Nat) : Sys × List Nat := if i ∈ p.2 then p else (put p.1 i (stp n p.1 i), if lvs n p.1 i = true then p.2 ++ [i] else p.2)
def runN (n : Nat) (ks : List Nat) : Sys × List Nat := ks.foldl (runS n) (init n, [])
theorem runN_nil (n : Nat) : runN n [] = (init n, []) := rfl
theorem runN_snoc (n : Nat) (ks : List Nat) (i : Nat) : runN n (ks ++ [i]) = runS n (runN n ks) i := by
  unfold runN
  rw [List.foldl_append]
  rfl
theorem runN_take {n : Nat} {ks : List Nat} {i c : Nat} (h : ks[i]? = some c) : runN n (ks.take (i + 1)) = runS n (runN n (ks.take i)) c := by
  have : ks.take (i + 1) = ks.take i ++ [c] := by rw [List.take_add_one, h]; rfl
  rw [this, runN_snoc]
theorem good_runS {n : Nat} {p : Sys × List Nat} {i : Nat} (hn : 1 ≤ n) (G : Good n p.1 p.2) (hi : i < n) : Good n (runS n p i).1 (runS n p i).2 := by
  unfold runS
  split
  · exact G
  · rename_i h
    exact good_step hn G hi h
theorem good_fold {n : Nat} (hn : 1 ≤ n) : ∀ (ks : List Nat) (p : Sys × List Nat), (∀ c ∈ ks, c < n) → Good n p.1 p.2 → Good n (ks.foldl (runS n) p).1 (ks.foldl (runS n) p).2
  | [], _, _, G => G
  | i :: ks, p, h, G => good_fold hn ks (runS n p i) (fun c hc => h c (List.mem_cons_of_mem _ hc)) (good_runS hn G (h i (List.mem_cons_self ..)))
theorem good_run {n : Nat} {ks : List Nat} (hn : 1 ≤ n) (h : ∀ c ∈ ks, c < n) : Good n (runN n ks).1 (runN n ks).2 := good_fold hn ks _ h (good_init hn)
theorem good_take {n : Nat} {ks : List Nat} (hn : 1 ≤ n) (h : ∀ c ∈ ks, c < n) (i : Nat) : Good n (runN n (ks.take i)).1 (runN n (ks.take i)).2 := good_run hn fun c hc => h c (List.mem_of_mem_take hc)
theorem Good.len {n : Nat} {S : Sys} {g : List Nat} (G : Good n S g) {i : Nat} (hi : i < n) : (S i).rd.length ≤ n := by
  have := (G.rd i hi).length_le
  rw [List.length_range] at this
  have := pos_le (n := n) (S i)
  omega
theorem Good.lenG {n : Nat} {S : Sys} {g : List Nat} (G : Good n S g) : g.length ≤ n := by
  have h : ((List.range n).filter fun j => decide (j ∈ g)).Perm g := (List.perm_ext_iff_of_nodup (List.nodup_range.filter _) G.nd).mpr fun a => by
    rw [List.mem_filter, List.mem_range, decide_eq_true_iff]
    exact ⟨fun z => z.2, fun z => ⟨(G.gon a z).1, z⟩⟩
  have h1 := h.length_eq
  have h2 := List.length_filter_le (fun j => decide (j ∈ g)) (List.range n)
  rw [List.length_range] at h2
  omega
end K7M
namespace K7M
/-- those of l not in sh -/
def fresh (l sh : List Nat) : List Nat := l.filter fun c => !decide (c ∈ sh)
def blkS (p : List (List Nat) × List Nat) (l : List Nat) : List (List Nat) × List Nat := if (fresh l p.2).isEmpty then p else (p.1 ++ [fresh l p.2], p.2 ++ fresh l p.2)
def blkF (ls : List (List Nat)) : List (List Nat) × List Nat := ls.foldl blkS ([], [])
def blocksP (ls : List (List Nat)) (ws : List Nat) : List (List Nat) := if (fresh ws (blkF ls).2).isEmpty then (blkF ls).1 else (blkF ls).1 ++ [fresh ws (blkF ls).2]
theorem blkF_take {ls : List (List Nat)} {i : Nat} {l : List Nat} (h : ls[i]? = some l) : blkF (ls.take (i + 1)) = blkS (blkF (ls.take i)) l := by
  have : ls.take (i + 1) = ls.take i ++ [l] := by rw [List.take_add_one, h]; rfl
  unfold blkF
  rw [this, List.foldl_append]
  rfl
def lenLeN (x y : List Nat) : Bool := decide (x.length ≤ y.length)
end K7M
namespace K7M
section
variable {n : Nat} {S : Sys} {g : List Nat}
theorem Good.look (G : Good n S g) {i : Nat} (h : i ∈ g) : i < n ∧ (S i).lev = ((S i).rd.length : Int) ∧ (S i).rd = (List.range n).filter (low S (S i).rd.length) ∧ i ∈ (S i).rd ∧ (S i).rd.length ≤ n ∧ 1 ≤ (S i).rd.length ∧ ((S i).cnt : Int) = ((n : Int) + 1 - ((S i).rd.length : Int)) * ((n : Int) + 1) := by
  obtain ⟨hi, h0, hp, hl⟩ := G.gon i h
  have hpos : pos n (S i) = n := by
    unfold pos
    rw [if_pos h0, if_neg (by omega)]
  have hrd := G.rd i hi
  rw [hpos] at hrd
  have hd := G.down i hi
  have hlev := G.lev i hi
  have hone := G.one i hi
  have hdm := Nat.div_add_mod (S i).cnt (n + 1)
  rw [h0, Nat.add_zero] at hdm
  generalize hq : (S i).cnt / (n + 1) = q at hdm
  have hdiv : ((S i).cnt + n) / (n + 1) = q := by rw [← hdm, Nat.mul_add_div (Nat.succ_pos n), Nat.div_eq_of_lt (Nat.lt_succ_self n), Nat.add_zero]
  rw [hdiv] at hlev
  have hq1 : 1 ≤ q := by
    rcases Nat.eq_zero_or_pos q with z | z
    · rw [z, Nat.mul_zero] at hdm; omega
    · exact z
  obtain ⟨k, hk⟩ : ∃ k : Nat, (S i).lev = k := ⟨(S i).lev.toNat, by omega⟩
  have c1 := len_card (n := n) (k := (S i).lev) hrd (Nat.le_refl _) hd
  have c2 := G.few k (by omega) (by omega)
  rw [hk] at c1
  have e1 : (S i).rd.length = k := by rw [hk] at hl; omega
  have e2 : (S i).rd = (List.range n).filter (low S (k : Int)) := by
    have := eq_card (n := n) (k := (S i).lev) hrd (Nat.le_refl _) hd (by rw [hk]; omega)
    rw [hk] at this
    exact this
  refine ⟨hi, by rw [hk, e1], by rw [e1]; exact e2, G.self i hi (by rw [hpos]; exact hi), by omega, by omega, ?_⟩
  have : (n : Int) + 1 - ((S i).rd.length : Int) = q := by rw [e1]; omega
  rw [this, ← hdm, Int.natCast_mul, Int.mul_comm]
  rfl
theorem Good.sub (G : Good n S g) {i j : Nat} (hi : i ∈ g) (hj : j ∈ g) (h : (S i).rd.length ≤ (S j).rd.length) : ∀ c ∈ (S i).rd, c ∈ (S j).rd := fun c hc => by
  obtain ⟨_, _, e1, _⟩ := G.look hi
  obtain ⟨_, _, e2, _⟩ := G.look hj
  rw [e1] at hc
  rw [e2]
  obtain ⟨h1, h2⟩ := List.mem_filter.mp hc
  refine List.mem_filter.mpr ⟨h1, ?_⟩
  have := of_decide_eq_true h2
  exact decide_eq_true (by omega)
theorem Good.sub_in (G : Good n S g) {i j : Nat} (hi : i ∈ g) (hj : j ∈ g) (h : j ∈ (S i).rd) : (S j).rd.length ≤ (S i).rd.length := by
  obtain ⟨_, l1, e1, _⟩ := G.look hi
  obtain ⟨_, l2, e2, _⟩ := G.look hj
  rw [e1] at h
  have := of_decide_eq_true (List.mem_filter.mp h).2
  omega
theorem Good.eq_len (G : Good n S g) {i j : Nat} (hi : i ∈ g) (hj : j ∈ g) (h : (S i).rd.length = (S j).rd.length) : (S i).rd = (S j).rd := by
  obtain ⟨_, _, e1, _⟩ := G.look hi
  obtain ⟨_, _, e2, _⟩ := G.look hj
  rw [e1, e2, h]
end
end K7M
namespace K7M
/-- the law's blocks: each look without the one before -/
def blkL : List Nat → List (List Nat) → List (List Nat)
  | _, [] => []
  | seen, l :: ls => fresh l seen :: blkL l ls
def lastL : List Nat → List (List Nat) → List Nat
  | seen, [] => seen
  | _, l :: ls => lastL l ls
def blocksL (ls : List (List Nat)) (ws : List Nat) : List (List Nat) := if (fresh ws (lastL [] ls)).isEmpty then blkL [] ls else blkL [] ls ++ [fresh ws (lastL [] ls)]
/-- the first of each run of equal ones -/
def dA : Option (List Nat) → List (List Nat) → List (List Nat)
  | _, [] => []
  | prev, l :: ls => if prev = some l then dA prev ls else l :: dA (some l) ls
theorem fresh_congr {l a b : List Nat} (h : ∀ c, c ∈ a ↔ c ∈ b) : fresh l a = fresh l b := by
  unfold fresh
  refine List.filter_congr fun c _ => ?_
  rw [decide_eq_decide.mpr (h c)]
theorem fresh_nil {l sh : List Nat} (h : ∀ c ∈ l, c ∈ sh) : (fresh l sh).isEmpty = true := by
  unfold fresh
  rw [List.isEmpty_iff, List.filter_eq_nil_iff]
  intro c hc
  simp [h c hc]
theorem sub_len : ∀ {l m : List Nat}, l.Nodup → (∀ c ∈ l, c ∈ m) → l.length ≤ m.length
  | [], _, _, _ => Nat.zero_le _
  | a :: l, m, nd, h => by
    obtain ⟨h1, h2⟩ := List.nodup_cons.mp nd
    have hm := h a (List.mem_cons_self ..)
    have ih := sub_len (l := l) (m := m.erase a) h2 fun c hc => by
      have ne : c ≠ a := fun z => h1 (z ▸ hc)
      exact (List.mem_erase_of_ne ne).mpr (h c (List.mem_cons_of_mem _ hc))
    have := List.length_erase_of_mem hm
    have hp : 0 < m.length := List.length_pos_of_mem hm
    rw [List.length_cons]
    omega
/-- what is asked of the looks -/
structure Chain (L : List (List Nat)) : Prop where
  nd : ∀ l ∈ L, l.Nodup
  pos : ∀ l ∈ L, 0 < l.length
  sub : ∀ l ∈ L, ∀ m ∈ L, l.length ≤ m.length → ∀ c ∈ l, c ∈ m
  eq : ∀ l ∈ L, ∀ m ∈ L, l.length = m.length → l = m
theorem fresh_some {L : List (List Nat)} (C : Chain L) {l p sh : List Nat} (hl : l ∈ L) (hp : p ∈ L) (h : p.length ≤ l.length) (ne : p ≠ l) (e : ∀ c, c ∈ sh ↔ c ∈ p) : (fresh l sh).isEmpty = false := by
  cases h1 : (fresh l sh).isEmpty with
  | false => rfl
  | true =>
    exfalso
    unfold fresh at h1
    rw [List.isEmpty_iff, List.filter_eq_nil_iff] at h1
    have h2 : ∀ c ∈ l, c ∈ p := fun c hc => by
      have := h1 c hc
      have h3 : c ∈ sh := by simpa using this
      exact (e c).mp h3
    have h3 := sub_len (C.nd l hl) h2
    exact ne (C.eq p hp l hl (by omega))
theorem blk_walk {L : List (List Nat)} (C : Chain L) : ∀ (ls : List (List Nat)) (bs : List (List Nat)) (sh p : List Nat), (∀ l ∈ ls, l ∈ L) → p ∈ L → (∀ l ∈ ls, p.length ≤ l.length) → ls.Pairwise (fun x y => x.length ≤ y.length) → (∀ c, c ∈ sh ↔ c ∈ p) →
    (ls.foldl blkS (bs, sh)).1 = bs ++ blkL p (dA (some p) ls) ∧ ∀ c, c ∈ (ls.foldl blkS (bs, sh)).2 ↔ c ∈ lastL p (dA (some p) ls)
  | [], bs, sh, p, _, _, _, _, e => by
    refine ⟨?_, e⟩
    show bs = bs ++ []
    rw [List.append_nil]
  | l :: ls, bs, sh, p, hL, hp, hle, hs, e => by
    have hl := hL l (List.mem_cons_self ..)
    have hL' := fun m hm => hL m (List.mem_cons_of_mem _ hm)
    obtain ⟨hs1, hs2⟩ := List.pairwise_cons.mp hs
    have hpl := hle l (List.mem_cons_self ..)
    rw [List.foldl_cons]
    by_cases h : p = l
    · subst h
      have ef : blkS (bs, sh) p = (bs, sh) := by
        unfold blkS
        rw [if_pos (fresh_nil fun c hc => (e c).mpr hc)]
      have ed : dA (some p) (p :: ls) = dA (some p) ls := by
        show (if some p = some p then _ else _) = _
        rw [if_pos rfl]
      rw [ef, ed]
      exact blk_walk C ls bs sh p hL' hp (fun m hm => hle m (List.mem_cons_of_mem _ hm)) hs2 e
    · have ef : blkS (bs, sh) l = (bs ++ [fresh l sh], sh ++ fresh l sh) := by
        unfold blkS
        rw [fresh_some C hl hp hpl h e, if_neg Bool.false_ne_true]
      have ed : dA (some p) (l :: ls) = l :: dA (some l) ls := by
        show (if some p = some l then _ else _) = _
        rw [if_neg fun z => h (Option.some.inj z)]
      have e' : ∀ c, c ∈ sh ++ fresh l sh ↔ c ∈ l := fun c => by
        rw [List.mem_append]
        unfold fresh
        rw [List.mem_filter]
        constructor
        · rintro (h1 | ⟨h1, _⟩)
          · exact C.sub p hp l hl hpl c ((e c).mp h1)
          · exact h1
        · intro h1
          by_cases h2 : c ∈ sh
          · exact .inl h2
          · exact .inr ⟨h1, by simp [h2]⟩
      obtain ⟨r1, r2⟩ := blk_walk C ls (bs ++ [fresh l sh]) (sh ++ fresh l sh) l hL' hl hs1 hs2 e'
      rw [ef, ed]
      refine ⟨?_, r2⟩
      rw [r1, List.append_assoc]
      show bs ++ (fresh l sh :: _) = bs ++ (fresh l p :: _)
      rw [fresh_congr e]
      rfl
theorem dA_mem : ∀ (ls : List (List Nat)) (prev : Option (List Nat)) (x : List Nat), (x ∈ dA prev ls → x ∈ ls) ∧ (x ∈ ls → x ∈ dA prev ls ∨ prev = some x)
  | [], _, x => ⟨fun h => h, fun h => .inl h⟩
  | l :: ls, prev, x => by
    show (x ∈ (if prev = some l then dA prev ls else l :: dA (some l) ls) → _) ∧ (_ → x ∈ (if prev = some l then dA prev ls else l :: dA (some l) ls) ∨ _)
    by_cases h : prev = some l
    · rw [if_pos h]
      obtain ⟨h1, h2⟩ := dA_mem ls prev x
      refine ⟨fun z => List.mem_cons_of_mem _ (h1 z), fun z => ?_⟩
      rcases List.mem_cons.mp z with rfl | z
      · exact .inr h
      · exact h2 z
    · rw [if_neg h]
      obtain ⟨h1, h2⟩ := dA_mem ls (some l) x
      refine ⟨fun z => ?_, fun z => .inl ?_⟩
      · rcases List.mem_cons.mp z with rfl | z
        · exact List.mem_cons_self ..
        · exact List.mem_cons_of_mem _ (h1 z)
      · rcases List.mem_cons.mp z with rfl | z
        · exact List.mem_cons_self ..
        · rcases h2 z with z | z
          · exact List.mem_cons_of_mem _ z
          · rw [Option.some.inj z]
            exact List.mem_cons_self ..
theorem dA_up {L : List (List Nat)} (C : Chain L) : ∀ (ls : List (List Nat)) (p : List Nat), (∀ l ∈ ls, l ∈ L) → p ∈ L → (∀ l ∈ ls, p.length ≤ l.length) → ls.Pairwise (fun x y => x.length ≤ y.length) →
    (dA (some p) ls).Pairwise (fun x y => x.length < y.length) ∧ ∀ x ∈ dA (some p) ls, p.length < x.length
  | [], p, _, _, _, _ => ⟨List.Pairwise.nil, fun x h => by cases h⟩
  | l :: ls, p, hL, hp, hle, hs => by
    have hl := hL l (List.mem_cons_self ..)
    have hL' := fun m hm => hL m (List.mem_cons_of_mem _ hm)
    obtain ⟨hs1, hs2⟩ := List.pairwise_cons.mp hs
    have hpl := hle l (List.mem_cons_self ..)
    show (if some p = some l then dA (some p) ls else l :: dA (some l) ls).Pairwise _ ∧ ∀ x ∈ (if some p = some l then dA (some p) ls else l :: dA (some l) ls), _
    by_cases h : p = l
    · rw [if_pos (by rw [h])]
      exact dA_up C ls p hL' hp (fun m hm => hle m (List.mem_cons_of_mem _ hm)) hs2
    · rw [if_neg fun z => h (Option.some.inj z)]
      obtain ⟨r1, r2⟩ := dA_up C ls l hL' hl hs1 hs2
      have hlt : p.length < l.length := by
        rcases Nat.lt_or_ge p.length l.length with z | z
        · exact z
        · exact absurd (C.eq p hp l hl (by omega)) h
      refine ⟨List.pairwise_cons.mpr ⟨r2, r1⟩, fun x hx => ?_⟩
      rcases List.mem_cons.mp hx with rfl | hx
      · exact hlt
      · have := r2 x hx
        omega
theorem up_one {L M : List (List Nat)} (hL : L.Pairwise (fun x y => x.length < y.length)) (hM : M.Pairwise (fun x y => x.length < y.length)) (h : ∀ x, x ∈ L ↔ x ∈ M) : L = M := by
  have nd : ∀ {K : List (List Nat)}, K.Pairwise (fun x y => x.length < y.length) → K.Nodup := fun hK => hK.imp fun {a b} z e => by
    subst e
    omega
  exact List.Perm.eq_of_pairwise (le := fun x y : List Nat => x.length < y.length) (fun a b _ _ h1 h2 => by omega) hL hM ((List.perm_ext_iff_of_nodup (nd hL) (nd hM)).mpr h)
theorem blocks_eq {L L' : List (List Nat)} {ws : List Nat} (C : Chain L) (hL : L.Pairwise (fun x y => x.length ≤ y.length)) (hL' : L'.Pairwise (fun x y => x.length < y.length)) (h : ∀ x, x ∈ L' ↔ x ∈ L) : blocksP L ws = blocksL L' ws := by
  cases L with
  | nil =>
    have e : L' = [] := by
      cases L' with
      | nil => rfl
      | cons x xs => exact absurd ((h x).mp (List.mem_cons_self ..)) (by simp)
    subst e
    rfl
  | cons l ls =>
    have hl : l ∈ l :: ls := List.mem_cons_self ..
    have hls : ∀ m ∈ ls, m ∈ l :: ls := fun m hm => List.mem_cons_of_mem _ hm
    obtain ⟨hs1, hs2⟩ := List.pairwise_cons.mp hL
    obtain ⟨r1, r2⟩ := blk_walk C ls [fresh l []] (fresh l []) l hls hl hs1 hs2 fun c => by
      unfold fresh
      rw [List.mem_filter]
      simp
    obtain ⟨u1, u2⟩ := dA_up C ls l hls hl hs1 hs2
    have ne : (fresh l []).isEmpty = false := by
      have e : fresh l [] = l := by
        unfold fresh
        exact List.filter_eq_self.mpr fun c _ => by simp
      rw [e]
      have := C.pos l hl
      cases l with
      | nil => simp at this
      | cons a b => rfl
    have e0 : blkF (l :: ls) = ls.foldl blkS ([fresh l []], fresh l []) := by
      unfold blkF
      rw [List.foldl_cons]
      have : blkS ([], []) l = ([fresh l []], fresh l []) := by
        unfold blkS
        rw [ne, if_neg Bool.false_ne_true]
        rfl
      rw [this]
    have e1 : L' = l :: dA (some l) ls := by
      refine up_one hL' (List.pairwise_cons.mpr ⟨u2, u1⟩) fun x => ?_
      rw [h x]
      constructor
      · intro z
        rcases List.mem_cons.mp z with rfl | z
        · exact List.mem_cons_self ..
        · rcases (dA_mem ls (some l) x).2 z with z | z
          · exact List.mem_cons_of_mem _ z
          · rw [Option.some.inj z]
            exact List.mem_cons_self ..
      · intro z
        rcases List.mem_cons.mp z with rfl | z
        · exact List.mem_cons_self ..
        · exact List.mem_cons_of_mem _ ((dA_mem ls (some l) x).1 z)
    rw [e1]
    unfold blocksP blocksL
    rw [e0]
    have f1 : (ls.foldl blkS ([fresh l []], fresh l [])).1 = blkL [] (l :: dA (some l) ls) := r1
    have f2 : fresh ws (ls.foldl blkS ([fresh l []], fresh l [])).2 = fresh ws (lastL [] (l :: dA (some l) ls)) := fresh_congr r2
    rw [f1, f2]
end K7M
namespace K7M
theorem Good.small {n : Nat} {S : Sys} {g : List Nat} (hn : 1 ≤ n) (G : Good n S g) {i : Nat} (hi : i < n) (hg : i ∉ g) : (S i).cnt < n * (n + 1) := by
  have hl := G.lev i hi
  have h1 := G.one i hi
  have hd : ((S i).cnt + n) / (n + 1) ≤ n := by omega
  have h2 : (S i).cnt + n < (n + 1) * (n + 1) := (Nat.div_lt_iff_lt_mul (Nat.succ_pos n)).mp (Nat.lt_succ_of_le hd)
  have h3 : (n + 1) * (n + 1) = n * (n + 1) + (n + 1) := Nat.succ_mul n (n + 1)
  rcases Nat.lt_or_ge (S i).cnt (n * (n + 1)) with h | h
  · exact h
  · exfalso
    have e : (S i).cnt = n * (n + 1) := by omega
    have hm : (S i).cnt % (n + 1) = 0 := by rw [e]; exact Nat.mul_mod_left _ _
    have hpos : 0 < (S i).cnt := by rw [e]; exact Nat.mul_pos (by omega) (by omega)
    have h4 := G.not i hi hg hm hpos
    have hp : pos n (S i) = n := by
      unfold pos
      rw [if_pos hm, if_neg (by omega)]
    have h5 := List.length_pos_of_mem (G.self i hi (by rw [hp]; exact hi))
    have h6 : ((S i).cnt + n) / (n + 1) = n := by
      rw [e, Nat.mul_comm, Nat.mul_add_div (Nat.succ_pos n), Nat.div_eq_of_lt (Nat.lt_succ_self n), Nat.add_zero]
    rw [h6] at hl
    omega
theorem cnt_put {n : Nat} {S : Sys} {i : Nat} : (put S i (stp n S i) i).cnt = (S i).cnt + 1 := by
  rw [put_same]
  unfold stp
  split <;> rfl
theorem all_gone {n : Nat} {S : Sys} {g : List Nat} (G : Good n S g) (h : ∀ i, i < n → i ∈ g) : g.length = n := by
  have p : (List.range n).Perm g := (List.perm_ext_iff_of_nodup List.nodup_range G.nd).mpr fun a => by
    rw [List.mem_range]
    exact ⟨fun z => h a z, fun z => (G.gon a z).1⟩
  have := p.length_eq
  rw [List.length_range] at this
  exact this.symm
end K7M
namespace K7M
section
variable {n : Nat} {S : Sys} {g : List Nat}
/-- what the blocks ahead of a name put together -/
theorem ahead_walk (G : Good n S g) : ∀ (ls : List (List Nat)) (seen : List Nat), ls.Pairwise (fun x y => x.length < y.length) → (∀ l ∈ ls, ∃ e ∈ g, (S e).rd = l) → (∀ l ∈ ls, ∀ c ∈ seen, c ∈ l) → seen.Nodup → (∀ c ∈ g, (S c).rd ∈ ls ∨ ∀ x ∈ (S c).rd, x ∈ seen) →
    (∀ (k : Nat) (b : List Nat) (c : Nat), (blkL seen ls)[k]? = some b → c ∈ b → c ∈ g → (seen ++ ((blkL seen ls).take (k + 1)).flatten).Perm (S c).rd) ∧ ∀ c ∈ g, ∀ x ∈ (S c).rd, x ∈ lastL seen ls
  | [], seen, _, _, _, _, hc => ⟨fun k b c h => by simp [blkL] at h, fun c hcg => (hc c hcg).resolve_left (by simp)⟩
  | l :: ls, seen, hup, hls, hsub, hnd, hc => by
    obtain ⟨e, he, el⟩ := hls l (List.mem_cons_self ..)
    obtain ⟨u1, u2⟩ := List.pairwise_cons.mp hup
    have hsl := hsub l (List.mem_cons_self ..)
    have lnd : l.Nodup := by
      rw [← el, (G.look he).2.2.1]
      exact List.nodup_range.filter _
    have hp : (seen ++ fresh l seen).Perm l := by
      refine (List.perm_ext_iff_of_nodup ?_ lnd).mpr fun a => ?_
      · refine List.nodup_append.mpr ⟨hnd, lnd.filter _, fun a ha b hb e => ?_⟩
        subst e
        have := (List.mem_filter.mp hb).2
        simp [ha] at this
      · rw [List.mem_append]
        unfold fresh
        rw [List.mem_filter]
        constructor
        · rintro (h | ⟨h, _⟩)
          · exact hsl a h
          · exact h
        · intro h
          by_cases h2 : a ∈ seen
          · exact .inl h2
          · exact .inr ⟨h, by simp [h2]⟩
    have sub2 : ∀ m ∈ ls, ∀ c ∈ l, c ∈ m := fun m hm c hcl => by
      obtain ⟨f, hf, em⟩ := hls m (List.mem_cons_of_mem _ hm)
      rw [← em]
      refine G.sub he hf ?_ c (by rw [el]; exact hcl)
      rw [el, em]
      exact Nat.le_of_lt (u1 m hm)
    obtain ⟨r1, r2⟩ := ahead_walk G ls l u2 (fun m hm => hls m (List.mem_cons_of_mem _ hm)) sub2 lnd fun c hcg => by
      rcases hc c hcg with h | h
      · rcases List.mem_cons.mp h with h | h
        · exact .inr fun x hx => by rw [← h]; exact hx
        · exact .inl h
      · exact .inr fun x hx => hsl x (h x hx)
    refine ⟨fun k b c hb hcb hcg => ?_, r2⟩
    cases k with
    | zero =>
      have eb : fresh l seen = b := Option.some.inj hb
      subst eb
      obtain ⟨c1, c2⟩ := List.mem_filter.mp hcb
      have cs : c ∉ seen := by simpa using c2
      have er : (S c).rd = l := by
        rcases hc c hcg with h | h
        · rcases List.mem_cons.mp h with h | h
          · exact h
          · exfalso
            have h1 := u1 _ h
            have h2 := G.sub_in he hcg (by rw [el]; exact c1)
            rw [el] at h2
            omega
        · exact absurd (h c (G.look hcg).2.2.2.1) cs
      rw [er]
      have e1 : ((blkL seen (l :: ls)).take (0 + 1)).flatten = fresh l seen := by
        show [fresh l seen].flatten = fresh l seen
        simp
      rw [e1]
      exact hp
    | succ k =>
      have h := r1 k b c hb hcb hcg
      have e1 : ((blkL seen (l :: ls)).take (k + 1 + 1)).flatten = fresh l seen ++ ((blkL l ls).take (k + 1)).flatten := rfl
      rw [e1, ← List.append_assoc]
      exact (hp.append_right _).trans h
theorem ahead_all (G : Good n S g) {L' : List (List Nat)} {ws : List Nat} (hup : L'.Pairwise (fun x y => x.length < y.length)) (mem : ∀ x, x ∈ L' ↔ ∃ c ∈ g, (S c).rd = x) {k : Nat} {b : List Nat} {c : Nat} (hb : (blocksL L' ws)[k]? = some b) (hc : c ∈ b) (hcg : c ∈ g) :
    (((blocksL L' ws).take (k + 1)).flatten).Perm (S c).rd := by
  obtain ⟨r1, r2⟩ := ahead_walk G L' [] hup (fun l hl => (mem l).mp hl) (fun _ _ c hc => by cases hc) List.nodup_nil fun c hc => .inl ((mem _).mpr ⟨c, hc, rfl⟩)
  unfold blocksL at hb ⊢
  cases h : (fresh ws (lastL [] L')).isEmpty with
  | true =>
    rw [h, if_pos rfl] at hb
    rw [if_pos rfl]
    exact r1 k b c hb hc hcg
  | false =>
    rw [h, if_neg Bool.false_ne_true] at hb
    rw [if_neg Bool.false_ne_true]
    rcases Nat.lt_or_ge k (blkL [] L').length with hk | hk
    · rw [List.getElem?_append_left hk] at hb
      rw [List.take_append_of_le_length (by omega)]
      exact r1 k b c hb hc hcg
    · exfalso
      rw [List.getElem?_append_right hk] at hb
      have eb : b = fresh ws (lastL [] L') := by
        rcases Nat.eq_zero_or_pos (k - (blkL [] L').length) with z | z
        · rw [z] at hb
          exact (Option.some.inj hb).symm
        · rw [List.getElem?_eq_none (by show 1 ≤ _; omega)] at hb
          cases hb
      subst eb
      have := (List.mem_filter.mp hc).2
      simp [r2 c hcg c (G.look hcg).2.2.2.1] at this
end
end K7M
namespace K7M
/-! told schedules -/
/-- the steps of one block: so many times a write of each and n reads of each -/
def turnOf (n : Nat) (b : List Nat) : List Nat := b ++ b.flatMap fun c => List.replicate n c
def fold (n : Nat) (p : Sys × List Nat) (ks : List Nat) : Sys × List Nat := ks.foldl (runS n) p
theorem fold_append (n : Nat) (p : Sys × List Nat) (a b : List Nat) : fold n p (a ++ b) = fold n (fold n p a) b := by
  unfold fold
  rw [List.foldl_append]
/-- each of b writes once -/
theorem fold_write {n : Nat} (hn : 1 ≤ n) : ∀ (b : List Nat) (S : Sys) (g : List Nat), b.Nodup → (∀ c ∈ b, c ∉ g ∧ (S c).cnt % (n + 1) = 0) →
    fold n (S, g) b = (fun j => if j ∈ b then ⟨(S j).lev - 1, (S j).cnt + 1, []⟩ else S j, g)
  | [], S, g, _, _ => by
    unfold fold
    simp
  | c :: b, S, g, nd, h => by
    obtain ⟨h1, h2⟩ := List.nodup_cons.mp nd
    obtain ⟨hg, h0⟩ := h c (List.mem_cons_self ..)
    have hv : ¬ lvs n S c = true := fun z => by
      have := (of_decide_eq_true z).1
      omega
    have e : runS n (S, g) c = (put S c (stp n S c), g) := by
      unfold runS
      rw [if_neg hg, if_neg hv]
    have es : stp n S c = ⟨(S c).lev - 1, (S c).cnt + 1, []⟩ := if_pos h0
    have ih := fold_write hn b (put S c (stp n S c)) g h2 fun d hd => by
      have ne : d ≠ c := fun z => h1 (z ▸ hd)
      rw [put_ne S _ ne]
      exact h d (List.mem_cons_of_mem _ hd)
    unfold fold at ih ⊢
    rw [List.foldl_cons, e, ih]
    congr 1
    funext j
    by_cases hj : j = c
    · subst hj
      rw [if_neg h1, put_same, es, if_pos (List.mem_cons_self ..)]
    · rw [put_ne S _ hj]
      by_cases hb : j ∈ b
      · rw [if_pos hb, if_pos (List.mem_cons_of_mem _ hb)]
      · rw [if_neg hb, if_neg fun z => (List.mem_cons.mp z).elim hj hb]
/-- c reads the cells from k to n - 1 -/
theorem fold_read {n : Nat} {c : Nat} {g : List Nat} (hg : c ∉ g) : ∀ (m k : Nat) (S : Sys), k + m = n → (S c).cnt % (n + 1) = k + 1 → 0 < m → (∀ j, (S j).lev = (S j).lev) →
    fold n (S, g) (List.replicate m c) = (put S c ⟨(S c).lev, (S c).cnt + m, (S c).rd ++ ((List.range' k m).filter fun j => decide ((S j).lev ≤ (S c).lev))⟩,
      if (S c).lev ≤ (((S c).rd ++ ((List.range' k m).filter fun j => decide ((S j).lev ≤ (S c).lev))).length : Int) then g ++ [c] else g)
  | 0, k, S, _, _, h, _ => absurd h (Nat.lt_irrefl 0)
  | m + 1, k, S, hk, hc, _, _ => by
    have h0 : ¬ (S c).cnt % (n + 1) = 0 := by omega
    have es : stp n S c = ⟨(S c).lev, (S c).cnt + 1, if (S k).lev ≤ (S c).lev then (S c).rd ++ [k] else (S c).rd⟩ := by
      unfold stp
      rw [if_neg h0, hc]
      rfl
    have er : (List.range' k (m + 1)).filter (fun j => decide ((S j).lev ≤ (S c).lev)) = (if (S k).lev ≤ (S c).lev then [k] else []) ++ (List.range' (k + 1) m).filter fun j => decide ((S j).lev ≤ (S c).lev) := by
      rw [List.range'_succ, List.filter_cons]
      by_cases h : (S k).lev ≤ (S c).lev
      · rw [if_pos (decide_eq_true h), if_pos h]; rfl
      · rw [if_neg (by simp [h]), if_neg h]; rfl
    have erd : (stp n S c).rd = (S c).rd ++ (if (S k).lev ≤ (S c).lev then [k] else []) := by
      rw [es]
      by_cases h : (S k).lev ≤ (S c).lev <;> simp [h]
    unfold fold
    rw [List.replicate_succ, List.foldl_cons]
    cases m with
    | zero =>
      have e : runS n (S, g) c = (put S c (stp n S c), if lvs n S c = true then g ++ [c] else g) := by
        unfold runS
        rw [if_neg hg]
      rw [e]
      have hl : (lvs n S c = true) ↔ (S c).lev ≤ (((S c).rd ++ ((List.range' k 1).filter fun j => decide ((S j).lev ≤ (S c).lev))).length : Int) := by
        unfold lvs
        rw [decide_eq_true_iff, erd, er, es]
        simp only [List.range'_zero, List.filter_nil, List.append_nil]
        exact ⟨fun z => z.2, fun z => ⟨by omega, z⟩⟩
      show (put S c (stp n S c), if lvs n S c = true then g ++ [c] else g) = _
      congr 1
      · congr 1
        rw [es, er]
        simp only [List.range'_zero, List.filter_nil, List.append_nil]
        have := erd
        rw [es] at this
        have h2 : (if (S k).lev ≤ (S c).lev then (S c).rd ++ [k] else (S c).rd) = (S c).rd ++ (if (S k).lev ≤ (S c).lev then [k] else []) := this
        rw [h2]
      · by_cases h : lvs n S c = true
        · rw [if_pos h, if_pos (hl.mp h)]
        · rw [if_neg h, if_neg fun z => h (hl.mpr z)]
    | succ m =>
      have hv : ¬ lvs n S c = true := fun z => by
        have := (of_decide_eq_true z).1
        omega
      have e : runS n (S, g) c = (put S c (stp n S c), g) := by
        unfold runS
        rw [if_neg hg, if_neg hv]
      rw [e]
      have lev' : ∀ j, (put S c (stp n S c) j).lev = (S j).lev := fun j => by
        by_cases h : j = c
        · subst h; rw [put_same, es]
        · rw [put_ne S _ h]
      have ih := fold_read (n := n) hg (m + 1) (k + 1) (put S c (stp n S c)) (by omega) (by
        rw [put_same, es]
        show ((S c).cnt + 1) % (n + 1) = k + 1 + 1
        have e1 : 1 % (n + 1) = 1 := Nat.mod_eq_of_lt (by omega)
        have e2 : (k + 1 + 1) % (n + 1) = k + 1 + 1 := Nat.mod_eq_of_lt (by omega)
        rw [Nat.add_mod, hc, e1, e2]) (Nat.succ_pos m) (fun _ => rfl)
      unfold fold at ih
      rw [ih]
      simp only [lev']
      rw [put_same, er, erd, es, List.append_assoc]
      congr 1
      · funext j
        by_cases h : j = c
        · subst h
          rw [put_same, put_same]
          show NS.mk _ _ _ = NS.mk _ _ _
          rw [Nat.add_assoc, Nat.add_comm 1 (m + 1)]
        · rw [put_ne _ _ h, put_ne _ _ h, put_ne _ _ h]
/-- the cells at most L -/
def FF (n : Nat) (S : Sys) (L : Int) : List Nat := (List.range n).filter fun j => decide ((S j).lev ≤ L)
theorem FF_congr {n : Nat} {S S' : Sys} {L : Int} (h : ∀ j, j < n → ((S j).lev ≤ L ↔ (S' j).lev ≤ L)) : FF n S L = FF n S' L := List.filter_congr fun j hj => decide_eq_decide.mpr (h j (List.mem_range.mp hj))
theorem fold_reads {n : Nat} (hn : 1 ≤ n) (L : Int) : ∀ (b : List Nat) (S : Sys) (g : List Nat), b.Nodup → (∀ c ∈ b, c ∉ g ∧ (S c).cnt % (n + 1) = 1 ∧ (S c).rd = [] ∧ (S c).lev = L) →
    fold n (S, g) (b.flatMap fun c => List.replicate n c) = (fun j => if j ∈ b then ⟨L, (S j).cnt + n, FF n S L⟩ else S j, if L ≤ ((FF n S L).length : Int) then g ++ b else g)
  | [], S, g, _, _ => by
    unfold fold
    simp
  | c :: b, S, g, nd, h => by
    obtain ⟨h1, h2⟩ := List.nodup_cons.mp nd
    obtain ⟨hg, hc, hr, hl⟩ := h c (List.mem_cons_self ..)
    have e := fold_read (n := n) (c := c) hg n 0 S (by omega) hc (by omega) fun _ => rfl
    rw [hr, hl, List.nil_append, ← List.range_eq_range'] at e
    have e : fold n (S, g) (List.replicate n c) = (put S c ⟨L, (S c).cnt + n, FF n S L⟩, if L ≤ ((FF n S L).length : Int) then g ++ [c] else g) := e
    rw [List.flatMap_cons, fold_append, e]
    have eF : FF n (put S c ⟨L, (S c).cnt + n, FF n S L⟩) L = FF n S L := FF_congr fun j _ => by
      by_cases h : j = c
      · subst h; rw [put_same, hl]
      · rw [put_ne S _ h]
    have ih := fold_reads hn L b (put S c ⟨L, (S c).cnt + n, FF n S L⟩) (if L ≤ ((FF n S L).length : Int) then g ++ [c] else g) h2 fun d hd => by
      have ne : d ≠ c := fun z => h1 (z ▸ hd)
      rw [put_ne S _ ne]
      obtain ⟨q1, q2⟩ := h d (List.mem_cons_of_mem _ hd)
      refine ⟨?_, q2⟩
      split
      · intro z
        rcases List.mem_append.mp z with z | z
        · exact q1 z
        · exact ne (List.mem_singleton.mp z)
      · exact q1
    rw [ih, eF]
    congr 1
    · funext j
      by_cases hj : j = c
      · subst hj
        rw [if_neg h1, put_same, if_pos (List.mem_cons_self ..)]
      · rw [put_ne S _ hj]
        by_cases hb : j ∈ b
        · rw [if_pos hb, if_pos (List.mem_cons_of_mem _ hb)]
        · rw [if_neg hb, if_neg fun z => (List.mem_cons.mp z).elim hj hb]
    · split
      · rw [List.append_assoc]; rfl
      · rfl
/-- one turn of a block: all come down to L and read -/
theorem fold_turn {n : Nat} (hn : 1 ≤ n) (L : Int) {b : List Nat} {S : Sys} {g F : List Nat} (nd : b.Nodup) (h : ∀ c ∈ b, c ∉ g ∧ (S c).cnt % (n + 1) = 0 ∧ (S c).lev = L + 1) (hF : F = (List.range n).filter fun j => decide (j ∈ b ∨ (S j).lev ≤ L)) :
    fold n (S, g) (turnOf n b) = (fun j => if j ∈ b then ⟨L, (S j).cnt + (n + 1), F⟩ else S j, if L ≤ (F.length : Int) then g ++ b else g) := by
  unfold turnOf
  rw [fold_append, fold_write hn b S g nd fun c hc => ⟨(h c hc).1, (h c hc).2.1⟩]
  have r := fold_reads hn L b (fun j => if j ∈ b then ⟨(S j).lev - 1, (S j).cnt + 1, []⟩ else S j) g nd fun c hc => by
    obtain ⟨q1, q2, q3⟩ := h c hc
    refine ⟨q1, ?_⟩
    try dsimp only
    rw [if_pos hc]
    refine ⟨?_, rfl, by show (S c).lev - 1 = L; omega⟩
    show ((S c).cnt + 1) % (n + 1) = 1
    rw [Nat.add_mod, q2, Nat.zero_add, Nat.mod_mod, Nat.mod_eq_of_lt (by omega : 1 < n + 1)]
  have eF : FF n (fun j => if j ∈ b then (⟨(S j).lev - 1, (S j).cnt + 1, []⟩ : NS) else S j) L = F := by
    rw [hF]
    refine List.filter_congr fun j _ => decide_eq_decide.mpr ?_
    dsimp only
    by_cases hj : j ∈ b
    · rw [if_pos hj]
      have := (h j hj).2.2
      exact ⟨fun _ => .inl hj, fun _ => by show (S j).lev - 1 ≤ L; omega⟩
    · rw [if_neg hj]
      exact ⟨fun z => .inr z, fun z => z.resolve_left hj⟩
  rw [r, eF]
  congr 1
  funext j
  by_cases hj : j ∈ b
  · rw [if_pos hj, if_pos hj, if_pos hj]
    show NS.mk _ _ _ = NS.mk _ _ _
    rw [Nat.add_assoc, Nat.add_comm 1 n]
  · rw [if_neg hj, if_neg hj]
    try dsimp only
    rw [if_neg hj]
/-- where the blocks ahead (their names D) have been walked -/
structure Ahead (n : Nat) (D : List Nat) (S : Sys) (g : List Nat) : Prop where
  sub : ∀ c ∈ D, c < n
  nd : D.Nodup
  mem : ∀ c, c ∈ g ↔ c ∈ D
  low : ∀ c ∈ D, (S c).lev ≤ D.length
  new : ∀ c, c < n → c ∉ D → S c = ⟨(n : Int) + 1, 0, []⟩
/-- the names D and b, in order -/
def both (n : Nat) (D b : List Nat) : List Nat := (List.range n).filter fun j => decide (j ∈ D ∨ j ∈ b)
theorem len_both {n : Nat} {D b : List Nat} (h1 : ∀ c ∈ D, c < n) (h2 : ∀ c ∈ b, c < n) (n1 : D.Nodup) (n2 : b.Nodup) (dj : ∀ c ∈ b, c ∉ D) : (both n D b).length = D.length + b.length := by
  have p : (both n D b).Perm (D ++ b) := by
    refine (List.perm_ext_iff_of_nodup (List.nodup_range.filter _) (List.nodup_append.mpr ⟨n1, n2, fun a ha c hc e => dj c hc (e ▸ ha)⟩)).mpr fun a => ?_
    rw [List.mem_filter, List.mem_range, decide_eq_true_iff, List.mem_append]
    exact ⟨fun z => z.2, fun z => ⟨z.elim (h1 a) (h2 a), z⟩⟩
  rw [p.length_eq, List.length_append]
/-- t turns of the next block -/
theorem fold_turns {n : Nat} (hn : 1 ≤ n) {D b : List Nat} {S : Sys} {g : List Nat} (A : Ahead n D S g) (hb : ∀ c ∈ b, c < n) (nd : b.Nodup) (dj : ∀ c ∈ b, c ∉ D) (hm : 1 ≤ b.length) : ∀ t : Nat, t ≤ n + 1 - (D.length + b.length) →
    fold n (S, g) (List.replicate t (turnOf n b)).flatten = (fun j => if j ∈ b ∧ 0 < t then ⟨(n : Int) + 1 - t, t * (n + 1), both n D b⟩ else S j, if t = n + 1 - (D.length + b.length) ∧ 0 < t then g ++ b else g)
  | 0, _ => by
    unfold fold
    simp
  | t + 1, ht => by
    have ih := fold_turns hn A hb nd dj hm t (by omega)
    have hs := len_both A.sub hb A.nd nd dj
    have e0 : ¬ (t = n + 1 - (D.length + b.length) ∧ 0 < t) := fun z => by omega
    rw [if_neg e0] at ih
    have ef : (List.replicate (t + 1) (turnOf n b)).flatten = (List.replicate t (turnOf n b)).flatten ++ turnOf n b := by
      rw [List.replicate_succ', List.flatten_append]
      simp
    rw [ef, fold_append, ih]
    have hbg : ∀ c ∈ b, c ∉ g := fun c hc z => dj c hc ((A.mem c).mp z)
    have st : ∀ c ∈ b, (if c ∈ b ∧ 0 < t then (⟨(n : Int) + 1 - t, t * (n + 1), both n D b⟩ : NS) else S c).lev = (n : Int) + 1 - t ∧ (if c ∈ b ∧ 0 < t then (⟨(n : Int) + 1 - t, t * (n + 1), both n D b⟩ : NS) else S c).cnt = t * (n + 1) := fun c hc => by
      by_cases h0 : 0 < t
      · rw [if_pos ⟨hc, h0⟩]
        exact ⟨rfl, rfl⟩
      · rw [if_neg fun z => h0 z.2, A.new c (hb c hc) (dj c hc)]
        have : t = 0 := by omega
        subst this
        exact ⟨by simp, by simp⟩
    have r := fold_turn (n := n) hn ((n : Int) + 1 - ((t + 1 : Nat) : Int)) (b := b) (S := fun j => if j ∈ b ∧ 0 < t then ⟨(n : Int) + 1 - t, t * (n + 1), both n D b⟩ else S j) (g := g) (F := both n D b) nd (fun c hc => by
        obtain ⟨q1, q2⟩ := st c hc
        refine ⟨hbg c hc, ?_, ?_⟩
        · try dsimp only
          rw [q2]
          exact Nat.mul_mod_left _ _
        · try dsimp only
          rw [q1]
          omega) (by
        unfold both
        refine List.filter_congr fun j hj => decide_eq_decide.mpr ?_
        have hjn := List.mem_range.mp hj
        by_cases hjb : j ∈ b
        · exact ⟨fun _ => .inl hjb, fun _ => .inr hjb⟩
        · try dsimp only
          rw [if_neg fun z => hjb z.1]
          by_cases hjD : j ∈ D
          · have := A.low j hjD
            exact ⟨fun _ => .inr (by omega), fun _ => .inl hjD⟩
          · rw [A.new j hjn hjD]
            constructor
            · rintro (z | z)
              · exact absurd z hjD
              · exact absurd z hjb
            · rintro (z | z)
              · exact absurd z hjb
              · have z : (n : Int) + 1 ≤ (n : Int) + 1 - ((t + 1 : Nat) : Int) := z
                omega)
    rw [r]
    congr 1
    · funext j
      by_cases hj : j ∈ b
      · rw [if_pos hj, (st j hj).2, if_pos (show j ∈ b ∧ 0 < t + 1 from ⟨hj, Nat.succ_pos t⟩), Nat.succ_mul]
      · rw [if_neg hj, if_neg (show ¬ (j ∈ b ∧ 0 < t) from fun z => hj z.1), if_neg (show ¬ (j ∈ b ∧ 0 < t + 1) from fun z => hj z.1)]
    · rw [hs]
      by_cases h : t + 1 = n + 1 - (D.length + b.length)
      · rw [if_pos (show t + 1 = n + 1 - (D.length + b.length) ∧ 0 < t + 1 from ⟨h, Nat.succ_pos t⟩), if_pos (by omega)]
      · rw [if_neg (show ¬ (t + 1 = n + 1 - (D.length + b.length) ∧ 0 < t + 1) from fun z => h z.1), if_neg (by omega)]
end K7M
namespace K7M
/-- the told schedule of blocks, s0 names ahead of them -/
def told (n : Nat) : Nat → List (List Nat) → List Nat
  | _, [] => []
  | s0, b :: bs => (List.replicate (n + 1 - (s0 + b.length)) (turnOf n b)).flatten ++ told n (s0 + b.length) bs
/-- the looks that are due -/
def dueOf (n : Nat) : List Nat → List (List Nat) → List (Nat × List Nat)
  | _, [] => []
  | D, b :: bs => b.map (fun c => (c, both n D b)) ++ dueOf n (D ++ b) bs
/-- blocks that may be told behind the names D -/
structure Told (n : Nat) (D : List Nat) (bs : List (List Nat)) : Prop where
  ne : ∀ b ∈ bs, 1 ≤ b.length
  sub : ∀ b ∈ bs, ∀ c ∈ b, c < n
  nd : (D ++ bs.flatten).Nodup
theorem Told.tail {n : Nat} {D b : List Nat} {bs : List (List Nat)} (T : Told n D (b :: bs)) : Told n (D ++ b) bs :=
  ⟨fun x hx => T.ne x (List.mem_cons_of_mem _ hx), fun x hx => T.sub x (List.mem_cons_of_mem _ hx), by
    have := T.nd
    rw [List.flatten_cons, ← List.append_assoc] at this
    exact this⟩
theorem Told.head {n : Nat} {D b : List Nat} {bs : List (List Nat)} (T : Told n D (b :: bs)) : b.Nodup ∧ ∀ c ∈ b, c ∉ D := by
  have h := T.tail.nd
  have h1 := (List.nodup_append.mp h).1
  obtain ⟨_, h2, h3⟩ := List.nodup_append.mp h1
  exact ⟨h2, fun c hc z => h3 c z c hc rfl⟩
theorem due_mem {n : Nat} : ∀ (bs : List (List Nat)) (D : List Nat) (c : Nat) (x : List Nat), (c, x) ∈ dueOf n D bs → c ∈ bs.flatten
  | [], _, _, _, h => by cases h
  | b :: bs, D, c, x, h => by
    rw [List.flatten_cons]
    rcases List.mem_append.mp h with h | h
    · obtain ⟨d, hd, e⟩ := List.mem_map.mp h
      cases e
      exact List.mem_append_left _ hd
    · exact List.mem_append_right _ (due_mem bs (D ++ b) c x h)
theorem fold_told {n : Nat} (hn : 1 ≤ n) : ∀ (bs : List (List Nat)) (D : List Nat) (S : Sys) (g : List Nat), Ahead n D S g → Told n D bs →
    ∃ S', fold n (S, g) (told n D.length bs) = (S', g ++ bs.flatten) ∧ Ahead n (D ++ bs.flatten) S' (g ++ bs.flatten) ∧ (∀ c, c ∉ bs.flatten → S' c = S c) ∧
      ∀ c x, (c, x) ∈ dueOf n D bs → S' c = ⟨x.length, (n + 1 - x.length) * (n + 1), x⟩ ∧ x.length ≤ n ∧ D.length < x.length
  | [], D, S, g, A, _ => ⟨S, by unfold fold told; simp, by simpa using A, fun _ _ => rfl, fun c x h => by cases h⟩
  | b :: bs, D, S, g, A, T => by
    obtain ⟨nd, dj⟩ := T.head
    have hb := T.sub b (List.mem_cons_self ..)
    have hm := T.ne b (List.mem_cons_self ..)
    have hlen := len_both A.sub hb A.nd nd dj
    have hle : D.length + b.length ≤ n := by
      rw [← hlen]
      have := List.length_filter_le (fun j => decide (j ∈ D ∨ j ∈ b)) (List.range n)
      rw [List.length_range] at this
      exact this
    have r := fold_turns hn A hb nd dj hm (n + 1 - (D.length + b.length)) (Nat.le_refl _)
    rw [if_pos (show n + 1 - (D.length + b.length) = n + 1 - (D.length + b.length) ∧ 0 < n + 1 - (D.length + b.length) from ⟨rfl, by omega⟩)] at r
    generalize hS1 : (fun j => if j ∈ b ∧ 0 < n + 1 - (D.length + b.length) then (⟨(n : Int) + 1 - ((n + 1 - (D.length + b.length) : Nat) : Int), (n + 1 - (D.length + b.length)) * (n + 1), both n D b⟩ : NS) else S j) = S1 at r
    have inb : ∀ c ∈ b, S1 c = ⟨(both n D b).length, (n + 1 - (both n D b).length) * (n + 1), both n D b⟩ := fun c hc => by
      rw [← hS1]
      dsimp only
      rw [if_pos ⟨hc, by omega⟩, hlen]
      have : (n : Int) + 1 - ((n + 1 - (D.length + b.length) : Nat) : Int) = ((D.length + b.length : Nat) : Int) := by omega
      rw [this]
    have outb : ∀ c, c ∉ b → S1 c = S c := fun c hc => by
      rw [← hS1]
      dsimp only
      rw [if_neg fun z => hc z.1]
    have A1 : Ahead n (D ++ b) S1 (g ++ b) := by
      refine ⟨fun c hc => ?_, (List.nodup_append.mp T.tail.nd).1, fun c => ?_, fun c hc => ?_, fun c hc hcD => ?_⟩
      · rcases List.mem_append.mp hc with h | h
        · exact A.sub c h
        · exact hb c h
      · rw [List.mem_append, List.mem_append, A.mem c]
      · rw [List.length_append]
        by_cases h : c ∈ b
        · rw [inb c h, hlen]
          exact Int.le_refl _
        · rw [outb c h]
          have := A.low c ((List.mem_append.mp hc).resolve_right h)
          omega
      · have h1 : c ∉ D := fun z => hcD (List.mem_append_left _ z)
        have h2 : c ∉ b := fun z => hcD (List.mem_append_right _ z)
        rw [outb c h2]
        exact A.new c hc h1
    obtain ⟨S', e, A', o', d'⟩ := fold_told hn bs (D ++ b) S1 (g ++ b) A1 T.tail
    have hdis : ∀ c ∈ b, c ∉ bs.flatten := fun c hc z => (List.nodup_append.mp T.tail.nd).2.2 c (List.mem_append_right _ hc) c z rfl
    refine ⟨S', ?_, ?_, fun c hc => ?_, fun c x h => ?_⟩
    · show fold n (S, g) (_ ++ told n (D.length + b.length) bs) = _
      rw [fold_append, r, ← List.length_append, e, List.flatten_cons, List.append_assoc]
    · rw [List.flatten_cons, ← List.append_assoc, ← List.append_assoc]
      exact A'
    · rw [List.flatten_cons, List.mem_append] at hc
      rw [o' c fun z => hc (.inr z), outb c fun z => hc (.inl z)]
    · rcases List.mem_append.mp h with h | h
      · obtain ⟨d, hd, ed⟩ := List.mem_map.mp h
        obtain ⟨rfl, rfl⟩ := Prod.mk.inj ed
        rw [o' _ (hdis _ hd), inb _ hd]
        exact ⟨rfl, by omega, by omega⟩
      · obtain ⟨q1, q2, q3⟩ := d' c x h
        rw [List.length_append] at q3
        exact ⟨q1, q2, by omega⟩
theorem ahead_init (n : Nat) : Ahead n [] (init n) [] := ⟨fun c h => (by cases h), List.nodup_nil, fun c => Iff.rfl, fun c h => (by cases h), fun c _ _ => rfl⟩
/-- the run of a told schedule -/
theorem run_told {n : Nat} (hn : 1 ≤ n) {bs : List (List Nat)} (T : Told n [] bs) : (runN n (told n 0 bs)).2 = bs.flatten ∧ (∀ c, c ∉ bs.flatten → (runN n (told n 0 bs)).1 c = init n c) ∧
    ∀ c x, (c, x) ∈ dueOf n [] bs → (runN n (told n 0 bs)).1 c = ⟨x.length, (n + 1 - x.length) * (n + 1), x⟩ := by
  obtain ⟨S', e, A, o, d⟩ := fold_told hn bs [] (init n) [] (ahead_init n) T
  have e : runN n (told n 0 bs) = (S', bs.flatten) := by
    have := e
    rw [List.nil_append] at this
    exact this
  rw [e]
  exact ⟨rfl, o, fun c x h => (d c x h).1⟩
end K7M
namespace K7M
theorem runS_grow {n : Nat} {p : Sys × List Nat} {i c : Nat} (h : c ∈ p.2) : c ∈ (runS n p i).2 := by
  unfold runS
  split
  · exact h
  · dsimp only
    split
    · exact List.mem_append_left _ h
    · exact h
theorem runS_cnt {n : Nat} {p : Sys × List Nat} {i c : Nat} : (p.1 c).cnt ≤ ((runS n p i).1 c).cnt := by
  unfold runS
  split
  · exact Nat.le_refl _
  · dsimp only
    by_cases h : c = i
    · subst h
      rw [cnt_put]
      exact Nat.le_succ _
    · rw [put_ne _ _ h]
      exact Nat.le_refl _
theorem runS_leave {n : Nat} {p : Sys × List Nat} {i c : Nat} (h : c ∉ p.2) (h2 : c ∈ (runS n p i).2) : (p.1 c).cnt + 1 ≤ ((runS n p i).1 c).cnt := by
  unfold runS at h2 ⊢
  by_cases hi : i ∈ p.2
  · rw [if_pos hi] at h2
    exact absurd h2 h
  · rw [if_neg hi] at h2 ⊢
    dsimp only at h2 ⊢
    have e : c = i := by
      by_cases hv : lvs n p.1 i = true
      · rw [if_pos hv] at h2
        rcases List.mem_append.mp h2 with z | z
        · exact absurd z h
        · exact List.mem_singleton.mp z
      · rw [if_neg hv] at h2
        exact absurd h2 h
    subst e
    rw [cnt_put]
    exact Nat.le_refl _
theorem runS_step {n : Nat} {p : Sys × List Nat} {i c : Nat} (h : c ∉ p.2) : ((runS n p i).1 c).cnt = (p.1 c).cnt + if i = c then 1 else 0 := by
  unfold runS
  by_cases hi : i ∈ p.2
  · rw [if_pos hi, if_neg (show ¬ i = c from fun z => h (z ▸ hi))]
    rfl
  · rw [if_neg hi]
    dsimp only
    by_cases e : i = c
    · subst e
      rw [cnt_put, if_pos rfl]
    · rw [put_ne _ _ (Ne.symm e), if_neg e]
      rfl
theorem fold_grow {n : Nat} {c : Nat} : ∀ (ks : List Nat) (p : Sys × List Nat), c ∈ p.2 → c ∈ (ks.foldl (runS n) p).2
  | [], _, h => h
  | i :: ks, p, h => fold_grow ks _ (runS_grow h)
theorem fold_cnt {n : Nat} {c : Nat} : ∀ (ks : List Nat) (p : Sys × List Nat), (p.1 c).cnt ≤ ((ks.foldl (runS n) p).1 c).cnt
  | [], _ => Nat.le_refl _
  | i :: ks, p => Nat.le_trans runS_cnt (fold_cnt ks _)
theorem fold_leave {n : Nat} {c : Nat} : ∀ (ks : List Nat) (p : Sys × List Nat), c ∉ p.2 → c ∈ (ks.foldl (runS n) p).2 → (p.1 c).cnt + 1 ≤ ((ks.foldl (runS n) p).1 c).cnt
  | [], _, h, h2 => absurd h2 h
  | i :: ks, p, h, h2 => by
    by_cases hc : c ∈ (runS n p i).2
    · exact Nat.le_trans (runS_leave h hc) (fold_cnt ks _)
    · exact Nat.le_trans (Nat.succ_le_succ runS_cnt) (fold_leave ks _ hc h2)
theorem fold_count {n : Nat} {c : Nat} : ∀ (ks : List Nat) (p : Sys × List Nat), c ∉ (ks.foldl (runS n) p).2 → ((ks.foldl (runS n) p).1 c).cnt = (p.1 c).cnt + ks.count c
  | [], _, _ => rfl
  | i :: ks, p, h => by
    have h1 : c ∉ (runS n p i).2 := fun z => h (fold_grow ks _ z)
    have h0 : c ∉ p.2 := fun z => h1 (runS_grow z)
    have e := fold_count ks _ h
    rw [List.foldl_cons, e, runS_step h0, List.count_cons]
    by_cases hc : i = c
    · subst hc; simp; omega
    · have : (i == c) = false := by simpa using hc
      rw [if_neg hc, this]
      simp
/-- as many steps as c takes in all: c has left -/
theorem gone_by_count {n : Nat} {ks : List Nat} {c i : Nat} (h : c ∈ (runN n ks).2) (hm : ((runN n ks).1 c).cnt ≤ (ks.take i).count c) : c ∈ (runN n (ks.take i)).2 := by
  by_cases hc : c ∈ (runN n (ks.take i)).2
  · exact hc
  · exfalso
    have e : runN n ks = (ks.drop i).foldl (runS n) (runN n (ks.take i)) := by
      unfold runN
      rw [← List.foldl_append, List.take_append_drop]
    have h1 := fold_count (ks.take i) (init n, []) hc
    have h2 := fold_leave (ks.drop i) (runN n (ks.take i)) hc (e ▸ h)
    rw [← e] at h2
    have h3 : ((runN n (ks.take i)).1 c).cnt = (init n c).cnt + (ks.take i).count c := h1
    have h4 : (init n c).cnt = 0 := rfl
    omega
/-- w is ks with steps put in by those who have left -/
inductive Wov (n : Nat) : List Nat → List Nat → Prop
  | nil : Wov n [] []
  | step {w ks : List Nat} {c : Nat} : Wov n w ks → Wov n (w ++ [c]) (ks ++ [c])
  | more {w ks : List Nat} {c : Nat} : Wov n w ks → c ∈ (runN n ks).2 → Wov n (w ++ [c]) ks
theorem wov_run {n : Nat} {w ks : List Nat} (h : Wov n w ks) : runN n w = runN n ks := by
  induction h with
  | nil => rfl
  | step _ ih => rw [runN_snoc, runN_snoc, ih]
  | @more w ks c _ hc ih =>
    rw [runN_snoc, ih]
    unfold runS
    rw [if_pos hc]
end K7M
namespace K8
open PySem L2 Er
def top (i : Nat) : Stmt := PySem.Challenge.pw_nowaittasks_k08_told_steps_each_row_come.main.body.getD i (.Pass ⟨0, 0, 0, 0⟩)
abbrev sIsInteger : Stmt := top 7
abbrev sIsNatural : Stmt := top 8
abbrev sIsRow : Stmt := top 9
abbrev sCheckSize : Stmt := top 14
abbrev sCheckSchedule : Stmt := top 16
abbrev sLevelsRun : Stmt := top 17
abbrev sLevelsBlocks : Stmt := top 18
abbrev sDrawn : Stmt := top 22
abbrev sTake : Stmt := top 23
abbrev sInt : Stmt := top 24
abbrev mInit : Stmt := inClass (top 15) 0
abbrev mWrote : Stmt := inClass (top 15) 1
abbrev mGone : Stmt := inClass (top 15) 2
abbrev mStep : Stmt := inClass (top 15) 3
abbrev mLevel : Stmt := inClass (top 15) 4
abbrev mTaken : Stmt := inClass (top 15) 5
abbrev mCheck : Stmt := inClass (top 15) 6
abbrev mReadCell : Stmt := inClass (top 15) 7

theorem sm_ty {K : PySem.W.Frag} {H : Hp} {v : V} {n : String} (h : Sm K H v n) : TyX K H v (.type n) := by
  cases h with
  | non => exact .base .non
  | bl b => exact .base (.bl b)
  | int i => exact .base (.int i)
  | str x => exact .base (.str x)
  | @lst a xs h =>
    rcases h with (h | ⟨o, h⟩) | ⟨o, its, n, h1, h2, _⟩
    · exact .base (.lst h)
    · exact .base (.frz h)
    · exact .kList h1 h2
  | @tup a xs h =>
    rcases h with (h | ⟨o, h⟩) | ⟨o, its, n, h1, h2, _⟩
    · exact .base (.tup h)
    · exact .fTuple h
    · exact .kTuple h1 h2
theorem same_t {K : PySem.W.Frag} {H H' : Hp} {a : Addr} {xs : List V} (e : Same H H') (h : SqT K H a xs) : SqT K H' a xs := by
  rcases h with (h | ⟨o, h⟩) | h
  · exact .inl (.inl (e _ _ h))
  · exact .inl (.inr ⟨o, e _ _ h⟩)
  · exact .inr h
theorem sm_ext {K : PySem.W.Frag} {H H' : Hp} {v : V} {n : String} (e : Same H H') (h : Sm K H v n) : Sm K H' v n := by
  cases h with
  | non => exact .non
  | bl b => exact .bl b
  | int i => exact .int i
  | str x => exact .str x
  | lst h => exact .lst (e.seq h)
  | tup h => exact .tup (same_t e h)
theorem same_new {H : Hp} {p : Addr} {o : HO} (h : H p = none) : Same H (upd H p o) := fun b u z => by
  rw [upd_ne (ne_of_none z h)]
  exact z
def isI : V → Bool
  | .int _ => true
  | _ => false
def isN : V → Bool
  | .int i => decide (0 ≤ i)
  | _ => false
/-- is_integer, is_natural, is_row: a bool of any thing -/
def spThing (K : PySem.W.Frag) (r : V → String → Bool) : Sp := fun vs H Q _ => ∃ v n, vs = [v] ∧ Sm K H v n ∧ ∀ H', Same H H' → Q (.bl (r v n)) H'

section
variable {P : Program} {w : World} {K : PySem.W.Frag} {mg : Str → Option Value} {base : Heap}
theorem fok {x qual : Str} {st : Stmt} {f : Addr} {fd : FuncData} {ps : List Str} {k : Nat} {sp : Sp} (F : Fun K x qual st f fd) (hm : mg x = some (.ref f)) (b : Binds K fd ps []) (h : FnOk P w K mg base (L2.CX P w) k f fd ps sp) : Fok P w K mg base k x ps sp := ⟨f, fd, hm, F.kp, b, h⟩
theorem scIsInteger : FnScope ["thing"] ["thing"] (defScope sIsInteger) := ⟨rfl, rfl, rfl, by decide +kernel, rfl, by decide +kernel, by decide +kernel⟩
theorem ok_is_integer {f : Addr} {fd : FuncData} (F : Fun K "is_integer" "is_integer" sIsInteger f fd) (m1 : mg "isinstance" = none) (m2 : mg "int" = none) (m3 : mg "bool" = none) :
    FnOk P w K mg base (L2.CX P w) 1 f fd ["thing"] (spThing K fun v _ => isI v) := by
  refine F.okX scIsInteger (fun vs H Q E h => ?_) (fun cdv A outer s H vs Q E hr h => ?_)
  · obtain ⟨v, n, rfl, _⟩ := h
    rfl
  · obtain ⟨v, n, rfl, hS, k⟩ := h
    refine ⟨_, pss_one (ps_ret (pe_and (pe_callB call_isi (by rfl) m1 (by decide +kernel) (pa_cons (pv 0) (pa_cons (pe_bltn (v := .ty "int") (u := .type "int") (by rfl) m2 (by decide +kernel) rfl) pa_nil)))
      (pe_one (pe_not (pe_callB call_isi (by rfl) m1 (by decide +kernel) (pa_cons (pv 0) (pa_cons (pe_bltn (v := .ty "bool") (u := .type "bool") (by rfl) m3 (by decide +kernel) rfl) pa_nil))))))), ?_⟩
    refine ⟨_, rfl, v, .ty "int", .type n, .type "int", _, rfl, .ty _, sm_ty hS, kit_ty (r := n == "int" || n == "bool") (by cases hS <;> decide +kernel), _, rfl, ?_⟩
    cases hS with
    | non | str | lst | tup =>
      exact k H (Same.refl H)
    | bl b =>
      exact ⟨_, rfl, .bl b, .ty "bool", .type "bool", .type "bool", true, rfl, .ty _, sm_ty (.bl b), kit_ty (by decide +kernel), _, rfl, k H (Same.refl H)⟩
    | int i =>
      exact ⟨_, rfl, .int i, .ty "bool", .type "int", .type "bool", false, rfl, .ty _, sm_ty (.int i), kit_ty (by decide +kernel), _, rfl, k H (Same.refl H)⟩
theorem scIsNatural : FnScope ["thing"] ["thing"] (defScope sIsNatural) := ⟨rfl, rfl, rfl, by decide +kernel, rfl, by decide +kernel, by decide +kernel⟩
theorem ok_is_natural {f : Addr} {fd : FuncData} (F : Fun K "is_natural" "is_natural" sIsNatural f fd) (D1 : Fok P w K mg base 1 "is_integer" ["thing"] (spThing K fun v _ => isI v)) :
    FnOk P w K mg base (L2.CX P w) 2 f fd ["thing"] (spThing K fun v _ => isN v) := by
  refine F.okX scIsNatural (fun vs H Q E h => ?_) (fun cdv A outer s H vs Q E hr h => ?_)
  · obtain ⟨v, n, rfl, _⟩ := h
    rfl
  · obtain ⟨v, n, rfl, hS, k⟩ := h
    refine ⟨_, pss_one (ps_ret (pe_and (pe_f D1 hr (pa_cons (pv 0) pa_nil)) (pe_one (pe_cmpR op_ge (pv 0) pe_int (nomark _))))), ?_⟩
    refine ⟨_, rfl, _, _, rfl, hS, fun H1 s1 => ⟨_, rfl, ?_⟩⟩
    cases hS with
    | non | str | lst | tup | bl => exact k H1 s1
    | int i => exact ⟨_, rfl, _, _, rfl, rfl, k H1 s1⟩
theorem scIsRow : FnScope ["thing"] ["thing"] (defScope sIsRow) := ⟨rfl, rfl, rfl, by decide +kernel, rfl, by decide +kernel, by decide +kernel⟩
theorem ok_is_row {f : Addr} {fd : FuncData} (F : Fun K "is_row" "is_row" sIsRow f fd) (m1 : mg "isinstance" = none) (m2 : mg "list" = none) (m3 : mg "tuple" = none) :
    FnOk P w K mg base (L2.CX P w) 1 f fd ["thing"] (spThing K fun _ n => n == "list" || n == "tuple") := by
  refine F.okX scIsRow (fun vs H Q E h => ?_) (fun cdv A outer s H vs Q E hr h => ?_)
  · obtain ⟨v, n, rfl, _⟩ := h
    rfl
  · obtain ⟨v, n, rfl, hS, k⟩ := h
    refine ⟨_, pss_one (ps_ret (pe_callB call_isiT (by rfl) m1 (by decide +kernel) (pa_cons (pv 0) (pa_cons
      (pe_tup (pa_cons (pe_bltn (v := .ty "list") (u := .type "list") (by rfl) m2 (by decide +kernel) rfl) (pa_cons (pe_bltn (v := .ty "tuple") (u := .type "tuple") (by rfl) m3 (by decide +kernel) rfl) pa_nil))) pa_nil)))), ?_⟩
    refine ⟨_, rfl, by show 2 ≤ sizeLine; decide, fun p hp => ?_⟩
    refine ⟨v, p, _, .type n, [.type "list", .type "tuple"], n == "list" || n == "tuple", rfl, upd_same, .cons (.ty _) (.cons (.ty _) .nil), sm_ty (sm_ext (same_new hp) hS), ?_, k _ (same_new hp)⟩
    cases hS <;> first
      | exact kitAny_cons (b := true) (kit_ty (by decide +kernel)) (fun z => by cases z) (fun _ => rfl)
      | exact kitAny_cons (b := false) (kit_ty (by decide +kernel)) (fun _ => kitAny_cons (b := true) (kit_ty (by decide +kernel)) (fun z => by cases z) (fun _ => rfl)) (fun z => by cases z)
      | exact kitAny_cons (b := false) (kit_ty (by decide +kernel)) (fun _ => kitAny_cons (b := false) (kit_ty (by decide +kernel)) (fun _ => kitAny_nil) (fun z => by cases z)) (fun z => by cases z)
end
/-! ### checks that raise -/
/-- the classes of errors of this text -/
structure Errs (P : Program) (w : World) (K : PySem.W.Frag) (mg : Str → Option Value) (CN CB : Addr) : Prop where
  nm : ∃ fI, XC K CN fI "name" ∧ InitRun P w K mg CN fI "name" (fun _ => True)
  nb : ∃ fI, XC K CB fI "word" ∧ InitRun P w K mg CB fI "word" (fun u => ∃ x t, u = .str x t ∧ x.length ≤ 1000)
  gN : mg "BadName" = some (.ref CN)
  gB : mg "BadNumber" = some (.ref CB)
/-- C(v) is raised: the error's dict holds f = v -/
def rsd (C : Addr) (f : Str) (v : V) (H : Hp) (E : XK) : Prop := ∀ d H', Same H H' → H' d = some (.xd [(f, v)]) → E (.ref C) (some d) H'
def okSize : V → Bool
  | .int i => decide (1 ≤ i ∧ i ≤ 6)
  | _ => false
def spCheckSize (K : PySem.W.Frag) (CB : Addr) : Sp := fun vs H Q E => ∃ v n, vs = [v] ∧ Sm K H v n ∧ (okSize v = true → ∀ H', Same H H' → Q .non H') ∧ (okSize v = false → rsd CB "word" (.str "size") H E)
section
variable {P : Program} {w : World} {K : PySem.W.Frag} {mg : Str → Option Value} {base : Heap} {CN CB : Addr}
theorem rsd_new {C : Addr} {f : Str} {v : V} {H H1 : Hp} {E : XK} {d : Addr} (r : rsd C f v H E) (s : Same H H1) (hd : H1 d = none) : E (.ref C) (some d) (upd H1 d (.xd [(f, v)])) := r d _ (s.trans (same_new hd)) upd_same
theorem scCheckSize : FnScope ["size"] ["size"] (defScope sCheckSize) := ⟨rfl, rfl, rfl, by decide +kernel, rfl, by decide +kernel, by decide +kernel⟩
theorem ok_check_size {f : Addr} {fd : FuncData} (F : Fun K "check_level_size" "check_level_size" sCheckSize f fd) (T : Errs P w K mg CN CB) {tm : Tok} (m1 : mg "MOST_SIZE" = some (.int 6 tm)) (D1 : Fok P w K mg base 1 "is_integer" ["thing"] (spThing K fun v _ => isI v)) :
    FnOk P w K mg base (L2.CX P w) 3 f fd ["size"] (spCheckSize K CB) := by
  refine F.okX scCheckSize (fun vs H Q E h => ?_) (fun cdv A outer s H vs Q E hr h => ?_)
  · obtain ⟨v, n, rfl, _⟩ := h
    rfl
  · obtain ⟨v, n, rfl, hS, ky, kn⟩ := h
    obtain ⟨fI, TB, RB⟩ := T.nb
    refine ⟨_, pss_one (ps_if (PW.pt (pw_or (pt_not (pt_val (pe_f D1 (hr.mono (by decide)) (pa_cons (pv 0) pa_nil)))) (pw_or (pt_cmpR op_lt (pv 0) pe_int (nomark _)) (pw_or1 (pt_cmpR op_gt (pv 0) (pe_glob (v := .int 6) (by rfl) m1 ⟨_, rfl⟩) (nomark _))))))
      (pss_one (ps_raise rfl (takes_of rfl rfl rfl rfl) (pmk_er (okV := fun v => ∃ x : Str, v = .str x ∧ x.length ≤ 1000) TB RB (fun v u r hv => by obtain ⟨x, rfl, hl⟩ := hv; obtain ⟨t, rfl⟩ := r; exact ⟨x, t, rfl, hl⟩) hr (by rfl) T.gB (pa_cons pe_str pa_nil)))) pss_nil), ?_⟩
    refine ⟨_, rfl, _, _, rfl, hS, fun H1 s1 => ⟨_, rfl, ?_⟩⟩
    have bad : okSize v = false → ∃ v', [V.str "size"] = [v'] ∧ (∃ x : Str, v' = V.str x ∧ x.length ≤ 1000) ∧ ∀ dx, H1 dx = none → E (.ref CB) (some dx) (upd H1 dx (.xd [("word", v')])) :=
      fun h => ⟨_, rfl, ⟨_, rfl, by decide⟩, fun d hd => rsd_new (kn h) s1 hd⟩
    cases hS with
    | non | str | lst | tup | bl => exact bad rfl
    | int i =>
      refine ⟨_, rfl, _, _, rfl, rfl, _, rfl, ?_⟩
      refine ite2 (fun h1 => bad ?_) fun h1 => ?_
      · show decide (1 ≤ i ∧ i ≤ 6) = false
        have h1 := of_decide_eq_true h1
        exact decide_eq_false (by omega)
      refine ⟨_, rfl, _, _, rfl, rfl, _, rfl, ?_⟩
      refine ite2 (fun h2 => bad ?_) fun h2 => ?_
      · show decide (1 ≤ i ∧ i ≤ 6) = false
        have h2 := of_decide_eq_true h2
        exact decide_eq_false (by omega)
      have h1 : ¬ i < 1 := fun z => h1 (decide_eq_true z)
      have h2 : ¬ 6 < i := fun z => h2 (decide_eq_true z)
      exact ky (decide_eq_true (by omega)) H1 s1
end
end K8
namespace K8
open PySem L2 Er
/-- one step of a plain reading -/
local macro_rules | `(tactic| walk_at "step") => `(tactic| first
  | with_reducible refine r_seq ?_ | with_reducible refine r_nx ?_ | with_reducible refine r_asgN ?_ | with_reducible refine r_asgS ?_ | with_reducible refine r_asgT ?_ | with_reducible refine r_ifS ?_
  | with_reducible refine r_ret ?_ | with_reducible refine r_retN ?_ | with_reducible refine r_drop ?_ | with_reducible refine r_test ?_ | with_reducible refine r_B ?_ | with_reducible refine r_not ?_
  | with_reducible refine r_and ?_ | with_reducible refine r_or ?_ | with_reducible refine r_andV ?_ | with_reducible refine r_orV ?_ | with_reducible refine r_notV ?_
  | ((with_reducible refine' r_var ?e ?_); (case e => exact rfl)) | with_reducible refine r_c ?_ | with_reducible refine r_op ?_ | with_reducible refine r_un ?_
  | with_reducible refine r_I0 ?_ | with_reducible refine r_eqI ?_ | with_reducible refine r_neI ?_ | with_reducible refine r_bl ?_ | with_reducible refine r_nil ?_ | with_reducible refine r_cons ?_
  | with_reducible refine r_cb ?_ | with_reducible refine r_call ?_ | with_reducible refine r_tup ?_ | with_reducible refine r_lst ?_ | with_reducible refine r_fld ?_ | with_reducible refine r_bm ?_ | with_reducible refine r_bm0 ?_
  | with_reducible refine r_for ?_ | with_reducible refine r_rng ?_ | with_reducible refine r_rng2 ?_ | with_reducible refine r_lstI ?_ | with_reducible refine r_tupI ?_ | with_reducible refine r_lc ?_
  | with_reducible refine r_augS ?_ | with_reducible refine r_ipI ?_
  | with_reducible refine r_meth ?_ | with_reducible refine r_prop ?_ | with_reducible refine r_make ?_ | with_reducible refine r_din ?_ | with_reducible refine r_dnin ?_ | with_reducible refine r_dput ?_ | with_reducible refine r_dget ?_
  | with_reducible refine r_gN ?_ | with_reducible refine r_tsl ?_ | with_reducible refine r_noP ?_ | with_reducible refine r_part ?_ | with_reducible refine r_pI ?_ | with_reducible refine r_tif ?_ | with_reducible refine r_SL ?_ | with_reducible refine r_gC ?_ | with_reducible refine r_U ?_ | with_reducible refine r_sfld ?_ | with_reducible refine r_dnew ?_ | with_reducible refine r_keys ?_
  | with_reducible refine r_mkE ?_ | with_reducible refine iteT ?_ | with_reducible refine iteF ?_
  | with_reducible refine r_int ?_ | with_reducible refine r_min2 ?_ | with_reducible refine r_isN ?_ | with_reducible refine r_notN ?_)
/-- as far as it goes by itself -/
local macro_rules | `(tactic| walk_at "go") => `(tactic| ((repeat walk_at "step"); (try dsimp only)))

/-- all but the object at a stands as before -/
def SameBut (a : Addr) (H H' : Hp) : Prop := ∀ b o, b ≠ a → H b = some o → H' b = some o
/-- the drawn numbers: a list of ints at a -/
def spTake : Sp := fun vs H Q _ => ∃ (a : Addr) (ns : List Int) (m : Int), vs = [.ref a, .int m] ∧ H a = some (.lst (ns.map V.int)) ∧ ns.length ≤ 100000 ∧ 0 < m ∧
  ∀ (r : Int) (ns' : List Int) (H' : Hp), 0 ≤ r → r < m → ns'.length ≤ ns.length → H' a = some (.lst (ns'.map V.int)) → SameBut a H H' → Q (.int r) H'
section
variable {P : Program} {w : World} {K : PySem.W.Frag} {mg : Str → Option Value} {base : Heap} {CN CB : Addr}
theorem scTake : FnScope ["_law_found", "_law_many"] ["_law_found", "_law_many"] (defScope sTake) := ⟨rfl, rfl, rfl, by decide +kernel, rfl, by decide +kernel, by decide +kernel⟩
theorem ok_take {f : Addr} {fd : FuncData} (F : Fun K "_law_take" "_law_take" sTake f fd) (m1 : mg "len" = none) (m2 : mg "int" = none) : FnOk P w K mg base (L2.CX P w) 1 f fd ["_law_found", "_law_many"] spTake := by
  refine F.okX scTake (fun vs H Q E h => ?_) (fun cdv A outer s H vs Q E hr h => ?_)
  · obtain ⟨a, ns, m, rfl, _⟩ := h
    rfl
  · obtain ⟨a, ns, m, rfl, ha, hl, hm, k⟩ := h
    refine ⟨_, pss_cons (ps_if (pt_cmpR op_eq (pe_callB c_len (by rfl) m1 PySem.boot_len (pa_cons (pv 0) pa_nil)) pe_int (nomark _)) (pss_one (ps_ret pe_int)) pss_nil)
      (pss_one (ps_ret (pe_op op_mod (pe_callTy c_int (by rfl) m2 (by decide +kernel) (pa_cons (pe_bm0 PySem.F.plainAttrs_list PySem.F.slot_list_pop PySem.F.type_list_pop mt_pop (pv 0)) pa_nil)) (pv 1)))), ?_⟩
    walk_at "go"
    refine r_lenL (SqL.of ha) ?_
    walk_at "go"
    refine ite2 (fun h1 => k 0 ns H (Int.le_refl _) hm (Nat.le_refl _) ha fun b o _ z => z) fun h1 => ?_
    have hne : ns ≠ [] := fun z => by
      subst z
      exact h1 (by decide)
    refine ⟨_, rfl, .inl ⟨rfl, _, SqL.of ha⟩, a, _, .int (ns.getLast hne), rfl, rfl, ha, ?_, ?_⟩
    · rw [List.length_map, List.getElem?_map, List.getElem?_eq_getElem (by have := List.length_pos_iff.mpr hne; omega), List.getLast_eq_getElem hne]
      rfl
    · walk_at "go"
      refine r_I hm ?_
      refine k _ ns.dropLast _ (Int.emod_nonneg _ (by omega)) (Int.emod_lt_of_pos _ hm) (by rw [List.length_dropLast]; omega) ?_ fun b o nb z => ?_
      · rw [upd_same, ← List.map_dropLast]
      · rw [upd_ne nb]
        exact z
/-- _law_int -/
theorem scInt : FnScope ["_law_thing"] ["_law_thing"] (defScope sInt) := ⟨rfl, rfl, rfl, by decide +kernel, rfl, by decide +kernel, by decide +kernel⟩
theorem ok_int {f : Addr} {fd : FuncData} (F : Fun K "_law_int" "_law_int" sInt f fd) (m1 : mg "isinstance" = none) (m2 : mg "int" = none) (m3 : mg "bool" = none) :
    FnOk P w K mg base (L2.CX P w) 1 f fd ["_law_thing"] (spThing K fun v _ => isI v) := by
  refine F.okX scInt (fun vs H Q E h => ?_) (fun cdv A outer s H vs Q E hr h => ?_)
  · obtain ⟨v, n, rfl, _⟩ := h
    rfl
  · obtain ⟨v, n, rfl, hS, k⟩ := h
    refine ⟨_, pss_one (ps_ret (pe_and (pe_callB call_isi (by rfl) m1 (by decide +kernel) (pa_cons (pv 0) (pa_cons (pe_bltn (v := .ty "int") (u := .type "int") (by rfl) m2 (by decide +kernel) rfl) pa_nil)))
      (pe_one (pe_not (pe_callB call_isi (by rfl) m1 (by decide +kernel) (pa_cons (pv 0) (pa_cons (pe_bltn (v := .ty "bool") (u := .type "bool") (by rfl) m3 (by decide +kernel) rfl) pa_nil))))))), ?_⟩
    refine ⟨_, rfl, v, .ty "int", .type n, .type "int", _, rfl, .ty _, sm_ty hS, kit_ty (r := n == "int" || n == "bool") (by cases hS <;> decide +kernel), _, rfl, ?_⟩
    cases hS with
    | non | str | lst | tup => exact k H (Same.refl H)
    | bl b => exact ⟨_, rfl, .bl b, .ty "bool", .type "bool", .type "bool", true, rfl, .ty _, sm_ty (.bl b), kit_ty (by decide +kernel), _, rfl, k H (Same.refl H)⟩
    | int i => exact ⟨_, rfl, .int i, .ty "bool", .type "int", .type "bool", false, rfl, .ty _, sm_ty (.int i), kit_ty (by decide +kernel), _, rfl, k H (Same.refl H)⟩
/-- the numbers drawn from the script -/
def spDrawn (K : PySem.W.Frag) : Sp := fun vs H Q _ => ∃ (a : Addr) (ns : List Int), vs = [.ref a] ∧ SqL K H a (ns.map V.int) ∧ ns.length ≤ 63 ∧
  ∀ (p : Addr) (fs : List Int) (H' : Hp), H p = none → Same H H' → H' p = some (.lst (fs.map V.int)) → fs.length ≤ 4000 → Q (.ref p) H'
theorem scDrawn : FnScope ["_law_script", "_law_found", "_law_place", "_law_cell", "_law_turn", "_law_grain"] ["_law_script"] (defScope sDrawn) := ⟨rfl, rfl, rfl, by decide +kernel, rfl, by decide +kernel, by decide +kernel⟩
theorem same_mut {H H' : Hp} {p : Addr} {o : HO} (h : H p = none) (s : Same H H') : Same H (upd H' p o) := fun b u z => by
  rw [upd_ne (ne_of_none z h)]
  exact s b u z
theorem app_map (fs : List Int) (z : Int) : fs.map V.int ++ [V.int z] = (fs ++ [z]).map V.int := by rw [List.map_append]; rfl
theorem ok_drawn {f : Addr} {fd : FuncData} (F : Fun K "_law_drawn" "_law_drawn" sDrawn f fd) (m_len : mg "len" = none) (m_int : mg "int" = none) (m_min : mg "min" = none) (m_range : mg "range" = none) :
    FnOk P w K mg base (L2.CX P w) 1 f fd ["_law_script"] (spDrawn K) := by
  refine F.okX scDrawn (fun vs H Q E h => ?_) (fun cdv A outer s H vs Q E hr h => ?_)
  · obtain ⟨a, ns, rfl, _⟩ := h
    rfl
  · obtain ⟨a, ns, rfl, hS, hl, k⟩ := h
    have sc := scDrawn
    refine ⟨_, (pss_cons (ps_set (i := 1) sc.nd rfl (Or.inl rfl) (pe_lst pa_nil))
      (pss_cons (ps_for (passes_of rfl) rfl (pi_range1 (by rfl) m_range (pa_cons (pe_callB (c_min2 rfl) (by rfl) m_min (by decide +kernel) (pa_cons (pe_callB c_len (by rfl) m_len PySem.boot_len (pa_cons (pv 0) pa_nil)) (pa_cons pe_int pa_nil))) pa_nil)) (pg_name (i := 2) sc.nd rfl (Or.inl rfl)) (pss_cons (ps_set (i := 3) sc.nd rfl (Or.inl rfl) (pe_callTy c_int (by rfl) m_int (by decide +kernel) (pa_cons (pe_ix ix_list (pv 0) (pv 2) (fun _ _ => rfl)) pa_nil)))
      (Evl.pss_cut (ps_if (pt_cmpR op_lt (pv 3) pe_int (nomark _)) (pss_cons (ps_expr (pe_bm PySem.F.plainAttrs_list PySem.F.slot_list_append PySem.F.type_list_append mt_append (pv 1) (pa_cons pe_int pa_nil)))
      (pss_one (ps_set (i := 3) sc.nd rfl (Or.inl rfl) (pe_op op_sub pe_int (pv 3))))) pss_nil)
      (pss_one (ps_if (pt_cmpR op_ge (pv 3) (pe_op op_pow pe_int pe_int) (nomark _)) (pss_one (ps_for (passes_of rfl) rfl (pi_range1 (by rfl) m_range (pa_cons pe_int pa_nil)) (pg_name (i := 4) sc.nd rfl (Or.inl rfl)) (pss_one (ps_if (pt_cmpR op_gt (pv 3) pe_int (nomark _)) (pss_cons (ps_expr (pe_bm PySem.F.plainAttrs_list PySem.F.slot_list_append PySem.F.type_list_append mt_append (pv 1) (pa_cons (pe_op op_mod (pe_callTy c_int (by rfl) m_int (by decide +kernel) (pa_cons (pv 3) pa_nil)) pe_int) pa_nil)))
      (pss_one (ps_set (i := 3) sc.nd rfl (Or.inl rfl) (pe_op op_fdiv (pv 3) pe_int)))) pss_nil)))) (pss_cons (ps_set (i := 5) sc.nd rfl (Or.inl rfl) (pe_op op_mod (pe_callTy c_int (by rfl) m_int (by decide +kernel) (pa_cons (pe_op op_add (pe_op op_add (pe_op op_mul (pv 3) pe_int) (pe_op op_mul (pv 2) pe_int)) pe_int) pa_nil)) pe_int))
      (pss_one (ps_for (passes_of rfl) rfl (pi_range1 (by rfl) m_range (pa_cons pe_int pa_nil)) (pg_name (i := 4) sc.nd rfl (Or.inl rfl)) (pss_cons (ps_set (i := 5) sc.nd rfl (Or.inl rfl) (pe_op op_mod (pe_callTy c_int (by rfl) m_int (by decide +kernel) (pa_cons (pe_op op_add (pe_op op_add (pe_op op_add (pe_op op_mul (pv 5) (pv 5)) (pe_op op_mul (pv 4) pe_int)) (pe_op op_mul (pv 2) pe_int)) pe_int) pa_nil)) pe_int))
      (pss_one (ps_expr (pe_bm PySem.F.plainAttrs_list PySem.F.slot_list_append PySem.F.type_list_append mt_append (pv 1) (pa_cons (pe_op op_fdiv (pv 5) pe_int) pa_nil)))))))))))))
      (pss_cons (ps_expr (pe_bm0 PySem.F.plainAttrs_list PySem.F.slot_list_reverse PySem.F.type_list_reverse mt_reverse (pv 1)))
      (pss_one (ps_ret (pv 1)))))), ?_⟩
    walk_at "go"
    refine ⟨by decide, fun p hp => ?_⟩
    walk_at "go"
    refine r_lenL ((same_new hp).seq hS) ?_
    walk_at "go"
    rw [List.length_map]
    have hmin : (if (63 : Int) < (ns.length : Int) then (63 : Int) else (ns.length : Int)) = (ns.length : Int) := if_neg (by omega)
    rw [hmin]
    refine r_rngK ns.length (by omega) (by omega) ?_
    refine r_forR0 (fun i σ H2 => ∃ (v2 v3 v4 v5 : Option V) (fs : List Int), σ = [some (.ref a), some (.ref p), v2, v3, v4, v5] ∧ Same H H2 ∧ H2 p = some (.lst (fs.map V.int)) ∧ fs.length ≤ i * 51)
      ⟨none, none, none, none, [], rfl, same_new hp, upd_same, Nat.zero_le _⟩ ?_ ?_
    · rintro i σ H2 hi ⟨v2, v3, v4, v5, fs, rfl, s2, hp2, hf⟩
      obtain ⟨z, hz⟩ : ∃ z, ns[i]? = some z := ⟨ns[i], List.getElem?_eq_getElem hi⟩
      walk_at "go"
      refine r_ixL (s2.seq hS) (v := .int z) (atI_nat (by rw [List.getElem?_map, hz]; rfl)) ?_
      walk_at "go"
      refine r_cut (Mid := fun σ H2 => ∃ (z : Int) (fs : List Int), σ = [some (.ref a), some (.ref p), some (.int i), some (.int z), v4, v5] ∧ Same H H2 ∧ H2 p = some (.lst (fs.map V.int)) ∧ fs.length ≤ i * 51 + 1 ∧ 0 ≤ z) ?_ ?_
      · walk_at "go"
        refine ite2 (fun h0 => ?_) fun h0 => ?_
        · have h0 : z < 0 := of_decide_eq_true h0
          walk_at "go"
          refine r_tyL (SqL.of hp2) ?_
          walk_at "go"
          refine r_app hp2 (Nat.lt_of_le_of_lt (m := 4000) (by rw [List.length_map]; omega) (by decide)) ?_
          walk_at "go"
          exact ⟨_, fs ++ [1], rfl, same_mut hp s2, by rw [upd_same, app_map], by rw [List.length_append]; show _ + 1 ≤ _; omega, by omega⟩
        · have h0 : ¬ z < 0 := fun y => h0 (decide_eq_true y)
          walk_at "go"
          exact ⟨z, fs, rfl, s2, hp2, by omega, by omega⟩
      · rintro σ H2 ⟨z, fs, rfl, s2, hp2, hf, hz0⟩
        walk_at "go"
        refine r_I ⟨by decide, by decide, by decide⟩ ?_
        walk_at "go"
        refine ite2 (fun h1 => ?_) fun h1 => ?_
        · walk_at "go"
          refine r_rngK 50 rfl (by omega) ?_
          refine r_forR0 (fun j σ H2 => ∃ (z : Int) (v4 : Option V) (fs : List Int), σ = [some (.ref a), some (.ref p), some (.int i), some (.int z), v4, v5] ∧ Same H H2 ∧ H2 p = some (.lst (fs.map V.int)) ∧ fs.length ≤ i * 51 + 1 + j)
            ⟨z, v4, fs, rfl, s2, hp2, hf⟩ ?_ ?_
          · rintro j σ H2 hj ⟨z, v4, fs, rfl, s2, hp2, hf⟩
            walk_at "go"
            refine ite2 (fun h1 => ?_) fun h1 => ?_
            · walk_at "go"
              refine r_tyL (SqL.of hp2) ?_
              walk_at "go"
              refine r_I (by decide) ?_
              walk_at "go"
              refine r_app hp2 (Nat.lt_of_le_of_lt (m := 4000) (by rw [List.length_map]; omega) (by decide)) ?_
              walk_at "go"
              refine r_I ⟨by decide, by decide⟩ ?_
              exact ⟨_, _, fs ++ [_], rfl, same_mut hp s2, by rw [upd_same, app_map], by rw [List.length_append]; show _ + 1 ≤ _; omega⟩
            · walk_at "go"
              exact ⟨z, _, fs, rfl, s2, hp2, by omega⟩
          · rintro σ H2 ⟨z, v4, fs, rfl, s2, hp2, hf⟩
            exact ⟨_, _, _, _, fs, rfl, s2, hp2, by omega⟩
        · have h1 : ¬ (10 : Int) ^ 18 ≤ z := fun y => h1 (decide_eq_true y)
          have h1 : z < 1000000000000000000 := by
            have e : (10 : Int) ^ 18 = 1000000000000000000 := by decide
            omega
          walk_at "go"
          refine r_I (.inl ⟨by omega, by omega⟩) ?_
          walk_at "go"
          refine r_I (.inl ⟨by omega, by omega⟩) ?_
          walk_at "go"
          refine r_I (by decide) ?_
          walk_at "go"
          refine r_rngK 5 rfl (by omega) ?_
          refine r_forR0 (fun j σ H2 => ∃ (g : Int) (v4 : Option V) (fs : List Int), σ = [some (.ref a), some (.ref p), some (.int i), some (.int z), v4, some (.int g)] ∧ Same H H2 ∧ H2 p = some (.lst (fs.map V.int)) ∧ fs.length ≤ i * 51 + 1 + j ∧ 0 ≤ g ∧ g < 2147483629)
            ⟨_, v4, fs, rfl, s2, hp2, hf, Int.emod_nonneg _ (by decide), Int.emod_lt_of_pos _ (by decide)⟩ ?_ ?_
          · rintro j σ H2 hj ⟨g, v4, fs, rfl, s2, hp2, hf, g0, g1⟩
            walk_at "go"
            refine r_I (.inl ⟨by omega, by omega⟩) ?_
            walk_at "go"
            refine r_I (.inl ⟨by omega, by omega⟩) ?_
            walk_at "go"
            refine r_I (.inl ⟨by omega, by omega⟩) ?_
            walk_at "go"
            refine r_I (by decide) ?_
            walk_at "go"
            refine r_tyL (SqL.of hp2) ?_
            walk_at "go"
            refine r_I ⟨by decide, by decide⟩ ?_
            walk_at "go"
            refine r_app hp2 (Nat.lt_of_le_of_lt (m := 4000) (by rw [List.length_map]; omega) (by decide)) ?_
            have e0 := Int.emod_nonneg (g * g + (j : Int) * 52021 + (i : Int) * 31 + 11) (b := 2147483587) (by decide)
            have e1 := Int.emod_lt_of_pos (g * g + (j : Int) * 52021 + (i : Int) * 31 + 11) (b := 2147483587) (by decide)
            exact ⟨_, _, fs ++ [_], rfl, same_mut hp s2, by rw [upd_same, app_map], by rw [List.length_append]; show _ + 1 ≤ _; omega, e0, by omega⟩
          · rintro σ H2 ⟨g, v4, fs, rfl, s2, hp2, hf, _⟩
            exact ⟨_, _, _, _, fs, rfl, s2, hp2, by omega⟩
    · rintro σ H2 ⟨v2, v3, v4, v5, fs, rfl, s2, hp2, hf⟩
      walk_at "go"
      refine r_tyL (SqL.of hp2) ⟨p, _, rfl, rfl, hp2, ?_⟩
      walk_at "go"
      refine k p fs.reverse _ hp (same_mut hp s2) (by rw [upd_same, List.map_reverse]) (by rw [List.length_reverse]; omega)
end
end K8
namespace K8
open PySem L2 Er K7M
/-- one step of a plain reading -/
local macro_rules | `(tactic| walk_at "step") => `(tactic| first
  | with_reducible refine r_seq ?_ | with_reducible refine r_nx ?_ | with_reducible refine r_asgN ?_ | with_reducible refine r_asgS ?_ | with_reducible refine r_asgT ?_ | with_reducible refine r_ifS ?_
  | with_reducible refine r_ret ?_ | with_reducible refine r_retN ?_ | with_reducible refine r_drop ?_ | with_reducible refine r_test ?_ | with_reducible refine r_B ?_ | with_reducible refine r_not ?_
  | with_reducible refine r_and ?_ | with_reducible refine r_or ?_ | with_reducible refine r_andV ?_ | with_reducible refine r_orV ?_ | with_reducible refine r_notV ?_
  | ((with_reducible refine' r_var ?e ?_); (case e => exact rfl)) | with_reducible refine r_c ?_ | with_reducible refine r_op ?_ | with_reducible refine r_un ?_
  | with_reducible refine r_I0 ?_ | with_reducible refine r_eqI ?_ | with_reducible refine r_neI ?_ | with_reducible refine r_bl ?_ | with_reducible refine r_nil ?_ | with_reducible refine r_cons ?_
  | with_reducible refine r_cb ?_ | with_reducible refine r_call ?_ | with_reducible refine r_tup ?_ | with_reducible refine r_lst ?_ | with_reducible refine r_fld ?_ | with_reducible refine r_bm ?_ | with_reducible refine r_bm0 ?_
  | with_reducible refine r_for ?_ | with_reducible refine r_rng ?_ | with_reducible refine r_rng2 ?_ | with_reducible refine r_lstI ?_ | with_reducible refine r_tupI ?_ | with_reducible refine r_lc ?_
  | with_reducible refine r_augS ?_ | with_reducible refine r_ipI ?_
  | with_reducible refine r_meth ?_ | with_reducible refine r_prop ?_ | with_reducible refine r_make ?_ | with_reducible refine r_din ?_ | with_reducible refine r_dnin ?_ | with_reducible refine r_dput ?_ | with_reducible refine r_dget ?_
  | with_reducible refine r_gN ?_ | with_reducible refine r_tsl ?_ | with_reducible refine r_noP ?_ | with_reducible refine r_part ?_ | with_reducible refine r_pI ?_ | with_reducible refine r_tif ?_ | with_reducible refine r_SL ?_ | with_reducible refine r_gC ?_ | with_reducible refine r_U ?_ | with_reducible refine r_sfld ?_ | with_reducible refine r_dnew ?_ | with_reducible refine r_keys ?_
  | with_reducible refine r_mkE ?_ | with_reducible refine iteT ?_ | with_reducible refine iteF ?_
  | with_reducible refine r_int ?_ | with_reducible refine r_min2 ?_ | with_reducible refine r_isN ?_ | with_reducible refine r_notN ?_)
/-- as far as it goes by itself -/
local macro_rules | `(tactic| walk_at "go") => `(tactic| ((repeat walk_at "step"); (try dsimp only)))

/-! ### the program's levels in the heap -/
structure LA where
  p : Addr
  dx : Addr
  w : Addr
  s : Addr
  r : Addr
  k : Addr
def nV (l : List Nat) : List V := l.map fun (c : Nat) => V.int (c : Int)
theorem nV_len (l : List Nat) : (nV l).length = l.length := by unfold nV; rw [List.length_map]
def row (n : Nat) (f : Nat → V) : List V := (List.range n).map f
theorem row_len (n : Nat) (f : Nat → V) : (row n f).length = n := by unfold row; rw [List.length_map, List.length_range]
theorem row_at {n i : Nat} (f : Nat → V) (h : i < n) : (row n f)[i]? = some (f i) := by
  unfold row
  rw [List.getElem?_map, List.getElem?_range h]
  rfl
theorem row_set {n i : Nat} (f : Nat → V) (v : V) : (row n f).set i v = row n fun j => if j = i then v else f j := by
  apply List.ext_getElem?
  intro j
  rw [List.getElem?_set]
  by_cases hj : j < n
  · rw [row_at _ hj, row_len]
    by_cases h : i = j
    · subst h
      rw [if_pos rfl, if_pos hj, row_at _ hj, if_pos rfl]
    · rw [if_neg h, row_at _ hj, if_neg (Ne.symm h)]
  · have e : ∀ g : Nat → V, (row n g)[j]? = none := fun g => List.getElem?_eq_none_iff.mpr (by rw [row_len]; omega)
    rw [e, e, row_len]
    by_cases h : i = j
    · rw [if_pos h, if_neg (by omega)]
    · rw [if_neg h]
theorem row_congr {n : Nat} {f g : Nat → V} (h : ∀ i, i < n → f i = g i) : row n f = row n g := List.map_congr_left fun i hi => h i (List.mem_range.mp hi)
def fsOf (A : LA) (n : Nat) : List (Str × V) := putF "_looks" (.ref A.k) (putF "_read" (.ref A.r) (putF "_steps" (.ref A.s) (putF "_written" (.ref A.w) (putF "_size" (.int n) []))))
theorem fs_size (A : LA) (n : Nat) : (fsOf A n).lookup ("_size" : Str) = some (.int n) := by
  unfold fsOf
  rw [lookup_putF, if_neg (by decide +kernel), lookup_putF, if_neg (by decide +kernel), lookup_putF, if_neg (by decide +kernel), lookup_putF, if_neg (by decide +kernel), lookup_putF, if_pos rfl]
theorem fs_w (A : LA) (n : Nat) : (fsOf A n).lookup ("_written" : Str) = some (.ref A.w) := by
  unfold fsOf
  rw [lookup_putF, if_neg (by decide +kernel), lookup_putF, if_neg (by decide +kernel), lookup_putF, if_neg (by decide +kernel), lookup_putF, if_pos rfl]
theorem fs_s (A : LA) (n : Nat) : (fsOf A n).lookup ("_steps" : Str) = some (.ref A.s) := by
  unfold fsOf
  rw [lookup_putF, if_neg (by decide +kernel), lookup_putF, if_neg (by decide +kernel), lookup_putF, if_pos rfl]
theorem fs_r (A : LA) (n : Nat) : (fsOf A n).lookup ("_read" : Str) = some (.ref A.r) := by
  unfold fsOf
  rw [lookup_putF, if_neg (by decide +kernel), lookup_putF, if_pos rfl]
theorem fs_k (A : LA) (n : Nat) : (fsOf A n).lookup ("_looks" : Str) = some (.ref A.k) := by
  unfold fsOf
  rw [lookup_putF, if_pos rfl]
theorem fs_no (A : LA) (n : Nat) {m : Str} (h1 : ¬ m = "_looks") (h2 : ¬ m = "_read") (h3 : ¬ m = "_steps") (h4 : ¬ m = "_written") (h5 : ¬ m = "_size") : (fsOf A n).lookup m = none := by
  unfold fsOf
  rw [lookup_putF, if_neg h1, lookup_putF, if_neg h2, lookup_putF, if_neg h3, lookup_putF, if_neg h4, lookup_putF, if_neg h5]
  rfl
structure LevAt (CL : Addr) (H : Hp) (A : LA) (n : Nat) (S : Sys) (gone : List Nat) : Prop where
  ob : H A.p = some (.ins CL A.dx (fsOf A n))
  w : H A.w = some (.lst (row n fun i => .int (S i).lev))
  s : H A.s = some (.lst (row n fun i => .int ((S i).cnt : Int)))
  r : ∃ ts : Nat → Addr, H A.r = some (.lst (row n fun i => .ref (ts i))) ∧ ∀ i, i < n → H (ts i) = some (.tup (nV (S i).rd))
  k : ∃ ks : Nat → Addr, H A.k = some (.dK (gone.map fun (i : Nat) => (Sum.inl (i : Int), V.ref (ks i)))) ∧ ∀ i ∈ gone, H (ks i) = some (.tup (nV (S i).rd))
  ws : A.w ≠ A.s
  wr : A.w ≠ A.r
  sr : A.s ≠ A.r
/-- the class's facts -/
structure LevC (K : PySem.W.Frag) (CL : Addr) : Prop where
  c : Cls K CL
  nz : NoAttr K CL "_size"
  nw : NoAttr K CL "_written"
  ns : NoAttr K CL "_steps"
  nr : NoAttr K CL "_read"
  nk : NoAttr K CL "_looks"
theorem LevAt.lift {CL : Addr} {H H' : Hp} {A : LA} {n : Nat} {S : Sys} {gone : List Nat} (L : LevAt CL H A n S gone) (h : ∀ b o, H b = some o → H' b = some o) : LevAt CL H' A n S gone := by
  obtain ⟨ts, h1, h2⟩ := L.r
  obtain ⟨ks, h3, h4⟩ := L.k
  exact ⟨h _ _ L.ob, h _ _ L.w, h _ _ L.s, ⟨ts, h _ _ h1, fun i hi => h _ _ (h2 i hi)⟩, ⟨ks, h _ _ h3, fun i hi => h _ _ (h4 i hi)⟩, L.ws, L.wr, L.sr⟩
/-- an int that is a name -/
def nameOf (n : Nat) : V → Option Nat
  | .int i => if 0 ≤ i ∧ i < n then some i.toNat else none
  | _ => none
/-- _check -/
def spCheck (K : PySem.W.Frag) (CL CN : Addr) : Sp := fun vs H Q E => ∃ (A : LA) (n : Nat) (v : V) (tn : String), vs = [.ref A.p, v] ∧ H A.p = some (.ins CL A.dx (fsOf A n)) ∧ Sm K H v tn ∧
  ((nameOf n v).isSome = true → ∀ H', Same H H' → Q .non H') ∧ (nameOf n v = none → rsd CN "name" v H E)
section
variable {P : Program} {w : World} {K : PySem.W.Frag} {mg : Str → Option Value} {base : Heap} {CN CB CL : Addr}
theorem scCheck : FnScope ["self", "name"] ["self", "name"] (defScope mCheck) := ⟨rfl, rfl, rfl, by decide +kernel, rfl, by decide +kernel, by decide +kernel⟩
theorem ok_check {f : Addr} {fd : FuncData} (F : Fun K "_check" "Levels._check" mCheck f fd) (T : Errs P w K mg CN CB) (cL : LevC K CL) (D_isnat : Fok P w K mg base 2 "is_natural" ["thing"] (spThing K fun v _ => isN v)) :
    FnOk P w K mg base (L2.CX P w) 3 f fd ["self", "name"] (spCheck K CL CN) := by
  refine F.okX scCheck (fun vs H Q E h => ?_) (fun cdv A outer s H vs Q E hr h => ?_)
  · obtain ⟨A, n, v, tn, rfl, _⟩ := h
    rfl
  · obtain ⟨A, n, v, tn, rfl, hO, hS, ky, kn⟩ := h
    obtain ⟨fI, TN, RN⟩ := T.nm
    refine ⟨_, (pss_one (ps_if (PW.pt (pw_or (pt_not (pt_val (pe_f D_isnat (hr.mono (by decide)) (pa_cons (pv 1) pa_nil)))) (pw_or1 (pt_cmpR op_ge (pv 1) (pe_fld (pv 0) rfl) (nomark _)))))
      (pss_one (ps_raise rfl (takes_of rfl rfl rfl rfl) (pmk_er (k := 0) (okV := fun _ => True) TN RN (fun _ _ _ _ => trivial) (hr.mono (by decide)) (by rfl) T.gN (pa_cons (pv 1) pa_nil)))) pss_nil)), ?_⟩
    walk_at "go"
    refine ⟨v, tn, rfl, hS, fun H1 s1 => ?_⟩
    walk_at "go"
    have bad : nameOf n v = none → mkK CN "name" (fun _ => True) [v] H1 E := fun h => r_mkK trivial fun d hd => rsd_new (kn h) s1 hd
    cases hS with
    | non | str | lst | tup | bl =>
      refine iteT ?_
      walk_at "go"
      exact bad rfl
    | int i =>
      by_cases h0 : 0 ≤ i
      · have e : (!isN (.int i)) = false := by
          show (!decide (0 ≤ i)) = false
          rw [decide_eq_true h0]
          rfl
        rw [e]
        walk_at "go"
        refine r_fldR (s1 _ _ hO) cL.c cL.nz (fs_size A n) ?_
        walk_at "go"
        refine ite2 (fun h1 => ?_) fun h1 => ?_
        · have h1 : (n : Int) ≤ i := of_decide_eq_true h1
          walk_at "go"
          exact bad (if_neg (by omega))
        · have h1 : ¬ (n : Int) ≤ i := fun z => h1 (decide_eq_true z)
          walk_at "go"
          exact ky (by
            show (if 0 ≤ i ∧ i < n then some i.toNat else none).isSome = true
            rw [if_pos (by omega)]
            rfl) H1 s1
      · have e : (!isN (.int i)) = true := by
          show (!decide (0 ≤ i)) = true
          rw [decide_eq_false h0]
          rfl
        rw [e]
        walk_at "go"
        exact bad (if_neg (by omega))
end
end K8
namespace K8
open PySem L2 Er K7M
/-- one step of a plain reading -/
local macro_rules | `(tactic| walk_at "step") => `(tactic| first
  | with_reducible refine r_seq ?_ | with_reducible refine r_nx ?_ | with_reducible refine r_asgN ?_ | with_reducible refine r_asgS ?_ | with_reducible refine r_asgT ?_ | with_reducible refine r_ifS ?_
  | with_reducible refine r_ret ?_ | with_reducible refine r_retN ?_ | with_reducible refine r_drop ?_ | with_reducible refine r_test ?_ | with_reducible refine r_B ?_ | with_reducible refine r_not ?_
  | with_reducible refine r_and ?_ | with_reducible refine r_or ?_ | with_reducible refine r_andV ?_ | with_reducible refine r_orV ?_ | with_reducible refine r_notV ?_
  | ((with_reducible refine' r_var ?e ?_); (case e => exact rfl)) | with_reducible refine r_c ?_ | with_reducible refine r_op ?_ | with_reducible refine r_un ?_
  | with_reducible refine r_I0 ?_ | with_reducible refine r_eqI ?_ | with_reducible refine r_neI ?_ | with_reducible refine r_bl ?_ | with_reducible refine r_nil ?_ | with_reducible refine r_cons ?_
  | with_reducible refine r_cb ?_ | with_reducible refine r_call ?_ | with_reducible refine r_tup ?_ | with_reducible refine r_lst ?_ | with_reducible refine r_fld ?_ | with_reducible refine r_bm ?_ | with_reducible refine r_bm0 ?_
  | with_reducible refine r_for ?_ | with_reducible refine r_rng ?_ | with_reducible refine r_rng2 ?_ | with_reducible refine r_lstI ?_ | with_reducible refine r_tupI ?_ | with_reducible refine r_lc ?_
  | with_reducible refine r_augS ?_ | with_reducible refine r_ipI ?_
  | with_reducible refine r_meth ?_ | with_reducible refine r_prop ?_ | with_reducible refine r_make ?_ | with_reducible refine r_din ?_ | with_reducible refine r_dnin ?_ | with_reducible refine r_dput ?_ | with_reducible refine r_dget ?_
  | with_reducible refine r_gN ?_ | with_reducible refine r_tsl ?_ | with_reducible refine r_noP ?_ | with_reducible refine r_part ?_ | with_reducible refine r_pI ?_ | with_reducible refine r_tif ?_ | with_reducible refine r_SL ?_ | with_reducible refine r_gC ?_ | with_reducible refine r_U ?_ | with_reducible refine r_sfld ?_ | with_reducible refine r_dnew ?_ | with_reducible refine r_keys ?_
  | with_reducible refine r_mkE ?_ | with_reducible refine iteT ?_ | with_reducible refine iteF ?_
  | with_reducible refine r_int ?_ | with_reducible refine r_min2 ?_ | with_reducible refine r_isN ?_ | with_reducible refine r_notN ?_)
/-- as far as it goes by itself -/
local macro_rules | `(tactic| walk_at "go") => `(tactic| ((repeat walk_at "step"); (try dsimp only)))

def Kept (F : List Addr) (H H' : Hp) : Prop := ∀ b o, H b = some o → b ∉ F → H' b = some o
theorem Kept.refl (F : List Addr) (H : Hp) : Kept F H H := fun _ _ h _ => h
theorem Kept.trans {F : List Addr} {H H1 H2 : Hp} (a : Kept F H H1) (b : Kept F H1 H2) : Kept F H H2 := fun c o h n => b c o (a c o h n) n
theorem Kept.of {F : List Addr} {H H' : Hp} (s : Same H H') : Kept F H H' := fun b o h _ => s b o h
theorem Kept.new {F : List Addr} {H H' : Hp} {p : Addr} {o : HO} (s : Kept F H H') (h : H p = none) : Kept F H (upd H' p o) := fun b u z n => by
  rw [upd_ne (ne_of_none z h)]
  exact s b u z n
theorem Kept.mut {F : List Addr} {H H' : Hp} {p : Addr} {o : HO} (s : Kept F H H') (h : p ∈ F) : Kept F H (upd H' p o) := fun b u z n => by
  rw [upd_ne (fun e => n (by rw [e]; exact h))]
  exact s b u z n
theorem Kept.same {F : List Addr} {H H0 H' : Hp} (s : Kept F H H') (n : ∀ b ∈ F, H0 b = none) (t : Same H0 H) : Same H0 H' := fun b o h => s b o (t b o h) fun hb => by
  have := n b hb
  rw [h] at this
  cases this
abbrev LA.foot (A : LA) : List Addr := [A.w, A.s, A.r, A.k]
section
variable {CL : Addr} {H H' : Hp} {A : LA} {n : Nat} {S : Sys} {gone : List Nat} {i : Nat}
theorem LevAt.kept (L : LevAt CL H A n S gone) {F : List Addr} (s : Kept F H H') (d : ∀ b ∈ A.foot, b ∉ F) (dp : A.p ∉ F) (t : ∀ b ∈ F, ∀ xs, H b ≠ some (.tup xs)) : LevAt CL H' A n S gone := by
  obtain ⟨ts, h1, h2⟩ := L.r
  obtain ⟨ks, h3, h4⟩ := L.k
  exact ⟨s _ _ L.ob dp, s _ _ L.w (d _ (by simp)), s _ _ L.s (d _ (by simp)), ⟨ts, s _ _ h1 (d _ (by simp)), fun i hi => s _ _ (h2 i hi) fun z => t _ z _ (h2 i hi)⟩,
    ⟨ks, s _ _ h3 (d _ (by simp)), fun i hi => s _ _ (h4 i hi) fun z => t _ z _ (h4 i hi)⟩, L.ws, L.wr, L.sr⟩
/-- name i's record becomes x -/
theorem LevAt.put (L : LevAt CL H A n S gone) (hg : i ∉ gone) (x : NS) {ts : Nat → Addr} {t : Addr} (h2 : ∀ j, j < n → H (ts j) = some (.tup (nV (S j).rd))) (o : H' A.p = some (.ins CL A.dx (fsOf A n)))
    (w : H' A.w = some (.lst (row n fun j => .int (K7M.put S i x j).lev))) (s : H' A.s = some (.lst (row n fun j => .int ((K7M.put S i x j).cnt : Int)))) (r : H' A.r = some (.lst (row n fun j => if j = i then .ref t else .ref (ts j))))
    (ht : H' t = some (.tup (nV x.rd))) (tk : ∀ b xs, H b = some (.tup xs) → H' b = some (.tup xs)) (k : ∀ o, H A.k = some o → H' A.k = some o) : LevAt CL H' A n (K7M.put S i x) gone := by
  obtain ⟨ks, h3, h4⟩ := L.k
  refine ⟨o, w, s, ⟨fun j => if j = i then t else ts j, ?_, fun j hj => ?_⟩, ⟨ks, k _ h3, fun j hj => ?_⟩, L.ws, L.wr, L.sr⟩
  · rw [r]
    congr 2
    refine row_congr fun j _ => ?_
    by_cases h : j = i <;> simp [h]
  · show H' (if j = i then t else ts j) = _
    by_cases h : j = i
    · subst h
      rw [if_pos rfl, put_same]
      exact ht
    · rw [if_neg h, put_ne S _ h]
      exact tk _ _ (h2 j hj)
  · have h : j ≠ i := fun z => hg (z ▸ hj)
    rw [put_ne S _ h]
    exact tk _ _ (h4 j hj)
theorem LevAt.pw (L : LevAt CL H A n S gone) : A.p ≠ A.w := ne_of L.ob L.w (by intro z; cases z)
theorem LevAt.ps (L : LevAt CL H A n S gone) : A.p ≠ A.s := ne_of L.ob L.s (by intro z; cases z)
theorem LevAt.pr (L : LevAt CL H A n S gone) : A.p ≠ A.r := by obtain ⟨ts, h, _⟩ := L.r; exact ne_of L.ob h (by intro z; cases z)
theorem LevAt.kw (L : LevAt CL H A n S gone) : A.k ≠ A.w := by obtain ⟨ks, h, _⟩ := L.k; exact ne_of h L.w (by intro z; cases z)
theorem LevAt.ks (L : LevAt CL H A n S gone) : A.k ≠ A.s := by obtain ⟨ks, h, _⟩ := L.k; exact ne_of h L.s (by intro z; cases z)
theorem LevAt.kr (L : LevAt CL H A n S gone) : A.k ≠ A.r := by obtain ⟨ks, h, _⟩ := L.k; obtain ⟨ts, h', _⟩ := L.r; exact ne_of h h' (by intro z; cases z)
theorem LevAt.kp (L : LevAt CL H A n S gone) : A.k ≠ A.p := by obtain ⟨ks, h, _⟩ := L.k; exact ne_of h L.ob (by intro z; cases z)
end
def rdTo (S : Sys) (i c : Nat) : List Nat := if (S c).lev ≤ (S i).lev then (S i).rd ++ [c] else (S i).rd
/-- _read_cell -/
def spRead (CL : Addr) : Sp := fun vs H Q _ => ∃ (A : LA) (n : Nat) (S : Sys) (gone : List Nat) (i c : Nat), vs = [.ref A.p, .int i, .int c] ∧ LevAt CL H A n S gone ∧ i < n ∧ c < n ∧ i ∉ gone ∧ (S i).rd.length ≤ 1000 ∧
  ∀ H', LevAt CL H' A n (K7M.put S i ⟨(S i).lev, (S i).cnt, rdTo S i c⟩) gone → Kept A.foot H H' → Q .non H'
section
variable {P : Program} {w : World} {K : PySem.W.Frag} {mg : Str → Option Value} {base : Heap} {CN CB CL : Addr}
theorem scReadCell : FnScope ["self", "name", "cell"] ["self", "name", "cell"] (defScope mReadCell) := ⟨rfl, rfl, rfl, by decide +kernel, rfl, by decide +kernel, by decide +kernel⟩
theorem ok_read_cell {f : Addr} {fd : FuncData} (F : Fun K "_read_cell" "Levels._read_cell" mReadCell f fd) (cL : LevC K CL) : FnOk P w K mg base (L2.CX P w) 1 f fd ["self", "name", "cell"] (spRead CL) := by
  refine F.okX scReadCell (fun vs H Q E h => ?_) (fun cdv A outer s H vs Q E hr h => ?_)
  · obtain ⟨A, n, S, gone, i, c, rfl, _⟩ := h
    rfl
  · obtain ⟨A, n, S, gone, i, c, rfl, L, hi, hc, hg, hz, k⟩ := h
    refine ⟨_, (pss_one (ps_if (pt_cmpR op_le (pe_ix ix_list (pe_fld (pv 0) rfl) (pv 2) (fun _ _ => rfl)) (pe_ix ix_list (pe_fld (pv 0) rfl) (pv 1) (fun _ _ => rfl)) (nomark _)) (pss_one (ps_asg (pe_op op_catA (pe_ix ix_list (pe_fld (pv 0) rfl) (pv 1) (fun _ _ => rfl)) (pe_tup (pa_cons (pv 2) pa_nil))) (pg_sub (pe_fld (pv 0) rfl) (pv 1) set_list))) pss_nil)), ?_⟩
    obtain ⟨ts, hr1, hr2⟩ := L.r
    walk_at "go"
    refine r_fldR L.ob cL.c cL.nw (fs_w A n) ?_
    walk_at "go"
    refine r_ixL (SqL.of L.w) (atI_nat (row_at _ hc)) ?_
    walk_at "go"
    refine r_fldR L.ob cL.c cL.nw (fs_w A n) ?_
    walk_at "go"
    refine r_ixL (SqL.of L.w) (atI_nat (row_at _ hi)) ?_
    walk_at "go"
    refine ite2 (fun h1 => ?_) fun h1 => ?_
    · have h1 : (S c).lev ≤ (S i).lev := of_decide_eq_true h1
      walk_at "go"
      refine r_fldR L.ob cL.c cL.nr (fs_r A n) ?_
      walk_at "go"
      refine r_ixL (SqL.of hr1) (atI_nat (row_at _ hi)) ?_
      walk_at "go"
      refine ⟨by show 1 ≤ sizeLine; decide, fun p hp => ?_⟩
      have s1 : Same H (upd H p (.tup [V.int (c : Int)])) := same_new hp
      refine r_catT (SqT.of (s1 _ _ (hr2 i hi))) upd_same (by rw [nV_len]; show _ + 1 ≤ _; omega) (by simp) fun t H2 s2 ht => ?_
      have s12 := s1.trans s2
      walk_at "go"
      refine r_fldR (s12 _ _ L.ob) cL.c cL.nr (fs_r A n) ?_
      walk_at "go"
      refine r_setL (s12 _ _ hr1) (by rw [row_len]; exact ix_nat hi) ?_
      walk_at "go"
      have ht' : H2 t = some (.tup (nV (rdTo S i c))) := by
        rw [ht]
        unfold rdTo
        rw [if_pos h1]
        unfold nV
        rw [List.map_append]
        rfl
      have tr : t ≠ A.r := ne_of ht (s12 _ _ hr1) (by intro z; cases z)
      have tup_ne : ∀ b xs, H b = some (.tup xs) → b ≠ A.r := fun b xs z => ne_of z hr1 (by intro y; cases y)
      refine k _ (L.put hg _ (t := t) hr2 ?_ ?_ ?_ ?_ ?_ (fun b xs z => ?_) fun o z => ?_) ((Kept.of s12).mut (by simp))
      · rw [upd_ne L.pr]; exact s12 _ _ L.ob
      · rw [upd_ne L.wr, s12 _ _ L.w]
        congr 2
        refine row_congr fun j _ => ?_
        by_cases h : j = i
        · subst h; rw [put_same]
        · rw [put_ne S _ h]
      · rw [upd_ne L.sr, s12 _ _ L.s]
        congr 2
        refine row_congr fun j _ => ?_
        by_cases h : j = i
        · subst h; rw [put_same]
        · rw [put_ne S _ h]
      · rw [upd_same, row_set]
      · rw [upd_ne tr]; exact ht'
      · rw [upd_ne (tup_ne b xs z)]; exact s12 _ _ z
      · rw [upd_ne L.kr]; exact s12 _ _ z
    · have h1 : ¬ (S c).lev ≤ (S i).lev := fun z => h1 (decide_eq_true z)
      walk_at "go"
      refine k H ?_ (Kept.refl _ H)
      have e : K7M.put S i ⟨(S i).lev, (S i).cnt, rdTo S i c⟩ = S := by
        funext j
        by_cases h : j = i
        · subst h
          rw [put_same]
          unfold rdTo
          rw [if_neg h1]
        · rw [put_ne S _ h]
      rw [e]
      exact L
end
end K8
namespace K8
open PySem L2 Er K7M
/-- one step of a plain reading -/
local macro_rules | `(tactic| walk_at "step") => `(tactic| first
  | with_reducible refine r_seq ?_ | with_reducible refine r_nx ?_ | with_reducible refine r_asgN ?_ | with_reducible refine r_asgS ?_ | with_reducible refine r_asgT ?_ | with_reducible refine r_ifS ?_
  | with_reducible refine r_ret ?_ | with_reducible refine r_retN ?_ | with_reducible refine r_drop ?_ | with_reducible refine r_test ?_ | with_reducible refine r_B ?_ | with_reducible refine r_not ?_
  | with_reducible refine r_and ?_ | with_reducible refine r_or ?_ | with_reducible refine r_andV ?_ | with_reducible refine r_orV ?_ | with_reducible refine r_notV ?_
  | ((with_reducible refine' r_var ?e ?_); (case e => exact rfl)) | with_reducible refine r_c ?_ | with_reducible refine r_op ?_ | with_reducible refine r_un ?_
  | with_reducible refine r_I0 ?_ | with_reducible refine r_eqI ?_ | with_reducible refine r_neI ?_ | with_reducible refine r_bl ?_ | with_reducible refine r_nil ?_ | with_reducible refine r_cons ?_
  | with_reducible refine r_cb ?_ | with_reducible refine r_call ?_ | with_reducible refine r_tup ?_ | with_reducible refine r_lst ?_ | with_reducible refine r_fld ?_ | with_reducible refine r_bm ?_ | with_reducible refine r_bm0 ?_
  | with_reducible refine r_for ?_ | with_reducible refine r_rng ?_ | with_reducible refine r_rng2 ?_ | with_reducible refine r_lstI ?_ | with_reducible refine r_tupI ?_ | with_reducible refine r_lc ?_
  | with_reducible refine r_augS ?_ | with_reducible refine r_ipI ?_
  | with_reducible refine r_meth ?_ | with_reducible refine r_prop ?_ | with_reducible refine r_make ?_ | with_reducible refine r_din ?_ | with_reducible refine r_dnin ?_ | with_reducible refine r_dput ?_ | with_reducible refine r_dget ?_
  | with_reducible refine r_gN ?_ | with_reducible refine r_tsl ?_ | with_reducible refine r_noP ?_ | with_reducible refine r_part ?_ | with_reducible refine r_pI ?_ | with_reducible refine r_tif ?_ | with_reducible refine r_SL ?_ | with_reducible refine r_gC ?_ | with_reducible refine r_U ?_ | with_reducible refine r_sfld ?_ | with_reducible refine r_dnew ?_ | with_reducible refine r_keys ?_
  | with_reducible refine r_mkE ?_ | with_reducible refine iteT ?_ | with_reducible refine iteF ?_
  | with_reducible refine r_int ?_ | with_reducible refine r_min2 ?_ | with_reducible refine r_isN ?_ | with_reducible refine r_notN ?_)
/-- as far as it goes by itself -/
local macro_rules | `(tactic| walk_at "go") => `(tactic| ((repeat walk_at "step"); (try dsimp only)))

theorem put_put (S : Sys) (i : Nat) (x y : NS) : K7M.put (K7M.put S i x) i y = K7M.put S i y := by
  funext j
  by_cases h : j = i
  · subst h; rw [put_same, put_same]
  · rw [put_ne _ _ h, put_ne _ _ h, put_ne _ _ h]
abbrev kvOf (gone : List Nat) (ks : Nat → Addr) : List (Key × V) := gone.map fun (j : Nat) => ((Sum.inl (j : Int) : Key), V.ref (ks j))
theorem val_in {ks : Nat → Addr} {i : Nat} : ∀ {gone : List Nat}, i ∈ gone → valV (kvOf gone ks) (Sum.inl (i : Int)) = some (.ref (ks i))
  | [], h => by cases h
  | j :: g, h => by
    unfold valV kvOf
    rw [List.map_cons, List.find?_cons]
    by_cases e : j = i
    · subst e
      simp
    · have : decide ((Sum.inl (j : Int) : Key) = Sum.inl (i : Int)) = false := decide_eq_false fun z => e (by have := Sum.inl.inj z; omega)
      dsimp only
      rw [this]
      rcases List.mem_cons.mp h with h | h
      · exact absurd h.symm e
      · exact val_in h
theorem val_out {ks : Nat → Addr} {i : Nat} : ∀ {gone : List Nat}, i ∉ gone → valV (kvOf gone ks) (Sum.inl (i : Int)) = none
  | [], _ => rfl
  | j :: g, h => by
    unfold valV kvOf
    rw [List.map_cons, List.find?_cons]
    have e : j ≠ i := fun z => h (z ▸ List.mem_cons_self ..)
    have : decide ((Sum.inl (j : Int) : Key) = Sum.inl (i : Int)) = false := decide_eq_false fun z => e (by have := Sum.inl.inj z; omega)
    dsimp only
    rw [this]
    exact val_out fun z => h (List.mem_cons_of_mem _ z)
section
variable {CL : Addr} {H H' : Hp} {A : LA} {n : Nat} {S : Sys} {gone : List Nat} {i : Nat}
/-- a new number of steps -/
theorem LevAt.setS (L : LevAt CL H A n S gone) (hi : i < n) (hg : i ∉ gone) (z : Nat) : LevAt CL (upd H A.s (.lst ((row n fun j => V.int ((S j).cnt : Int)).set i (.int (z : Int))))) A n (K7M.put S i ⟨(S i).lev, z, (S i).rd⟩) gone := by
  obtain ⟨ts, hr1, hr2⟩ := L.r
  have tup_ne : ∀ b xs, H b = some (.tup xs) → b ≠ A.s := fun b xs z => ne_of z L.s (by intro y; cases y)
  refine L.put hg _ (t := ts i) hr2 ?_ ?_ ?_ ?_ ?_ (fun b xs z => ?_) fun o z => ?_
  · rw [upd_ne L.ps]; exact L.ob
  · rw [upd_ne L.ws, L.w]
    congr 2
    refine row_congr fun j _ => ?_
    by_cases h : j = i
    · subst h; rw [put_same]
    · rw [put_ne S _ h]
  · rw [upd_same, row_set]
    congr 2
    refine row_congr fun j _ => ?_
    by_cases h : j = i
    · subst h; rw [put_same, if_pos rfl]
    · rw [put_ne S _ h, if_neg h]
  · rw [upd_ne L.sr.symm, hr1]
    congr 2
    refine row_congr fun j _ => ?_
    by_cases h : j = i
    · subst h; rw [if_pos rfl]
    · rw [if_neg h]
  · rw [upd_ne (tup_ne _ _ (hr2 i hi))]; exact hr2 i hi
  · rw [upd_ne (tup_ne b xs z)]; exact z
  · rw [upd_ne L.ks]; exact z
/-- a new level -/
theorem LevAt.setW (L : LevAt CL H A n S gone) (hi : i < n) (hg : i ∉ gone) (z : Int) : LevAt CL (upd H A.w (.lst ((row n fun j => V.int (S j).lev).set i (.int z)))) A n (K7M.put S i ⟨z, (S i).cnt, (S i).rd⟩) gone := by
  obtain ⟨ts, hr1, hr2⟩ := L.r
  have tup_ne : ∀ b xs, H b = some (.tup xs) → b ≠ A.w := fun b xs z => ne_of z L.w (by intro y; cases y)
  refine L.put hg _ (t := ts i) hr2 ?_ ?_ ?_ ?_ ?_ (fun b xs z => ?_) fun o z => ?_
  · rw [upd_ne L.pw]; exact L.ob
  · rw [upd_same, row_set]
    congr 2
    refine row_congr fun j _ => ?_
    by_cases h : j = i
    · subst h; rw [put_same, if_pos rfl]
    · rw [put_ne S _ h, if_neg h]
  · rw [upd_ne L.ws.symm, L.s]
    congr 2
    refine row_congr fun j _ => ?_
    by_cases h : j = i
    · subst h; rw [put_same]
    · rw [put_ne S _ h]
  · rw [upd_ne L.wr.symm, hr1]
    congr 2
    refine row_congr fun j _ => ?_
    by_cases h : j = i
    · subst h; rw [if_pos rfl]
    · rw [if_neg h]
  · rw [upd_ne (tup_ne _ _ (hr2 i hi))]; exact hr2 i hi
  · rw [upd_ne (tup_ne b xs z)]; exact z
  · rw [upd_ne L.kw]; exact z
/-- a new row of cells seen -/
theorem LevAt.setR (L : LevAt CL H A n S gone) (hg : i ∉ gone) {ts : Nat → Addr} (hr1 : H A.r = some (.lst (row n fun j => .ref (ts j)))) (hr2 : ∀ j, j < n → H (ts j) = some (.tup (nV (S j).rd))) {t : Addr} {l : List Nat} (ht : H t = some (.tup (nV l))) :
    LevAt CL (upd H A.r (.lst ((row n fun j => V.ref (ts j)).set i (.ref t)))) A n (K7M.put S i ⟨(S i).lev, (S i).cnt, l⟩) gone := by
  have tup_ne : ∀ b xs, H b = some (.tup xs) → b ≠ A.r := fun b xs z => ne_of z hr1 (by intro y; cases y)
  refine L.put hg _ (t := t) hr2 ?_ ?_ ?_ ?_ ?_ (fun b xs z => ?_) fun o z => ?_
  · rw [upd_ne L.pr]; exact L.ob
  · rw [upd_ne L.wr, L.w]
    congr 2
    refine row_congr fun j _ => ?_
    by_cases h : j = i
    · subst h; rw [put_same]
    · rw [put_ne S _ h]
  · rw [upd_ne L.sr, L.s]
    congr 2
    refine row_congr fun j _ => ?_
    by_cases h : j = i
    · subst h; rw [put_same]
    · rw [put_ne S _ h]
  · rw [upd_same, row_set]
  · rw [upd_ne (tup_ne _ _ ht)]; exact ht
  · rw [upd_ne (tup_ne b xs z)]; exact z
  · rw [upd_ne L.kr]; exact z
/-- a name leaves -/
theorem LevAt.setK (L : LevAt CL H A n S gone) (hg : i ∉ gone) {ks : Nat → Addr} (hk1 : H A.k = some (.dK (kvOf gone ks))) (hk2 : ∀ j ∈ gone, H (ks j) = some (.tup (nV (S j).rd))) {t : Addr} (ht : H t = some (.tup (nV (S i).rd))) :
    LevAt CL (upd H A.k (.dK (kvOf gone ks ++ [(Sum.inl (i : Int), V.ref t)]))) A n S (gone ++ [i]) := by
  obtain ⟨ts, hr1, hr2⟩ := L.r
  have tup_ne : ∀ b xs, H b = some (.tup xs) → b ≠ A.k := fun b xs z => ne_of z hk1 (by intro y; cases y)
  refine ⟨?_, ?_, ?_, ⟨ts, ?_, fun j hj => ?_⟩, ⟨fun j => if j = i then t else ks j, ?_, fun j hj => ?_⟩, L.ws, L.wr, L.sr⟩
  · rw [upd_ne L.kp.symm]; exact L.ob
  · rw [upd_ne L.kw.symm]; exact L.w
  · rw [upd_ne L.ks.symm]; exact L.s
  · rw [upd_ne L.kr.symm]; exact hr1
  · rw [upd_ne (tup_ne _ _ (hr2 j hj))]; exact hr2 j hj
  · rw [upd_same, List.map_append]
    congr 3
    · refine List.map_congr_left fun j hj => ?_
      have h : j ≠ i := fun z => hg (z ▸ hj)
      show _ = ((Sum.inl (j : Int) : Key), V.ref (if j = i then t else ks j))
      rw [if_neg h]
    · show _ = [((Sum.inl (i : Int) : Key), V.ref (if i = i then t else ks i))]
      rw [if_pos rfl]
  · show upd H A.k _ (if j = i then t else ks j) = _
    by_cases h : j = i
    · subst h
      rw [if_pos rfl, upd_ne (tup_ne _ _ ht)]
      exact ht
    · rw [if_neg h]
      have hj : j ∈ gone := by
        rcases List.mem_append.mp hj with hj | hj
        · exact hj
        · exact absurd (List.mem_singleton.mp hj) h
      rw [upd_ne (tup_ne _ _ (hk2 j hj))]
      exact hk2 j hj
end
/-- step -/
def spStep (K : PySem.W.Frag) (CL CN : Addr) : Sp := fun vs H Q E => ∃ (A : LA) (n : Nat) (S : Sys) (gone : List Nat) (v : V) (tn : String), vs = [.ref A.p, v] ∧ LevAt CL H A n S gone ∧ 1 ≤ n ∧ n ≤ 6 ∧ gone.length ≤ 1000 ∧ (∀ i, i < n → (S i).rd.length ≤ 1000) ∧ Sm K H v tn ∧
  (∀ i : Nat, v = .int (i : Int) → i < n → i ∉ gone → ∀ x H', LevAt CL H' A n (K7M.put S i (stp n S i)) (if lvs n S i = true then gone ++ [i] else gone) → Kept A.foot H H' →
    (lvs n S i = false → x = .non) → (lvs n S i = true → ∃ t, x = .ref t ∧ H' t = some (.tup (nV (stp n S i).rd))) → Q x H') ∧
  (nameOf n v = none → rsd CN "name" v H E) ∧ (∀ i : Nat, v = .int (i : Int) → i ∈ gone → rsd CN "name" v H E)
theorem nameOf_some {n : Nat} {v : V} {i : Nat} (h : nameOf n v = some i) : v = .int (i : Int) ∧ i < n := by
  unfold nameOf at h
  cases v with
  | int z =>
    dsimp only at h
    by_cases hz : 0 ≤ z ∧ z < n
    · rw [if_pos hz] at h
      have := Option.some.inj h
      refine ⟨?_, by omega⟩
      congr 1
      omega
    · rw [if_neg hz] at h
      cases h
  | _ => cases h
section
variable {P : Program} {w : World} {K : PySem.W.Frag} {mg : Str → Option Value} {base : Heap} {CN CB CL : Addr}
theorem scStep : FnScope ["self", "name", "turn"] ["self", "name"] (defScope mStep) := ⟨rfl, rfl, rfl, by decide +kernel, rfl, by decide +kernel, by decide +kernel⟩
theorem ok_mstep {f : Addr} {fd : FuncData} (F : Fun K "step" "Levels.step" mStep f fd) (T : Errs P w K mg CN CB) (cL : LevC K CL) (m_len : mg "len" = none)
    (D_mcheck : Mok P w K mg base CL 3 "_check" ["self", "name"] (spCheck K CL CN)) (D_mread : Mok P w K mg base CL 1 "_read_cell" ["self", "name", "cell"] (spRead CL)) : FnOk P w K mg base (L2.CX P w) 4 f fd ["self", "name"] (spStep K CL CN) := by
  refine F.okX scStep (fun vs H Q E h => ?_) (fun cdv A outer s H vs Q E hr h => ?_)
  · obtain ⟨A, n, S, gone, v, tn, rfl, _⟩ := h
    rfl
  · obtain ⟨A, n, S, gone, v, tn, rfl, L, n1, n6, hgl, hrd, hS, k, kn, kg⟩ := h
    obtain ⟨fI, TN, RN⟩ := T.nm
    have sc := scStep
    have hu := hu_of hr
    refine ⟨_, (pss_cons (ps_expr (pe_mX (pv 0) cL.c D_mcheck (hr.mono (by decide)) (takes_of rfl rfl rfl rfl) (pa_cons (pv 1) pa_nil)))
      (pss_cons (ps_if (pt_cmp (pc_din hu (pv 1) (pe_fld (pv 0) rfl))) (pss_one (ps_raise rfl (takes_of rfl rfl rfl rfl) (pmk_er (k := 0) (okV := fun _ => True) TN RN (fun _ _ _ _ => trivial) (hr.mono (by decide)) (by rfl) T.gN (pa_cons (pv 1) pa_nil)))) pss_nil)
      (pss_cons (ps_set (i := 2) sc.nd rfl (Or.inl rfl) (pe_op op_mod (pe_ix ix_list (pe_fld (pv 0) rfl) (pv 1) (fun _ _ => rfl)) (pe_op op_add (pe_fld (pv 0) rfl) pe_int)))
      (pss_cons (ps_augS (pe_fld (pv 0) rfl) (pv 1) pget_list pe_int ip_add set_list)
      (pss_cons (ps_if (pt_cmpR op_eq (pv 2) pe_int (nomark _)) (pss_cons (ps_augS (pe_fld (pv 0) rfl) (pv 1) pget_list pe_int ip_sub set_list)
      (pss_cons (ps_asg (pe_tup pa_nil) (pg_sub (pe_fld (pv 0) rfl) (pv 1) set_list))
      (pss_one (ps_ret pe_non)))) pss_nil)
      (pss_cons (ps_expr (pe_m (pv 0) cL.c D_mread (hr.mono (by decide)) (pa_cons (pv 1) (pa_cons (pe_op op_sub (pv 2) pe_int) pa_nil))))
      (pss_cons (ps_if (PW.pt (pw_or (pt_cmpR op_lt (pv 2) (pe_fld (pv 0) rfl) (nomark _)) (pw_or1 (pt_cmpR op_lt (pe_callB c_len (by rfl) m_len PySem.boot_len (pa_cons (pe_ix ix_list (pe_fld (pv 0) rfl) (pv 1) (fun _ _ => rfl)) pa_nil)) (pe_ix ix_list (pe_fld (pv 0) rfl) (pv 1) (fun _ _ => rfl)) (nomark _))))) (pss_one (ps_ret pe_non)) pss_nil)
      (pss_cons (ps_dput hu (pe_fld (pv 0) rfl) (pv 1) (pe_ix ix_list (pe_fld (pv 0) rfl) (pv 1) (fun _ _ => rfl)) rfl)
      (pss_one (ps_ret (pe_ix ix_list (pe_fld (pv 0) rfl) (pv 1) (fun _ _ => rfl)))))))))))), ?_⟩
    walk_at "go"
    refine r_mthK L.ob (fs_no A n (by decide +kernel) (by decide +kernel) (by decide +kernel) (by decide +kernel) (by decide +kernel)) ?_
    walk_at "go"
    refine ⟨A, n, v, tn, rfl, L.ob, hS, fun ho H1 s1 => ?_, fun h0 => kn h0⟩
    obtain ⟨i, hio⟩ := Option.isSome_iff_exists.mp ho
    obtain ⟨rfl, hi⟩ := nameOf_some hio
    have L1 := L.lift s1
    obtain ⟨ks, hk1, hk2⟩ := L1.k
    walk_at "go"
    refine r_fldR L1.ob cL.c cL.nk (fs_k A n) ?_
    walk_at "go"
    refine r_dinK (.inl hk1) ?_
    walk_at "go"
    by_cases hg : i ∈ gone
    · rw [val_in hg]
      refine iteT ?_
      walk_at "go"
      exact r_mkK trivial fun d hd => rsd_new (kg i rfl hg) s1 hd
    rw [val_out hg]
    refine iteF ?_
    walk_at "go"
    refine r_fldR L1.ob cL.c cL.ns (fs_s A n) ?_
    walk_at "go"
    refine r_ixL (SqL.of L1.s) (atI_nat (row_at _ hi)) ?_
    walk_at "go"
    refine r_fldR L1.ob cL.c cL.nz (fs_size A n) ?_
    walk_at "go"
    refine r_I (by omega) ?_
    walk_at "go"
    refine r_fldR L1.ob cL.c cL.ns (fs_s A n) ?_
    walk_at "go"
    refine r_getL (SqL.of L1.s) (row_at _ hi) ?_
    walk_at "go"
    refine r_setL L1.s (by rw [row_len]; exact ix_nat hi) ?_
    have L2 := L1.setS hi hg ((S i).cnt + 1)
    have ec : V.int (((S i).cnt : Int) + 1) = V.int (((S i).cnt + 1 : Nat) : Int) := by rw [Int.natCast_add]; rfl
    rw [ec]
    generalize hH2 : upd H1 A.s (.lst ((row n fun j => V.int ((S j).cnt : Int)).set i (.int (((S i).cnt + 1 : Nat) : Int)))) = H2 at L2 ⊢
    have k12 : Kept A.foot H1 H2 := by rw [← hH2]; exact (Kept.refl _ H1).mut (by simp)
    have k02 : Kept A.foot H H2 := (Kept.of s1).trans k12
    have et : (((S i).cnt : Int) % ((n : Int) + 1)) = (((S i).cnt % (n + 1) : Nat) : Int) := by rw [Int.natCast_emod]; rfl
    rw [et]
    walk_at "go"
    have hn0 : (S i).cnt % (n + 1) < n + 1 := Nat.mod_lt _ (Nat.succ_pos n)
    refine ite2 (fun h0 => ?_) fun h0 => ?_
    · have h0 : (S i).cnt % (n + 1) = 0 := by have := of_decide_eq_true h0; omega
      have es : stp n S i = ⟨(S i).lev - 1, (S i).cnt + 1, []⟩ := if_pos h0
      have hv : ¬ lvs n S i = true := fun z => by
        have := (of_decide_eq_true z).1
        omega
      walk_at "go"
      refine r_fldR L2.ob cL.c cL.nw (fs_w A n) ?_
      walk_at "go"
      refine r_getL (SqL.of L2.w) (row_at _ hi) ?_
      walk_at "go"
      refine r_setL L2.w (by rw [row_len]; exact ix_nat hi) ?_
      have L3 := L2.setW hi hg ((K7M.put S i ⟨(S i).lev, (S i).cnt + 1, (S i).rd⟩ i).lev - 1)
      generalize hH3 : upd H2 A.w _ = H3 at L3 ⊢
      have k23 : Kept A.foot H2 H3 := by rw [← hH3]; exact (Kept.refl _ H2).mut (by simp)
      walk_at "go"
      refine ⟨by decide, fun p hp => ?_⟩
      have L3' := L3.lift (same_new (o := .tup []) hp)
      obtain ⟨ts, hr1, hr2⟩ := L3'.r
      walk_at "go"
      refine r_fldR L3'.ob cL.c cL.nr (fs_r A n) ?_
      walk_at "go"
      refine r_setL hr1 (by rw [row_len]; exact ix_nat hi) ?_
      have L4 := L3'.setR hg hr1 hr2 (t := p) (l := []) upd_same
      walk_at "go"
      simp only [put_put, put_same] at L4
      rw [← es] at L4
      refine k i rfl hi hg _ _ (by rw [if_neg hv]; exact L4) (Kept.trans (k02.trans k23) ((Kept.refl _ _).new hp |>.mut (by simp))) (fun _ => rfl) fun z => absurd z hv
    · have h0 : ¬ (S i).cnt % (n + 1) = 0 := fun z => h0 (decide_eq_true (by omega))
      have es : stp n S i = ⟨(S i).lev, (S i).cnt + 1, if (S ((S i).cnt % (n + 1) - 1)).lev ≤ (S i).lev then (S i).rd ++ [(S i).cnt % (n + 1) - 1] else (S i).rd⟩ := if_neg h0
      walk_at "go"
      refine r_mthK L2.ob (fs_no A n (by decide +kernel) (by decide +kernel) (by decide +kernel) (by decide +kernel) (by decide +kernel)) ?_
      walk_at "go"
      refine ⟨A, n, _, gone, i, (S i).cnt % (n + 1) - 1, ?_, L2, hi, by omega, hg, by rw [put_same]; exact hrd i hi, fun H3 L3 k23 => ?_⟩
      · rw [show (((S i).cnt % (n + 1) : Nat) : Int) - 1 = (((S i).cnt % (n + 1) - 1 : Nat) : Int) by omega]
        rfl
      simp only [put_put, put_same] at L3
      have er : rdTo (K7M.put S i ⟨(S i).lev, (S i).cnt + 1, (S i).rd⟩) i ((S i).cnt % (n + 1) - 1) = if (S ((S i).cnt % (n + 1) - 1)).lev ≤ (S i).lev then (S i).rd ++ [(S i).cnt % (n + 1) - 1] else (S i).rd := by
        unfold rdTo
        have e1 : (K7M.put S i ⟨(S i).lev, (S i).cnt + 1, (S i).rd⟩ ((S i).cnt % (n + 1) - 1)).lev = (S ((S i).cnt % (n + 1) - 1)).lev := by
          by_cases hc : (S i).cnt % (n + 1) - 1 = i
          · rw [hc, put_same]
          · rw [put_ne _ _ hc]
        rw [e1, put_same]
      rw [er, ← es] at L3
      have k03 : Kept A.foot H H3 := k02.trans k23
      walk_at "go"
      refine r_fldR L3.ob cL.c cL.nz (fs_size A n) ?_
      walk_at "go"
      have e3 : K7M.put S i (stp n S i) i = stp n S i := put_same _ _ _
      refine ite2 (fun h1 => ?_) fun h1 => ?_
      · have h1 := of_decide_eq_true h1
        have hv : ¬ lvs n S i = true := fun z => by
          have := (of_decide_eq_true z).1
          omega
        walk_at "go"
        exact k i rfl hi hg _ _ (by rw [if_neg hv]; exact L3) k03 (fun _ => rfl) fun z => absurd z hv
      have h1 : ¬ (((S i).cnt % (n + 1) : Nat) : Int) < (n : Int) := fun z => h1 (decide_eq_true z)
      obtain ⟨ts, hr1, hr2⟩ := L3.r
      walk_at "go"
      refine r_fldR L3.ob cL.c cL.nr (fs_r A n) ?_
      walk_at "go"
      refine r_ixL (SqL.of hr1) (atI_nat (row_at _ hi)) ?_
      walk_at "go"
      refine r_lenT (SqT.of (hr2 i hi)) ?_
      walk_at "go"
      refine r_fldR L3.ob cL.c cL.nw (fs_w A n) ?_
      walk_at "go"
      refine r_ixL (SqL.of L3.w) (atI_nat (row_at _ hi)) ?_
      walk_at "go"
      rw [e3, nV_len]
      refine ite2 (fun h2 => ?_) fun h2 => ?_
      · have h2 := of_decide_eq_true h2
        have hv : ¬ lvs n S i = true := fun z => by
          have := (of_decide_eq_true z).2
          omega
        walk_at "go"
        exact k i rfl hi hg _ _ (by rw [if_neg hv]; exact L3) k03 (fun _ => rfl) fun z => absurd z hv
      have h2 : ¬ ((stp n S i).rd.length : Int) < (stp n S i).lev := fun z => h2 (decide_eq_true z)
      have hv : lvs n S i = true := decide_eq_true ⟨by omega, by omega⟩
      obtain ⟨ks3, hk1, hk2⟩ := L3.k
      walk_at "go"
      refine r_fldR L3.ob cL.c cL.nr (fs_r A n) ?_
      walk_at "go"
      refine r_ixL (SqL.of hr1) (atI_nat (row_at _ hi)) ?_
      walk_at "go"
      refine r_fldR L3.ob cL.c cL.nk (fs_k A n) ?_
      walk_at "go"
      refine r_dputK hk1 (Nat.lt_of_le_of_lt (m := 1000) (by rw [List.length_map]; exact hgl) (by decide)) ?_
      rw [putK_new _ (val_out hg)]
      have L4 := L3.setK hg hk1 hk2 (hr2 i hi)
      generalize hH4 : upd H3 A.k _ = H4 at L4 ⊢
      have k34 : Kept A.foot H3 H4 := by rw [← hH4]; exact (Kept.refl _ H3).mut (by simp)
      obtain ⟨ts4, hr3, hr4⟩ := L4.r
      walk_at "go"
      refine r_fldR L4.ob cL.c cL.nr (fs_r A n) ?_
      walk_at "go"
      refine r_ixL (SqL.of hr3) (atI_nat (row_at _ hi)) ?_
      have := hr4 i hi
      rw [e3] at this
      exact k i rfl hi hg _ _ (by rw [if_pos hv]; exact L4) (k03.trans k34) (fun z => by rw [hv] at z; cases z) fun _ => ⟨_, rfl, this⟩
end
end K8
namespace K8
open PySem L2 Er K7M
/-- one step of a plain reading -/
local macro_rules | `(tactic| walk_at "step") => `(tactic| first
  | with_reducible refine r_seq ?_ | with_reducible refine r_nx ?_ | with_reducible refine r_asgN ?_ | with_reducible refine r_asgS ?_ | with_reducible refine r_asgT ?_ | with_reducible refine r_ifS ?_
  | with_reducible refine r_ret ?_ | with_reducible refine r_retN ?_ | with_reducible refine r_drop ?_ | with_reducible refine r_test ?_ | with_reducible refine r_B ?_ | with_reducible refine r_not ?_
  | with_reducible refine r_and ?_ | with_reducible refine r_or ?_ | with_reducible refine r_andV ?_ | with_reducible refine r_orV ?_ | with_reducible refine r_notV ?_
  | ((with_reducible refine' r_var ?e ?_); (case e => exact rfl)) | with_reducible refine r_c ?_ | with_reducible refine r_op ?_ | with_reducible refine r_un ?_
  | with_reducible refine r_I0 ?_ | with_reducible refine r_eqI ?_ | with_reducible refine r_neI ?_ | with_reducible refine r_bl ?_ | with_reducible refine r_nil ?_ | with_reducible refine r_cons ?_
  | with_reducible refine r_cb ?_ | with_reducible refine r_call ?_ | with_reducible refine r_tup ?_ | with_reducible refine r_lst ?_ | with_reducible refine r_fld ?_ | with_reducible refine r_bm ?_ | with_reducible refine r_bm0 ?_
  | with_reducible refine r_for ?_ | with_reducible refine r_rng ?_ | with_reducible refine r_rng2 ?_ | with_reducible refine r_lstI ?_ | with_reducible refine r_tupI ?_ | with_reducible refine r_lc ?_
  | with_reducible refine r_augS ?_ | with_reducible refine r_ipI ?_
  | with_reducible refine r_meth ?_ | with_reducible refine r_prop ?_ | with_reducible refine r_make ?_ | with_reducible refine r_din ?_ | with_reducible refine r_dnin ?_ | with_reducible refine r_dput ?_ | with_reducible refine r_dget ?_
  | with_reducible refine r_gN ?_ | with_reducible refine r_tsl ?_ | with_reducible refine r_noP ?_ | with_reducible refine r_part ?_ | with_reducible refine r_pI ?_ | with_reducible refine r_tif ?_ | with_reducible refine r_SL ?_ | with_reducible refine r_gC ?_ | with_reducible refine r_U ?_ | with_reducible refine r_sfld ?_ | with_reducible refine r_dnew ?_ | with_reducible refine r_keys ?_
  | with_reducible refine r_mkE ?_ | with_reducible refine iteT ?_ | with_reducible refine iteF ?_
  | with_reducible refine r_int ?_ | with_reducible refine r_min2 ?_ | with_reducible refine r_isN ?_ | with_reducible refine r_notN ?_)
/-- as far as it goes by itself -/
local macro_rules | `(tactic| walk_at "go") => `(tactic| ((repeat walk_at "step"); (try dsimp only)))

/-- level, taken -/
def spTell (K : PySem.W.Frag) (CL CN : Addr) (g : NS → Int) : Sp := fun vs H Q E => ∃ (A : LA) (n : Nat) (S : Sys) (gone : List Nat) (v : V) (tn : String), vs = [.ref A.p, v] ∧ LevAt CL H A n S gone ∧ Sm K H v tn ∧
  (∀ i : Nat, v = .int (i : Int) → i < n → ∀ H', Same H H' → Q (.int (g (S i))) H') ∧ (nameOf n v = none → rsd CN "name" v H E)
/-- the names that have taken a step -/
def wroteOf (n : Nat) (S : Sys) : List Nat := (List.range n).filter fun j => decide (0 < (S j).cnt)
/-- those of gone, in order -/
def inOrder (n : Nat) (gone : List Nat) : List Nat := (List.range n).filter fun j => decide (j ∈ gone)
def spWrote (CL : Addr) : Sp := fun vs H Q _ => ∃ (A : LA) (n : Nat) (S : Sys) (gone : List Nat), vs = [.ref A.p] ∧ LevAt CL H A n S gone ∧ n ≤ 6 ∧ ∀ t H', H t = none → Same H H' → H' t = some (.tup (nV (wroteOf n S))) → Q (.ref t) H'
def spGone (CL : Addr) : Sp := fun vs H Q _ => ∃ (A : LA) (n : Nat) (S : Sys) (gone : List Nat), vs = [.ref A.p] ∧ LevAt CL H A n S gone ∧ n ≤ 6 ∧ gone.Nodup ∧ (∀ i ∈ gone, i < n) ∧ ∀ t H', H t = none → Same H H' → H' t = some (.tup (nV (inOrder n gone))) → Q (.ref t) H'
theorem perm_inOrder {n : Nat} {gone : List Nat} (nd : gone.Nodup) (h : ∀ i ∈ gone, i < n) : (inOrder n gone).Perm gone := by
  refine (List.perm_ext_iff_of_nodup (List.nodup_range.filter _) nd).mpr fun a => ?_
  rw [List.mem_filter, List.mem_range, decide_eq_true_iff]
  exact ⟨fun z => z.2, fun z => ⟨h a z, z⟩⟩
theorem ints_nV (l : List Nat) : nV l = (l.map fun (i : Nat) => (i : Int)).map V.int := by
  unfold nV
  rw [List.map_map]
  rfl
theorem range_up (n : Nat) (f : Nat → Bool) : (((List.range n).filter f).map fun (i : Nat) => (i : Int)).Pairwise (· ≤ ·) := by
  rw [List.pairwise_map]
  exact ((List.pairwise_lt_range (n := n)).filter f).imp fun {a b} h => by omega
theorem len_inOrder (n : Nat) (gone : List Nat) : (inOrder n gone).length ≤ n := by
  have := List.length_filter_le (fun j => decide (j ∈ gone)) (List.range n)
  rw [List.length_range] at this
  exact this
theorem none_of_upd {H : Hp} {p q : Addr} {o : HO} (h : upd H p o q = none) : H q = none := by
  by_cases e : q = p
  · subst e
    rw [upd_same] at h
    cases h
  · rwa [upd_ne e] at h
theorem none_of_same {H H' : Hp} {q : Addr} (s : Same H H') (h : H' q = none) : H q = none := by
  cases e : H q with
  | none => rfl
  | some o =>
    rw [s _ _ e] at h
    cases h
section
variable {P : Program} {w : World} {K : PySem.W.Frag} {mg : Str → Option Value} {base : Heap} {CN CB CL : Addr}
theorem scLevel : FnScope ["self", "name"] ["self", "name"] (defScope mLevel) := ⟨rfl, rfl, rfl, by decide +kernel, rfl, by decide +kernel, by decide +kernel⟩
theorem ok_level {f : Addr} {fd : FuncData} (F : Fun K "level" "Levels.level" mLevel f fd) (cL : LevC K CL)
    (D_mcheck : Mok P w K mg base CL 3 "_check" ["self", "name"] (spCheck K CL CN)) : FnOk P w K mg base (L2.CX P w) 4 f fd ["self", "name"] (spTell K CL CN fun x => x.lev) := by
  refine F.okX scLevel (fun vs H Q E h => ?_) (fun cdv A outer s H vs Q E hr h => ?_)
  · obtain ⟨A, n, S, gone, v, tn, rfl, _⟩ := h
    rfl
  · obtain ⟨A, n, S, gone, v, tn, rfl, L, hS, k, kn⟩ := h
    refine ⟨_, (pss_cons (ps_expr (pe_mX (pv 0) cL.c D_mcheck (hr.mono (by decide)) (takes_of rfl rfl rfl rfl) (pa_cons (pv 1) pa_nil)))
      (pss_one (ps_ret (pe_ix ix_list (pe_fld (pv 0) rfl) (pv 1) (fun _ _ => rfl))))), ?_⟩
    walk_at "go"
    refine r_mthK L.ob (fs_no A n (by decide +kernel) (by decide +kernel) (by decide +kernel) (by decide +kernel) (by decide +kernel)) ?_
    walk_at "go"
    refine ⟨A, n, v, tn, rfl, L.ob, hS, fun ho H1 s1 => ?_, fun h0 => kn h0⟩
    obtain ⟨i, hio⟩ := Option.isSome_iff_exists.mp ho
    obtain ⟨rfl, hi⟩ := nameOf_some hio
    have L1 := L.lift s1
    walk_at "go"
    refine r_fldR L1.ob cL.c cL.nw (fs_w A n) ?_
    walk_at "go"
    refine r_ixL (SqL.of L1.w) (atI_nat (row_at _ hi)) ?_
    exact k i rfl hi _ s1
theorem scWrote : FnScope ["self", "name"] ["self"] (defScope mWrote) := ⟨rfl, rfl, rfl, by decide +kernel, rfl, by decide +kernel, by decide +kernel⟩
theorem ok_wrote {f : Addr} {fd : FuncData} (F : Fun K "wrote" "Levels.wrote" mWrote f fd) (cL : LevC K CL) (m_tuple : mg "tuple" = none) (m_range : mg "range" = none) : FnOk P w K mg base (L2.CX P w) 1 f fd ["self"] (spWrote CL) := by
  refine F.okX scWrote (fun vs H Q E h => ?_) (fun cdv A outer s H vs Q E hr h => ?_)
  · obtain ⟨A, n, S, gone, rfl, _⟩ := h
    rfl
  · obtain ⟨A, n, S, gone, rfl, L, n6, k⟩ := h
    have sc := scWrote
    refine ⟨_, (pss_one (ps_ret (pe_callTy c_tuple (by rfl) m_tuple (by decide +kernel) (pa_cons (pe_lc (own := [("name", 1)]) (g := gName 1)  rfl sc.nd (pi_range1 (by rfl) m_range (pa_cons (pe_fld (pv 0) rfl) pa_nil)) (blkOk_by (own := [("name", 1)]) (N := ["self", "name"]) (sc := defScope mWrote) (by decide +kernel)) (fun _ _ _ _ _ => pg_name (i := 1) sc.nd rfl (Or.inl rfl)) (fun _ _ _ _ _ => (pts_one (pt_cmpR op_gt (pe_ix (ixL K) (fldE K (pv 0)) (pv 1) (fun _ _ => rfl)) pe_int (nomark _)))) (fun _ _ _ _ _ => (pv 1))) pa_nil)))), ?_⟩
    walk_at "go"
    refine r_fldR L.ob cL.c cL.nz (fs_size A n) ?_
    walk_at "go"
    refine r_rngK n (by omega) (by omega) ?_
    refine r_lcR (fun j => decide (0 < (S j).cnt)) (fun (c : Nat) => V.int (c : Int)) (by omega) (fun _ => rfl) (fun i H1 hi s1 QT q => ?_) (fun i H1 hi _ s1 Q q => ?_) fun p H1 hp s1 h1 => ?_
    · have L1 := L.lift s1
      walk_at "go"
      refine r_fldR L1.ob cL.c cL.ns (fs_s A n) ?_
      walk_at "go"
      refine r_ixL (SqL.of L1.s) (atI_nat (row_at _ hi)) ?_
      walk_at "go"
      have e : decide ((0 : Int) < ((S i).cnt : Int)) = decide (0 < (S i).cnt) := decide_eq_decide.mpr (by omega)
      rw [e]
      exact q H1 (Same.refl H1)
    · walk_at "go"
      exact q H1 (Same.refl H1)
    · walk_at "go"
      refine r_tupL (SqL.of h1) fun t ht => ?_
      refine k t _ ?_ (s1.trans (same_new ht)) upd_same
      exact none_of_same s1 ht
end
end K8
namespace K8
open PySem L2 Er K7M
/-- one step of a plain reading -/
local macro_rules | `(tactic| walk_at "step") => `(tactic| first
  | with_reducible refine r_seq ?_ | with_reducible refine r_nx ?_ | with_reducible refine r_asgN ?_ | with_reducible refine r_asgS ?_ | with_reducible refine r_asgT ?_ | with_reducible refine r_ifS ?_
  | with_reducible refine r_ret ?_ | with_reducible refine r_retN ?_ | with_reducible refine r_drop ?_ | with_reducible refine r_test ?_ | with_reducible refine r_B ?_ | with_reducible refine r_not ?_
  | with_reducible refine r_and ?_ | with_reducible refine r_or ?_ | with_reducible refine r_andV ?_ | with_reducible refine r_orV ?_ | with_reducible refine r_notV ?_
  | ((with_reducible refine' r_var ?e ?_); (case e => exact rfl)) | with_reducible refine r_c ?_ | with_reducible refine r_op ?_ | with_reducible refine r_un ?_
  | with_reducible refine r_I0 ?_ | with_reducible refine r_eqI ?_ | with_reducible refine r_neI ?_ | with_reducible refine r_bl ?_ | with_reducible refine r_nil ?_ | with_reducible refine r_cons ?_
  | with_reducible refine r_cb ?_ | with_reducible refine r_call ?_ | with_reducible refine r_tup ?_ | with_reducible refine r_lst ?_ | with_reducible refine r_fld ?_ | with_reducible refine r_bm ?_ | with_reducible refine r_bm0 ?_
  | with_reducible refine r_for ?_ | with_reducible refine r_rng ?_ | with_reducible refine r_rng2 ?_ | with_reducible refine r_lstI ?_ | with_reducible refine r_tupI ?_ | with_reducible refine r_lc ?_
  | with_reducible refine r_augS ?_ | with_reducible refine r_ipI ?_
  | with_reducible refine r_meth ?_ | with_reducible refine r_prop ?_ | with_reducible refine r_make ?_ | with_reducible refine r_din ?_ | with_reducible refine r_dnin ?_ | with_reducible refine r_dput ?_ | with_reducible refine r_dget ?_
  | with_reducible refine r_gN ?_ | with_reducible refine r_tsl ?_ | with_reducible refine r_noP ?_ | with_reducible refine r_part ?_ | with_reducible refine r_pI ?_ | with_reducible refine r_tif ?_ | with_reducible refine r_SL ?_ | with_reducible refine r_gC ?_ | with_reducible refine r_U ?_ | with_reducible refine r_sfld ?_ | with_reducible refine r_dnew ?_ | with_reducible refine r_keys ?_
  | with_reducible refine r_mkE ?_ | with_reducible refine iteT ?_ | with_reducible refine iteF ?_
  | with_reducible refine r_int ?_ | with_reducible refine r_min2 ?_ | with_reducible refine r_isN ?_ | with_reducible refine r_notN ?_)
/-- as far as it goes by itself -/
local macro_rules | `(tactic| walk_at "go") => `(tactic| ((repeat walk_at "step"); (try dsimp only)))

/-- Levels.__init__ on a new instance -/
def spInit (K : PySem.W.Frag) (CL CB : Addr) : Sp := fun vs H Q E => ∃ (x dx : Addr) (v : V) (tn : String), vs = [.ref x, v] ∧ H x = some (.ins CL dx []) ∧ Sm K H v tn ∧
  (∀ n : Nat, v = .int (n : Int) → 1 ≤ n → n ≤ 6 → ∀ (A : LA) H', A.p = x → (∀ b ∈ A.foot, H b = none) → LevAt CL H' A n (K7M.init n) [] → Kept [x] H H' → Q .non H') ∧
  (okSize v = false → rsd CB "word" (.str "size") H E)
theorem rep_row (n : Nat) (v : V) : List.replicate n v = row n fun _ => v := by
  unfold row
  rw [List.map_const', List.length_range]
theorem okSize_some {v : V} (h : okSize v = true) : ∃ n : Nat, v = .int (n : Int) ∧ 1 ≤ n ∧ n ≤ 6 := by
  cases v with
  | int i =>
    have := of_decide_eq_true h
    exact ⟨i.toNat, by congr 1; omega, by omega, by omega⟩
  | _ => cases h
/-- an instance at x under way: its fields, the new objects -/
theorem pl {f : Str} {v : V} {fs : List (Str × V)} {k : Nat} (h : fs.length ≤ k) : (putF f v fs).length ≤ k + 1 := Nat.le_trans (length_putF f v fs) (Nat.succ_le_succ h)
structure Ini (H : Hp) (CL x dx : Addr) (fs : List (Str × V)) (os : List (Addr × HO)) (Hk : Hp) : Prop where
  kept : Kept [x] H Hk
  at_ : Hk x = some (.ins CL dx fs)
  objs : ∀ q ∈ os, Hk q.1 = some q.2 ∧ q.1 ≠ x ∧ H q.1 = none
  nd : (os.map (·.1)).Nodup
section
variable {H Hk H' : Hp} {CL x dx p : Addr} {fs : List (Str × V)} {os : List (Addr × HO)} {o : HO}
theorem Ini.none_ (h : Ini H CL x dx fs os Hk) (hp : Hk p = none) : H p = none := by
  cases e : H p with
  | none => rfl
  | some u =>
    have ne : p ≠ x := fun z => by
      subst z
      rw [h.at_] at hp
      cases hp
    rw [h.kept p u e (by simpa using ne)] at hp
    cases hp
theorem Ini.new (h : Ini H CL x dx fs os Hk) (hp : Hk p = none) : Ini H CL x dx fs ((p, o) :: os) (upd Hk p o) := by
  have ne : ∀ {q u}, Hk q = some u → q ≠ p := fun {q u} e z => by
    subst z
    rw [e] at hp
    cases hp
  refine ⟨h.kept.new (h.none_ hp), by rw [upd_ne (ne h.at_)]; exact h.at_, fun q hq => ?_, ?_⟩
  · rcases List.mem_cons.mp hq with rfl | hq
    · exact ⟨upd_same, fun z => ne h.at_ z.symm, h.none_ hp⟩
    · obtain ⟨a, b, c⟩ := h.objs q hq
      exact ⟨by rw [upd_ne (ne a)]; exact a, b, c⟩
  · refine List.nodup_cons.mpr ⟨fun z => ?_, h.nd⟩
    obtain ⟨q, hq, e⟩ := List.mem_map.mp z
    exact ne (h.objs q hq).1 e
theorem Ini.set (h : Ini H CL x dx fs os Hk) (fs' : List (Str × V)) : Ini H CL x dx fs' os (upd Hk x (.ins CL dx fs')) := by
  refine ⟨h.kept.mut (by simp), upd_same, fun q hq => ?_, h.nd⟩
  obtain ⟨a, b, c⟩ := h.objs q hq
  exact ⟨by rw [upd_ne b]; exact a, b, c⟩
end
section
variable {P : Program} {w : World} {K : PySem.W.Frag} {mg : Str → Option Value} {base : Heap} {CN CB CL : Addr}
theorem scInit : FnScope ["self", "size"] ["self", "size"] (defScope mInit) := ⟨rfl, rfl, rfl, by decide +kernel, rfl, by decide +kernel, by decide +kernel⟩
theorem ok_init {f : Addr} {fd : FuncData} (F : Fun K "__init__" "Levels.__init__" mInit f fd) (cL : LevC K CL) (D_checksize : Fok P w K mg base 3 "check_level_size" ["size"] (spCheckSize K CB)) :
    FnOk P w K mg base (L2.CX P w) 4 f fd ["self", "size"] (spInit K CL CB) := by
  refine F.okX scInit (fun vs H Q E h => ?_) (fun cdv A outer s H vs Q E hr h => ?_)
  · obtain ⟨x, dx, v, tn, rfl, _⟩ := h
    rfl
  · obtain ⟨x, dx, v, tn, rfl, hx, hS, k, kn⟩ := h
    refine ⟨_, (pss_cons (ps_expr (pe_fX D_checksize (hr.mono (by decide)) (takes_of rfl rfl rfl rfl) (pa_cons (pv 1) pa_nil)))
      (pss_cons (ps_fld (pv 0) (pv 1) rfl)
      (pss_cons (ps_fld (pv 0) (pe_op op_rep (pe_lst (pa_cons (pe_op op_add (pv 1) pe_int) pa_nil)) (pv 1)) rfl)
      (pss_cons (ps_fld (pv 0) (pe_op op_rep (pe_lst (pa_cons pe_int pa_nil)) (pv 1)) rfl)
      (pss_cons (ps_fld (pv 0) (pe_op op_rep (pe_lst (pa_cons (pe_tup pa_nil) pa_nil)) (pv 1)) rfl)
      (pss_one (ps_fld (pv 0) pe_dnewK rfl))))))), ?_⟩
    walk_at "go"
    refine ⟨v, tn, rfl, hS, fun ho H0 s0 => ?_, fun h0 => kn h0⟩
    obtain ⟨n, rfl, n1, n6⟩ := okSize_some ho
    have i0 : Ini H CL x dx [] [] H0 := ⟨Kept.of s0, s0 _ _ hx, fun q hq => (by cases hq), List.nodup_nil⟩
    walk_at "go"
    refine r_sfldK i0.at_ cL.c cL.nz (by simp) ?_
    have i1 := i0.set (putF "_size" (.int n) [])
    generalize upd H0 x _ = H1 at i1 ⊢
    walk_at "go"
    refine ⟨by show 1 ≤ sizeLine; decide, fun l1 hl1 => ?_⟩
    have i2 := i1.new (o := .lst [.int ((n : Int) + 1)]) hl1
    walk_at "go"
    refine r_rep (i2.objs _ (List.mem_cons_self ..)).1 (by omega) fun w hw => ?_
    generalize upd H1 l1 _ = H2 at i2 hw ⊢
    have i3 := i2.new (o := .lst (List.replicate n (.int ((n : Int) + 1)))) hw
    generalize upd H2 w _ = H3 at i3 ⊢
    walk_at "go"
    refine r_sfldK i3.at_ cL.c cL.nw (Nat.lt_of_le_of_lt (pl (Nat.le_refl 0)) (by decide)) ?_
    have i4 := i3.set (putF "_written" (.ref w) (putF "_size" (.int n) []))
    generalize upd H3 x _ = H4 at i4 ⊢
    walk_at "go"
    refine ⟨by show 1 ≤ sizeLine; decide, fun l2 hl2 => ?_⟩
    have i5 := i4.new (o := .lst [.int 0]) hl2
    walk_at "go"
    refine r_rep (i5.objs _ (List.mem_cons_self ..)).1 (by omega) fun sA hs => ?_
    generalize upd H4 l2 _ = H5 at i5 hs ⊢
    have i6 := i5.new (o := .lst (List.replicate n (.int 0))) hs
    generalize upd H5 sA _ = H6 at i6 ⊢
    walk_at "go"
    refine r_sfldK i6.at_ cL.c cL.ns (Nat.lt_of_le_of_lt (pl (pl (Nat.le_refl 0))) (by decide)) ?_
    have i7 := i6.set (putF "_steps" (.ref sA) (putF "_written" (.ref w) (putF "_size" (.int n) [])))
    generalize upd H6 x _ = H7 at i7 ⊢
    walk_at "go"
    refine ⟨by show 0 ≤ sizeLine; decide, fun t0 ht0 => ?_⟩
    have i8 := i7.new (o := .tup []) ht0
    generalize upd H7 t0 _ = H8 at i8 ⊢
    walk_at "go"
    refine ⟨by show 1 ≤ sizeLine; decide, fun l3 hl3 => ?_⟩
    have i9 := i8.new (o := .lst [.ref t0]) hl3
    walk_at "go"
    refine r_rep (i9.objs _ (List.mem_cons_self ..)).1 (by omega) fun rA hr9 => ?_
    generalize upd H8 l3 _ = H9 at i9 hr9 ⊢
    have i10 := i9.new (o := .lst (List.replicate n (.ref t0))) hr9
    generalize upd H9 rA _ = H10 at i10 ⊢
    walk_at "go"
    refine r_sfldK i10.at_ cL.c cL.nr (Nat.lt_of_le_of_lt (pl (pl (pl (Nat.le_refl 0)))) (by decide)) ?_
    have i11 := i10.set (putF "_read" (.ref rA) (putF "_steps" (.ref sA) (putF "_written" (.ref w) (putF "_size" (.int n) []))))
    generalize upd H10 x _ = H11 at i11 ⊢
    walk_at "go"
    intro kA hk
    have i12 := i11.new (o := .dK []) hk
    generalize upd H11 kA _ = H12 at i12 ⊢
    walk_at "go"
    refine r_sfldK i12.at_ cL.c cL.nk (Nat.lt_of_le_of_lt (pl (pl (pl (pl (Nat.le_refl 0))))) (by decide)) ?_
    have i13 := i12.set (putF "_looks" (.ref kA) (putF "_read" (.ref rA) (putF "_steps" (.ref sA) (putF "_written" (.ref w) (putF "_size" (.int n) [])))))
    generalize upd H12 x _ = H13 at i13 ⊢
    have n_w := (i13.objs (w, .lst (List.replicate n (.int ((n : Int) + 1)))) (by simp)).2.2
    have n_sA := (i13.objs (sA, .lst (List.replicate n (.int 0))) (by simp)).2.2
    have n_rA := (i13.objs (rA, .lst (List.replicate n (.ref t0))) (by simp)).2.2
    have n_kA := (i13.objs (kA, .dK []) (by simp)).2.2
    have nd := i13.nd
    simp only [List.map_cons, List.map_nil] at nd
    refine k n rfl n1 n6 ⟨x, dx, w, sA, rA, kA⟩ H13 rfl (fun b hb => ?_) ⟨i13.at_, ?_, ?_, ⟨fun _ => t0, ?_, fun i _ => ?_⟩, ⟨fun _ => t0, ?_, fun i hi => (by cases hi)⟩, ?_, ?_, ?_⟩ i13.kept
    · rcases List.mem_cons.mp hb with rfl | hb
      · exact n_w
      rcases List.mem_cons.mp hb with rfl | hb
      · exact n_sA
      rcases List.mem_cons.mp hb with rfl | hb
      · exact n_rA
      rcases List.mem_cons.mp hb with rfl | hb
      · exact n_kA
      cases hb
    · rw [(i13.objs (w, .lst (List.replicate n (.int ((n : Int) + 1)))) (by simp)).1, rep_row]
      rfl
    · rw [(i13.objs (sA, .lst (List.replicate n (.int 0))) (by simp)).1, rep_row]
      rfl
    · rw [(i13.objs (rA, .lst (List.replicate n (.ref t0))) (by simp)).1, rep_row]
    · rw [(i13.objs (t0, .tup []) (by simp)).1]
      rfl
    · rw [(i13.objs (kA, .dK []) (by simp)).1]
      rfl
    · exact fun z => by
        have z : w = sA := z
        rw [z] at nd
        simp only [List.nodup_cons, List.mem_cons, true_or, or_true, not_true, false_and, and_false] at nd
    · exact fun z => by
        have z : w = rA := z
        rw [z] at nd
        simp only [List.nodup_cons, List.mem_cons, true_or, or_true, not_true, false_and, and_false] at nd
    · exact fun z => by
        have z : sA = rA := z
        rw [z] at nd
        simp only [List.nodup_cons, List.mem_cons, true_or, or_true, not_true, false_and, and_false] at nd
end
end K8
namespace K8
open PySem L2 Er K7M
/-- one step of a plain reading -/
local macro_rules | `(tactic| walk_at "step") => `(tactic| first
  | with_reducible refine r_seq ?_ | with_reducible refine r_nx ?_ | with_reducible refine r_asgN ?_ | with_reducible refine r_asgS ?_ | with_reducible refine r_asgT ?_ | with_reducible refine r_ifS ?_
  | with_reducible refine r_ret ?_ | with_reducible refine r_retN ?_ | with_reducible refine r_drop ?_ | with_reducible refine r_test ?_ | with_reducible refine r_B ?_ | with_reducible refine r_not ?_
  | with_reducible refine r_and ?_ | with_reducible refine r_or ?_ | with_reducible refine r_andV ?_ | with_reducible refine r_orV ?_ | with_reducible refine r_notV ?_
  | ((with_reducible refine' r_var ?e ?_); (case e => exact rfl)) | with_reducible refine r_c ?_ | with_reducible refine r_op ?_ | with_reducible refine r_un ?_
  | with_reducible refine r_I0 ?_ | with_reducible refine r_eqI ?_ | with_reducible refine r_neI ?_ | with_reducible refine r_bl ?_ | with_reducible refine r_nil ?_ | with_reducible refine r_cons ?_
  | with_reducible refine r_cb ?_ | with_reducible refine r_call ?_ | with_reducible refine r_tup ?_ | with_reducible refine r_lst ?_ | with_reducible refine r_fld ?_ | with_reducible refine r_bm ?_ | with_reducible refine r_bm0 ?_
  | with_reducible refine r_for ?_ | with_reducible refine r_rng ?_ | with_reducible refine r_rng2 ?_ | with_reducible refine r_lstI ?_ | with_reducible refine r_tupI ?_ | with_reducible refine r_lc ?_
  | with_reducible refine r_augS ?_ | with_reducible refine r_ipI ?_
  | with_reducible refine r_meth ?_ | with_reducible refine r_prop ?_ | with_reducible refine r_make ?_ | with_reducible refine r_din ?_ | with_reducible refine r_dnin ?_ | with_reducible refine r_dput ?_ | with_reducible refine r_dget ?_
  | with_reducible refine r_gN ?_ | with_reducible refine r_tsl ?_ | with_reducible refine r_noP ?_ | with_reducible refine r_part ?_ | with_reducible refine r_pI ?_ | with_reducible refine r_tif ?_ | with_reducible refine r_SL ?_ | with_reducible refine r_gC ?_ | with_reducible refine r_U ?_ | with_reducible refine r_sfld ?_ | with_reducible refine r_dnew ?_ | with_reducible refine r_keys ?_
  | with_reducible refine r_mkE ?_ | with_reducible refine iteT ?_ | with_reducible refine iteF ?_
  | with_reducible refine r_int ?_ | with_reducible refine r_min2 ?_ | with_reducible refine r_isN ?_ | with_reducible refine r_notN ?_)
/-- as far as it goes by itself -/
local macro_rules | `(tactic| walk_at "go") => `(tactic| ((repeat walk_at "step"); (try dsimp only)))

/-- check_schedule: names, then what is none -/
def spSched (K : PySem.W.Frag) (CN : Addr) : Sp := fun vs H Q E => ∃ (sv : V) (n : Nat), vs = [sv, .int (n : Int)] ∧
  ((∃ (a : Addr) (ks : List Nat) (bad : List V), sv = .ref a ∧ (SqL K H a (nV ks ++ bad) ∨ SqT K H a (nV ks ++ bad)) ∧ (∀ c ∈ ks, c < n) ∧ (bad = [] → ∀ H', Same H H' → Q .non H') ∧
      ∀ v rest, bad = v :: rest → ∃ tn, Sm K H v tn ∧ nameOf n v = none ∧ rsd CN "name" v H E) ∨
    (∃ tn, Sm K H sv tn ∧ (tn == "list" || tn == "tuple") = false ∧ rsd CN "name" (.int (-1)) H E))
theorem sched_at {ks : List Nat} {bad : List V} {i : Nat} {x : V} (h : (nV ks ++ bad)[i]? = some x) (hi : i ≤ ks.length) : (∃ c : Nat, x = .int (c : Int) ∧ c ∈ ks ∧ i + 1 ≤ ks.length) ∨ (i = ks.length ∧ ∃ v rest, x = v ∧ bad = v :: rest) := by
  rcases Nat.lt_or_ge i ks.length with hl | hl
  · left
    rw [List.getElem?_append_left (by rw [nV_len]; exact hl)] at h
    unfold nV at h
    rw [List.getElem?_map, List.getElem?_eq_getElem hl] at h
    exact ⟨ks[i], (Option.some.inj h).symm, List.getElem_mem hl, hl⟩
  · right
    have e : i = ks.length := by omega
    refine ⟨e, ?_⟩
    rw [List.getElem?_append_right (by rw [nV_len]; exact hl), nV_len, e, Nat.sub_self] at h
    cases bad with
    | nil => cases h
    | cons v rest => exact ⟨v, rest, (Option.some.inj h).symm, rfl⟩
section
variable {P : Program} {w : World} {K : PySem.W.Frag} {mg : Str → Option Value} {base : Heap} {CN CB CL : Addr}
theorem scSched : FnScope ["schedule", "size", "entry"] ["schedule", "size"] (defScope sCheckSchedule) := ⟨rfl, rfl, rfl, by decide +kernel, rfl, by decide +kernel, by decide +kernel⟩
theorem ok_sched {f : Addr} {fd : FuncData} (F : Fun K "check_schedule" "check_schedule" sCheckSchedule f fd) (T : Errs P w K mg CN CB) (D_isrow : Fok P w K mg base 1 "is_row" ["thing"] (spThing K fun _ n => n == "list" || n == "tuple"))
    (D_isnat : Fok P w K mg base 2 "is_natural" ["thing"] (spThing K fun v _ => isN v)) : FnOk P w K mg base (L2.CX P w) 3 f fd ["schedule", "size"] (spSched K CN) := by
  refine F.okX scSched (fun vs H Q E h => ?_) (fun cdv A outer s H vs Q E hr h => ?_)
  · obtain ⟨sv, n, rfl, _⟩ := h
    rfl
  obtain ⟨sv, n, rfl, h⟩ := h
  obtain ⟨fI, TN, RN⟩ := T.nm
  have sc := scSched
  rcases h with ⟨a, ks, bad, rfl, hrow | hrow, hks, kg, kb⟩ | ⟨tn, hS, hno, hr9⟩
  · refine ⟨_, (pss_cons (ps_if (pt_not (pt_val (pe_f D_isrow (hr.mono (by decide)) (pa_cons (pv 0) pa_nil)))) (pss_one (ps_raise rfl (takes_of rfl rfl rfl rfl) (pmk_er (k := 0) (okV := fun _ => True) TN RN (fun _ _ _ _ => trivial) (hr.mono (by decide)) (by rfl) T.gN (pa_cons (pe_un un_neg pe_int) pa_nil)))) pss_nil)
      (pss_one (ps_for (passes_of rfl) rfl (pi_list (pv 0)) (pg_name (i := 2) sc.nd rfl (Or.inl rfl)) (pss_one (ps_if (PW.pt (pw_or (pt_not (pt_val (pe_f D_isnat (hr.mono (by decide)) (pa_cons (pv 2) pa_nil)))) (pw_or1 (pt_cmpR op_ge (pv 2) (pv 1) (nomark _))))) (pss_one (ps_raise rfl (takes_of rfl rfl rfl rfl) (pmk_er (k := 0) (okV := fun _ => True) TN RN (fun _ _ _ _ => trivial) (hr.mono (by decide)) (by rfl) T.gN (pa_cons (pv 2) pa_nil)))) pss_nil))))), ?_⟩
    walk_at "go"
    refine ⟨.ref a, "list", rfl, .lst hrow, fun H1 s1 => ?_⟩
    walk_at "go"
    rw [show (("list" == "list" || "list" == "tuple") : Bool) = true from by decide +kernel]
    refine iteF ?_
    walk_at "go"
    refine r_lstK (Same.seq s1 hrow) ?_
    refine r_forL (fun i σ H2 => ∃ v2, σ = [some (.ref a), some (.int (n : Int)), v2] ∧ Same H H2 ∧ i ≤ ks.length) ⟨none, rfl, s1, Nat.zero_le _⟩ (fun i σ H2 hi p => Same.seq p.choose_spec.2.1 hrow) ?_ ?_
    · rintro i x σ H2 hx ⟨v2, rfl, s2, hi⟩
      walk_at "go"
      rcases sched_at hx hi with ⟨c, rfl, hc, hi'⟩ | ⟨ri, v, rest, rfl, rfl⟩
      · refine ⟨.int (c : Int), "int", rfl, .int _, fun H3 s3 => ?_⟩
        walk_at "go"
        have e : (!isN (.int (c : Int))) = false := by
          show (!decide ((0 : Int) ≤ (c : Int))) = false
          rw [decide_eq_true (by omega)]
          rfl
        rw [e]
        walk_at "go"
        refine ite2 (fun h1 => ?_) fun h1 => ?_
        · have h1 := of_decide_eq_true h1
          have := hks c hc
          omega
        · walk_at "go"
          exact ⟨_, rfl, s2.trans s3, hi'⟩
      · obtain ⟨tn, hv, hno, hr9⟩ := kb _ _ rfl
        refine ⟨_, tn, rfl, sm_ext s2 hv, fun H3 s3 => ?_⟩
        walk_at "go"
        have bad : mkK CN "name" (fun _ => True) [x] H3 E := r_mkK trivial fun d hd => rsd_new hr9 (s2.trans s3) hd
        cases hv with
        | non | str | lst | tup | bl =>
          refine iteT ?_
          walk_at "go"
          exact bad
        | int z =>
          by_cases h0 : 0 ≤ z
          · have e : (!isN (.int z)) = false := by
              show (!decide (0 ≤ z)) = false
              rw [decide_eq_true h0]
              rfl
            rw [e]
            walk_at "go"
            refine ite2 (fun h1 => ?_) fun h1 => ?_
            · walk_at "go"
              exact bad
            · have h1 : ¬ (n : Int) ≤ z := fun y => h1 (decide_eq_true y)
              have : nameOf n (.int z) = some z.toNat := if_pos ⟨h0, by omega⟩
              rw [this] at hno
              cases hno
          · have e : (!isN (.int z)) = true := by
              show (!decide (0 ≤ z)) = true
              rw [decide_eq_false h0]
              rfl
            rw [e]
            walk_at "go"
            exact bad
    · rintro σ H2 ⟨v2, rfl, s2, hi⟩
      rw [List.length_append, nV_len] at hi
      have hb : bad = [] := by
        cases bad with
        | nil => rfl
        | cons x xs =>
          rw [List.length_cons] at hi
          omega
      exact kg hb H2 s2
  · refine ⟨_, (pss_cons (ps_if (pt_not (pt_val (pe_f D_isrow (hr.mono (by decide)) (pa_cons (pv 0) pa_nil)))) (pss_one (ps_raise rfl (takes_of rfl rfl rfl rfl) (pmk_er (k := 0) (okV := fun _ => True) TN RN (fun _ _ _ _ => trivial) (hr.mono (by decide)) (by rfl) T.gN (pa_cons (pe_un un_neg pe_int) pa_nil)))) pss_nil)
      (pss_one (ps_for (passes_of rfl) rfl (pi_tup (pv 0)) (pg_name (i := 2) sc.nd rfl (Or.inl rfl)) (pss_one (ps_if (PW.pt (pw_or (pt_not (pt_val (pe_f D_isnat (hr.mono (by decide)) (pa_cons (pv 2) pa_nil)))) (pw_or1 (pt_cmpR op_ge (pv 2) (pv 1) (nomark _))))) (pss_one (ps_raise rfl (takes_of rfl rfl rfl rfl) (pmk_er (k := 0) (okV := fun _ => True) TN RN (fun _ _ _ _ => trivial) (hr.mono (by decide)) (by rfl) T.gN (pa_cons (pv 2) pa_nil)))) pss_nil))))), ?_⟩
    walk_at "go"
    refine ⟨.ref a, "tuple", rfl, .tup hrow, fun H1 s1 => ?_⟩
    walk_at "go"
    rw [show (("tuple" == "list" || "tuple" == "tuple") : Bool) = true from by decide +kernel]
    refine iteF ?_
    walk_at "go"
    refine r_tupK (same_tup s1 hrow) ?_
    refine r_forT (fun i σ H2 => ∃ v2, σ = [some (.ref a), some (.int (n : Int)), v2] ∧ Same H H2 ∧ i ≤ ks.length) ⟨none, rfl, s1, Nat.zero_le _⟩ (fun i σ H2 hi p => same_tup p.choose_spec.2.1 hrow) ?_ ?_
    · rintro i x σ H2 hx ⟨v2, rfl, s2, hi⟩
      walk_at "go"
      rcases sched_at hx hi with ⟨c, rfl, hc, hi'⟩ | ⟨ri, v, rest, rfl, rfl⟩
      · refine ⟨.int (c : Int), "int", rfl, .int _, fun H3 s3 => ?_⟩
        walk_at "go"
        have e : (!isN (.int (c : Int))) = false := by
          show (!decide ((0 : Int) ≤ (c : Int))) = false
          rw [decide_eq_true (by omega)]
          rfl
        rw [e]
        walk_at "go"
        refine ite2 (fun h1 => ?_) fun h1 => ?_
        · have h1 := of_decide_eq_true h1
          have := hks c hc
          omega
        · walk_at "go"
          exact ⟨_, rfl, s2.trans s3, hi'⟩
      · obtain ⟨tn, hv, hno, hr9⟩ := kb _ _ rfl
        refine ⟨_, tn, rfl, sm_ext s2 hv, fun H3 s3 => ?_⟩
        walk_at "go"
        have bad : mkK CN "name" (fun _ => True) [x] H3 E := r_mkK trivial fun d hd => rsd_new hr9 (s2.trans s3) hd
        cases hv with
        | non | str | lst | tup | bl =>
          refine iteT ?_
          walk_at "go"
          exact bad
        | int z =>
          by_cases h0 : 0 ≤ z
          · have e : (!isN (.int z)) = false := by
              show (!decide (0 ≤ z)) = false
              rw [decide_eq_true h0]
              rfl
            rw [e]
            walk_at "go"
            refine ite2 (fun h1 => ?_) fun h1 => ?_
            · walk_at "go"
              exact bad
            · have h1 : ¬ (n : Int) ≤ z := fun y => h1 (decide_eq_true y)
              have : nameOf n (.int z) = some z.toNat := if_pos ⟨h0, by omega⟩
              rw [this] at hno
              cases hno
          · have e : (!isN (.int z)) = true := by
              show (!decide (0 ≤ z)) = true
              rw [decide_eq_false h0]
              rfl
            rw [e]
            walk_at "go"
            exact bad
    · rintro σ H2 ⟨v2, rfl, s2, hi⟩
      rw [List.length_append, nV_len] at hi
      have hb : bad = [] := by
        cases bad with
        | nil => rfl
        | cons x xs =>
          rw [List.length_cons] at hi
          omega
      exact kg hb H2 s2
  · refine ⟨_, (pss_cons (ps_if (pt_not (pt_val (pe_f D_isrow (hr.mono (by decide)) (pa_cons (pv 0) pa_nil)))) (pss_one (ps_raise rfl (takes_of rfl rfl rfl rfl) (pmk_er (k := 0) (okV := fun _ => True) TN RN (fun _ _ _ _ => trivial) (hr.mono (by decide)) (by rfl) T.gN (pa_cons (pe_un un_neg pe_int) pa_nil)))) pss_nil)
      (pss_one (ps_for (passes_of rfl) rfl (pi_list (pv 0)) (pg_name (i := 2) sc.nd rfl (Or.inl rfl)) (pss_one (ps_if (PW.pt (pw_or (pt_not (pt_val (pe_f D_isnat (hr.mono (by decide)) (pa_cons (pv 2) pa_nil)))) (pw_or1 (pt_cmpR op_ge (pv 2) (pv 1) (nomark _))))) (pss_one (ps_raise rfl (takes_of rfl rfl rfl rfl) (pmk_er (k := 0) (okV := fun _ => True) TN RN (fun _ _ _ _ => trivial) (hr.mono (by decide)) (by rfl) T.gN (pa_cons (pv 2) pa_nil)))) pss_nil))))), ?_⟩
    walk_at "go"
    refine ⟨sv, tn, rfl, hS, fun H1 s1 => ?_⟩
    walk_at "go"
    rw [hno]
    refine iteT ?_
    walk_at "go"
    exact r_mkK trivial fun d hd => rsd_new hr9 s1 hd
end
end K8
namespace K8
open PySem L2 Er K7M
/-- one step of a plain reading -/
local macro_rules | `(tactic| walk_at "step") => `(tactic| first
  | with_reducible refine r_seq ?_ | with_reducible refine r_nx ?_ | with_reducible refine r_asgN ?_ | with_reducible refine r_asgS ?_ | with_reducible refine r_asgT ?_ | with_reducible refine r_ifS ?_
  | with_reducible refine r_ret ?_ | with_reducible refine r_retN ?_ | with_reducible refine r_drop ?_ | with_reducible refine r_test ?_ | with_reducible refine r_B ?_ | with_reducible refine r_not ?_
  | with_reducible refine r_and ?_ | with_reducible refine r_or ?_ | with_reducible refine r_andV ?_ | with_reducible refine r_orV ?_ | with_reducible refine r_notV ?_
  | ((with_reducible refine' r_var ?e ?_); (case e => exact rfl)) | with_reducible refine r_c ?_ | with_reducible refine r_op ?_ | with_reducible refine r_un ?_
  | with_reducible refine r_I0 ?_ | with_reducible refine r_eqI ?_ | with_reducible refine r_neI ?_ | with_reducible refine r_bl ?_ | with_reducible refine r_nil ?_ | with_reducible refine r_cons ?_
  | with_reducible refine r_cb ?_ | with_reducible refine r_call ?_ | with_reducible refine r_tup ?_ | with_reducible refine r_lst ?_ | with_reducible refine r_fld ?_ | with_reducible refine r_bm ?_ | with_reducible refine r_bm0 ?_
  | with_reducible refine r_for ?_ | with_reducible refine r_rng ?_ | with_reducible refine r_rng2 ?_ | with_reducible refine r_lstI ?_ | with_reducible refine r_tupI ?_ | with_reducible refine r_lc ?_
  | with_reducible refine r_augS ?_ | with_reducible refine r_ipI ?_
  | with_reducible refine r_meth ?_ | with_reducible refine r_prop ?_ | with_reducible refine r_make ?_ | with_reducible refine r_din ?_ | with_reducible refine r_dnin ?_ | with_reducible refine r_dput ?_ | with_reducible refine r_dget ?_
  | with_reducible refine r_gN ?_ | with_reducible refine r_tsl ?_ | with_reducible refine r_noP ?_ | with_reducible refine r_part ?_ | with_reducible refine r_pI ?_ | with_reducible refine r_tif ?_ | with_reducible refine r_SL ?_ | with_reducible refine r_gC ?_ | with_reducible refine r_U ?_ | with_reducible refine r_sfld ?_ | with_reducible refine r_dnew ?_ | with_reducible refine r_keys ?_
  | with_reducible refine r_mkE ?_ | with_reducible refine iteT ?_ | with_reducible refine iteF ?_
  | with_reducible refine r_int ?_ | with_reducible refine r_min2 ?_ | with_reducible refine r_isN ?_ | with_reducible refine r_notN ?_)
/-- as far as it goes by itself -/
local macro_rules | `(tactic| walk_at "go") => `(tactic| ((repeat walk_at "step"); (try dsimp only)))

theorem nV_at {ks : List Nat} {i : Nat} {x : V} (h : (nV ks)[i]? = some x) : ∃ c, ks[i]? = some c ∧ x = .int (c : Int) := by
  unfold nV at h
  rw [List.getElem?_map] at h
  cases e : ks[i]? with
  | none => rw [e] at h; cases h
  | some c => rw [e] at h; exact ⟨c, rfl, (Option.some.inj h).symm⟩
/-- a pair of a name and its row -/
def PairAt (H : Hp) (y : V) (il : Nat × List Nat) : Prop := ∃ p r, y = .ref p ∧ H p = some (.tup [.int (il.1 : Int), .ref r]) ∧ H r = some (.tup (nV il.2))
theorem PairAt.keep {H H' : Hp} {y : V} {il : Nat × List Nat} (s : Same H H') (h : PairAt H y il) : PairAt H' y il := by
  obtain ⟨p, r, e, h1, h2⟩ := h
  exact ⟨p, r, e, s _ _ h1, s _ _ h2⟩
theorem PairAt.but {H H' : Hp} {y : V} {il : Nat × List Nat} {D : Addr} {zs : List V} (hD : H D = some (.lst zs)) (s : ∀ b u, b ≠ D → H b = some u → H' b = some u) (h : PairAt H y il) : PairAt H' y il := by
  obtain ⟨p, r, e, h1, h2⟩ := h
  exact ⟨p, r, e, s _ _ (ne_of h1 hD (by intro z; cases z)) h1, s _ _ (ne_of h2 hD (by intro z; cases z)) h2⟩
def PairsAt (H : Hp) (ys : List V) (ls : List (Nat × List Nat)) : Prop := ys.length = ls.length ∧ ∀ (i : Nat) (y : V) (il : Nat × List Nat), ys[i]? = some y → ls[i]? = some il → PairAt H y il
def looksOf (n : Nat) (S : Sys) (g : List Nat) : List (Nat × List Nat) := (inOrder n g).map fun i => (i, (S i).rd)
/-- what levels_run returns -/
def RunAt (H : Hp) (t : Addr) (ws : List Nat) (ls : List (Nat × List Nat)) : Prop := ∃ tw tl ys, H t = some (.tup [.ref tw, .ref tl]) ∧ H tw = some (.tup (nV ws)) ∧ H tl = some (.tup ys) ∧ PairsAt H ys ls
def SchedBad (K : PySem.W.Frag) (CN : Addr) (H : Hp) (sv : V) (n : Nat) (E : XK) : Prop :=
  (∃ (a : Addr) (ks : List Nat) (v : V) (tn : String) (rest : List V), sv = .ref a ∧ SqL K H a (nV ks ++ v :: rest) ∧ (∀ c ∈ ks, c < n) ∧ Sm K H v tn ∧ nameOf n v = none ∧ rsd CN "name" v H E) ∨
  (∃ tn, Sm K H sv tn ∧ (tn == "list" || tn == "tuple") = false ∧ rsd CN "name" (.int (-1)) H E)
theorem rsd_keep {C : Addr} {f : Str} {v : V} {H H1 : Hp} {E : XK} (s : Same H H1) (r : rsd C f v H E) : rsd C f v H1 E := fun d H' s' h => r d H' (s.trans s') h
theorem sched_bad {K : PySem.W.Frag} {CN : Addr} {H H1 : Hp} {sv : V} {n : Nat} {E : XK} {Q : VK} (s : Same H H1) (h : SchedBad K CN H sv n E) : spSched K CN [sv, .int (n : Int)] H1 Q E := by
  rcases h with ⟨a, ks, v, tn, rest, rfl, h1, h2, h3, h4, h5⟩ | ⟨tn, h1, h2, h3⟩
  · exact ⟨.ref a, n, rfl, .inl ⟨a, ks, v :: rest, rfl, .inl (s.seq h1), h2, (fun e => (by cases e)), fun v' rest' e => (by cases e; exact ⟨tn, sm_ext s h3, h4, rsd_keep s h5⟩)⟩⟩
  · exact ⟨sv, n, rfl, .inr ⟨tn, sm_ext s h1, h2, rsd_keep s h3⟩⟩
theorem made_same {H H2 : Hp} {x dx CL : Addr} (hx : H x = none) (hdx : H dx = none) (k : Kept [x] (upd (upd H dx (.own x)) x (.ins CL dx [])) H2) : Same H H2 := fun b o z => by
  have b1 : b ≠ x := ne_of_none z hx
  have b2 : b ≠ dx := ne_of_none z hdx
  exact k b o (by rw [upd_ne b1, upd_ne b2]; exact z) (by simpa using b1)
theorem made_new {H : Hp} {x dx CL : Addr} (hx : H x = none) (hdx : H dx = none) : Same H (upd (upd H dx (.own x)) x (.ins CL dx [])) := fun b o z => by
  rw [upd_ne (ne_of_none z hx), upd_ne (ne_of_none z hdx)]
  exact z
theorem make_levels {K : PySem.W.Frag} {CL CB : Addr} {n : Nat} {H : Hp} {Q : Addr → Hp → Prop} {E : XK} (n1 : 1 ≤ n) (n6 : n ≤ 6) (k : ∀ (A : LA) H2, LevAt CL H2 A n (K7M.init n) [] → (∀ b ∈ A.p :: A.foot, H b = none) → Same H H2 → Q A.p H2) :
    ∀ x dx, H x = none → H dx = none → dx ≠ x → spInit K CL CB (.ref x :: ([.int (n : Int)] ++ [])) (upd (upd H dx (.own x)) x (.ins CL dx [])) (fun v H2 => v = .non ∧ Q x H2) E := fun x dx hx hdx hne => by
  refine ⟨x, dx, .int (n : Int), "int", rfl, upd_same, .int _, fun n' en n1 n6 A H2 e1 hf L kx => ⟨rfl, ?_⟩, fun z => ?_⟩
  · obtain rfl : n = n' := by have := V.int.inj en; omega
    subst e1
    refine k A H2 L (fun b hb => ?_) (made_same hx hdx kx)
    rcases List.mem_cons.mp hb with rfl | hb
    · exact hx
    · exact none_of_same (made_new hx hdx) (hf b hb)
  · have : decide (1 ≤ (n : Int) ∧ (n : Int) ≤ 6) = true := decide_eq_true (by omega)
    rw [show okSize (.int (n : Int)) = decide (1 ≤ (n : Int) ∧ (n : Int) ≤ 6) from rfl, this] at z
    cases z
theorem make_bad {K : PySem.W.Frag} {CL CB : Addr} {v : V} {tn : String} {H : Hp} {Q : Addr → VK} {E : XK} (hS : Sm K H v tn) (hv : okSize v = false) (r : rsd CB "word" (.str "size") H E) :
    ∀ x dx, H x = none → H dx = none → dx ≠ x → spInit K CL CB (.ref x :: ([v] ++ [])) (upd (upd H dx (.own x)) x (.ins CL dx [])) (Q x) E := fun x dx hx hdx hne => by
  refine ⟨x, dx, v, tn, rfl, upd_same, sm_ext (made_new hx hdx) hS, fun n' en n1 n6 => ?_, fun _ => rsd_keep (made_new hx hdx) r⟩
  subst en
  have : decide (1 ≤ (n' : Int) ∧ (n' : Int) ≤ 6) = true := decide_eq_true (by omega)
  rw [show okSize (.int (n' : Int)) = decide (1 ≤ (n' : Int) ∧ (n' : Int) ≤ 6) from rfl, this] at hv
  cases hv
section
variable {CL : Addr} {H H' : Hp} {A : LA} {n : Nat} {S : Sys} {gone : List Nat} {i : Nat}
theorem LevAt.away (L : LevAt CL H A n S gone) {d : Addr} (h : H d = none) : d ∉ A.p :: A.foot := fun z => by
  obtain ⟨ts, hr, _⟩ := L.r
  obtain ⟨ks, hk, _⟩ := L.k
  rcases List.mem_cons.mp z with rfl | z
  · rw [L.ob] at h; cases h
  rcases List.mem_cons.mp z with rfl | z
  · rw [L.w] at h; cases h
  rcases List.mem_cons.mp z with rfl | z
  · rw [L.s] at h; cases h
  rcases List.mem_cons.mp z with rfl | z
  · rw [hr] at h; cases h
  rcases List.mem_cons.mp z with rfl | z
  · rw [hk] at h; cases h
  cases z
theorem LevAt.notup (L : LevAt CL H A n S gone) : ∀ b ∈ A.foot, ∀ xs, H b ≠ some (.tup xs) := fun b z xs e => by
  obtain ⟨ts, hr, _⟩ := L.r
  obtain ⟨ks, hk, _⟩ := L.k
  rcases List.mem_cons.mp z with rfl | z
  · rw [L.w] at e; cases e
  rcases List.mem_cons.mp z with rfl | z
  · rw [L.s] at e; cases e
  rcases List.mem_cons.mp z with rfl | z
  · rw [hr] at e; cases e
  rcases List.mem_cons.mp z with rfl | z
  · rw [hk] at e; cases e
  cases z
end
/-- a dict of names and their rows -/
def DictAt (H : Hp) (d : Addr) (g : List Nat) (f : Nat → List Nat) : Prop := ∃ ls : Nat → Addr, H d = some (.dK (kvOf g ls)) ∧ ∀ j ∈ g, H (ls j) = some (.tup (nV (f j)))
theorem DictAt.kept {H H' : Hp} {d : Addr} {g : List Nat} {f f' : Nat → List Nat} {F : List Addr} (h : DictAt H d g f) (s : Kept F H H') (hd : d ∉ F) (t : ∀ b ∈ F, ∀ xs, H b ≠ some (.tup xs)) (e : ∀ j ∈ g, f' j = f j) : DictAt H' d g f' := by
  obtain ⟨ls, h1, h2⟩ := h
  refine ⟨ls, s _ _ h1 hd, fun j hj => ?_⟩
  rw [e j hj]
  exact s _ _ (h2 j hj) fun z => t _ z _ (h2 j hj)
theorem dict_put {H : Hp} {d : Addr} {g : List Nat} {f : Nat → List Nat} {ls : Nat → Addr} {i : Nat} {t : Addr} (h1 : H d = some (.dK (kvOf g ls))) (h2 : ∀ j ∈ g, H (ls j) = some (.tup (nV (f j)))) (hi : i ∉ g) (ht : H t = some (.tup (nV (f i)))) :
    DictAt (upd H d (.dK (kvOf g ls ++ [(Sum.inl (i : Int), V.ref t)]))) d (g ++ [i]) f := by
  have ne : ∀ {b xs}, H b = some (.tup xs) → b ≠ d := fun {b xs} z => ne_of z h1 (by intro y; cases y)
  refine ⟨fun j => if j = i then t else ls j, ?_, fun j hj => ?_⟩
  · show _ = some (HO.dK (List.map _ (g ++ [i])))
    rw [upd_same, List.map_append]
    congr 3
    · refine List.map_congr_left fun j hj => ?_
      have h : j ≠ i := fun z => hi (z ▸ hj)
      show _ = ((Sum.inl (j : Int) : Key), V.ref (if j = i then t else ls j))
      rw [if_neg h]
    · show _ = [((Sum.inl (i : Int) : Key), V.ref (if i = i then t else ls i))]
      rw [if_pos rfl]
  · show upd H d _ (if j = i then t else ls j) = _
    by_cases h : j = i
    · subst h
      rw [if_pos rfl, upd_ne (ne ht)]
      exact ht
    · rw [if_neg h]
      have hj : j ∈ g := by
        rcases List.mem_append.mp hj with hj | hj
        · exact hj
        · exact absurd (List.mem_singleton.mp hj) h
      rw [upd_ne (ne (h2 j hj))]
      exact h2 j hj
/-- levels_run, under way -/
structure RunI (CL : Addr) (H0 : Hp) (A : LA) (n : Nat) (d : Addr) (S : Sys) (g : List Nat) (H : Hp) : Prop where
  lev : LevAt CL H A n S g
  good : Good n S g
  dk : DictAt H d g fun j => (S j).rd
  same : Same H0 H
section
variable {CL : Addr} {H0 H H' : Hp} {A : LA} {n d i : Nat} {S : Sys} {g : List Nat}
theorem RunI.stay (R : RunI CL H0 A n d S g H) (fresh : ∀ b ∈ A.p :: A.foot, H0 b = none) (hd : d ∉ A.p :: A.foot) (hi : i < n) (hg : i ∉ g) (L : LevAt CL H' A n (K7M.put S i (stp n S i)) (if false = true then g ++ [i] else g)) (k : Kept A.foot H H') (n1 : 1 ≤ n) (hv : lvs n S i = false) :
    RunI CL H0 A n d (K7M.put S i (stp n S i)) (if false = true then g ++ [i] else g) H' := by
  refine ⟨L, ?_, ?_, k.same (fun b hb => fresh b (List.mem_cons_of_mem _ hb)) R.same⟩
  · have := good_step n1 R.good hi hg
    rw [hv] at this
    exact this
  · refine R.dk.kept k (fun z => hd (List.mem_cons_of_mem _ z)) R.lev.notup fun j hj => ?_
    have h : j ≠ i := fun z => hg (z ▸ hj)
    show (K7M.put S i (stp n S i) j).rd = (S j).rd
    rw [put_ne S _ h]
theorem RunI.leave (R : RunI CL H0 A n d S g H) (fresh : ∀ b ∈ A.p :: A.foot, H0 b = none) (hd0 : H0 d = none) (hd : d ∉ A.p :: A.foot) (hi : i < n) (hg : i ∉ g) (L : LevAt CL H' A n (K7M.put S i (stp n S i)) (if true = true then g ++ [i] else g)) (k : Kept A.foot H H') (n1 : 1 ≤ n) (hv : lvs n S i = true)
    {ls : Nat → Addr} (h1 : H d = some (.dK (kvOf g ls))) (h2 : ∀ j ∈ g, H (ls j) = some (.tup (nV (S j).rd))) {t : Addr} (ht : H' t = some (.tup (nV (stp n S i).rd))) :
    RunI CL H0 A n d (K7M.put S i (stp n S i)) (if true = true then g ++ [i] else g) (upd H' d (.dK (kvOf g ls ++ [(Sum.inl (i : Int), V.ref t)]))) := by
  have hd' : H' d = some (.dK (kvOf g ls)) := k _ _ h1 fun z => hd (List.mem_cons_of_mem _ z)
  have kd : Kept [d] H' (upd H' d (.dK (kvOf g ls ++ [(Sum.inl (i : Int), V.ref t)]))) := (Kept.refl _ _).mut (by simp)
  refine ⟨L.kept kd (fun b hb z => hd (List.mem_cons_of_mem _ (by rw [← List.mem_singleton.mp z]; exact hb))) (fun z => hd (by rw [← List.mem_singleton.mp z]; exact List.mem_cons_self ..)) (fun b hb xs e => by
      rw [List.mem_singleton.mp hb, hd'] at e
      cases e), ?_, ?_, ?_⟩
  · have := good_step n1 R.good hi hg
    rw [hv] at this
    exact this
  · have e : ∀ j ∈ g, (K7M.put S i (stp n S i) j).rd = (S j).rd := fun j hj => by
      have h : j ≠ i := fun z => hg (z ▸ hj)
      rw [put_ne S _ h]
    refine dict_put (f := fun j => (K7M.put S i (stp n S i) j).rd) hd' (fun j hj => ?_) hg ?_
    · rw [e j hj]
      exact k _ _ (h2 j hj) fun z => R.lev.notup _ z _ (h2 j hj)
    · show H' t = some (.tup (nV (K7M.put S i (stp n S i) i).rd))
      rw [put_same]
      exact ht
  · exact kd.same (fun b hb => by rw [List.mem_singleton.mp hb]; exact hd0) (k.same (fun b hb => fresh b (List.mem_cons_of_mem _ hb)) R.same)
end
/-- levels_run -/
def spRun (K : PySem.W.Frag) (CN CB : Addr) : Sp := fun vs H Q E => ∃ (v sv : V), vs = [v, sv] ∧
  ((∃ tn, Sm K H v tn ∧ okSize v = false ∧ rsd CB "word" (.str "size") H E) ∨
   (∃ n : Nat, v = .int (n : Int) ∧ 1 ≤ n ∧ n ≤ 6 ∧ (SchedBad K CN H sv n E ∨
     ∃ (a : Addr) (ks : List Nat), sv = .ref a ∧ (SqL K H a (nV ks) ∨ SqT K H a (nV ks)) ∧ (∀ c ∈ ks, c < n) ∧ ∀ t H', Same H H' → RunAt H' t (wroteOf n (runN n ks).1) (looksOf n (runN n ks).1 (runN n ks).2) → Q (.ref t) H')))
section
variable {P : Program} {w : World} {K : PySem.W.Frag} {mg : Str → Option Value} {base : Heap} {CN CB CL : Addr}
theorem scRun : FnScope ["size", "schedule", "levels", "looks", "name", "look"] ["size", "schedule"] (defScope sLevelsRun) := ⟨rfl, rfl, rfl, by decide +kernel, rfl, by decide +kernel, by decide +kernel⟩
theorem ok_run {f : Addr} {fd : FuncData} (F : Fun K "levels_run" "levels_run" sLevelsRun f fd) (cL : LevC K CL) (m_tuple : mg "tuple" = none) (m_sorted : mg "sorted" = none)
    (D_Levels : Cok P w K mg base CL 4 "Levels" ["self", "size"] (spInit K CL CB)) (D_checksched : Fok P w K mg base 3 "check_schedule" ["schedule", "size"] (spSched K CN))
    (D_mstep : Mok P w K mg base CL 4 "step" ["self", "name"] (spStep K CL CN)) (D_pwrote : Pok P w K mg base CL 1 "wrote" ["self"] (spWrote CL)) :
    FnOk P w K mg base (L2.CX P w) 6 f fd ["size", "schedule"] (spRun K CN CB) := by
  refine F.okX scRun (fun vs H Q E h => ?_) (fun cdv A outer s H vs Q E hr h => ?_)
  · obtain ⟨v, sv, rfl, _⟩ := h
    rfl
  obtain ⟨v, sv, rfl, h⟩ := h
  have sc := scRun
  have hu := hu_of hr
  rcases h with ⟨tn, hS, hv9, hr9⟩ | ⟨n, rfl, n1, n6, hbad | ⟨a, ks, rfl, hrow | hrow, hks, k⟩⟩
  · refine ⟨_, (pss_cons (ps_set (i := 2) sc.nd rfl (Or.inl rfl) (pe_cX D_Levels (hr.mono (by decide)) (takes_of rfl rfl rfl rfl) (pa_cons (pv 0) pa_nil)))
      (pss_cons (ps_expr (pe_fX D_checksched (hr.mono (by decide)) (takes_of rfl rfl rfl rfl) (pa_cons (pv 1) (pa_cons (pv 0) pa_nil))))
      (pss_cons (ps_set (i := 3) sc.nd rfl (Or.inr rfl) pe_dnewK)
      (pss_cons (ps_for (passes_of rfl) rfl (pi_list (pv 1)) (pg_name (i := 4) sc.nd rfl (Or.inl rfl)) (pss_one (ps_if (pt_cmp (pc_dnotin hu (pv 4) (pv 3))) (pss_cons (ps_set (i := 5) sc.nd rfl (Or.inl rfl) (pe_mX (pv 2) cL.c D_mstep (hr.mono (by decide)) (takes_of rfl rfl rfl rfl) (pa_cons (pv 4) pa_nil)))
      (pss_one (ps_if (pt_cmpR o_notN (pv 5) pe_non (nomark _)) (pss_one (ps_dput hu (pv 3) (pv 4) (pv 5) rfl)) pss_nil))) pss_nil)))
      (pss_one (ps_ret (pe_tup (pa_cons (pe_p (pv 2) cL.c D_pwrote (hr.mono (by decide))) (pa_cons (pe_callTy c_tuple (by rfl) m_tuple (by decide +kernel) (pa_cons (pe_lc (own := [("name", 4)]) (g := gName 4) (tt := tYes) rfl sc.nd (pi_list (pe_callB (c_sortDI rfl) (by rfl) m_sorted (by decide +kernel) (pa_cons (pv 3) pa_nil))) (blkOk_by (own := [("name", 4)]) (N := ["size", "schedule", "levels", "looks", "name", "look"]) (sc := defScope sLevelsRun) (by decide +kernel)) (fun _ _ _ _ _ => pg_name (i := 4) sc.nd rfl (Or.inl rfl)) (fun _ _ _ _ _ => pts_nil) (fun _ _ _ _ _ => (pe_tup (pa_cons (pv 4) (pa_cons (pe_dget hu (pv 3) (pv 4) (fun _ _ => rfl)) pa_nil))))) pa_nil)) pa_nil))))))))), ?_⟩
    walk_at "go"
    exact make_bad hS hv9 hr9
  · refine ⟨_, (pss_cons (ps_set (i := 2) sc.nd rfl (Or.inl rfl) (pe_cX D_Levels (hr.mono (by decide)) (takes_of rfl rfl rfl rfl) (pa_cons (pv 0) pa_nil)))
      (pss_cons (ps_expr (pe_fX D_checksched (hr.mono (by decide)) (takes_of rfl rfl rfl rfl) (pa_cons (pv 1) (pa_cons (pv 0) pa_nil))))
      (pss_cons (ps_set (i := 3) sc.nd rfl (Or.inr rfl) pe_dnewK)
      (pss_cons (ps_for (passes_of rfl) rfl (pi_list (pv 1)) (pg_name (i := 4) sc.nd rfl (Or.inl rfl)) (pss_one (ps_if (pt_cmp (pc_dnotin hu (pv 4) (pv 3))) (pss_cons (ps_set (i := 5) sc.nd rfl (Or.inl rfl) (pe_mX (pv 2) cL.c D_mstep (hr.mono (by decide)) (takes_of rfl rfl rfl rfl) (pa_cons (pv 4) pa_nil)))
      (pss_one (ps_if (pt_cmpR o_notN (pv 5) pe_non (nomark _)) (pss_one (ps_dput hu (pv 3) (pv 4) (pv 5) rfl)) pss_nil))) pss_nil)))
      (pss_one (ps_ret (pe_tup (pa_cons (pe_p (pv 2) cL.c D_pwrote (hr.mono (by decide))) (pa_cons (pe_callTy c_tuple (by rfl) m_tuple (by decide +kernel) (pa_cons (pe_lc (own := [("name", 4)]) (g := gName 4) (tt := tYes) rfl sc.nd (pi_list (pe_callB (c_sortDI rfl) (by rfl) m_sorted (by decide +kernel) (pa_cons (pv 3) pa_nil))) (blkOk_by (own := [("name", 4)]) (N := ["size", "schedule", "levels", "looks", "name", "look"]) (sc := defScope sLevelsRun) (by decide +kernel)) (fun _ _ _ _ _ => pg_name (i := 4) sc.nd rfl (Or.inl rfl)) (fun _ _ _ _ _ => pts_nil) (fun _ _ _ _ _ => (pe_tup (pa_cons (pv 4) (pa_cons (pe_dget hu (pv 3) (pv 4) (fun _ _ => rfl)) pa_nil))))) pa_nil)) pa_nil))))))))), ?_⟩
    walk_at "go"
    refine make_levels n1 n6 fun LL H1 L1 fresh s1 => ?_
    walk_at "go"
    exact sched_bad s1 hbad
  · refine ⟨_, (pss_cons (ps_set (i := 2) sc.nd rfl (Or.inl rfl) (pe_cX D_Levels (hr.mono (by decide)) (takes_of rfl rfl rfl rfl) (pa_cons (pv 0) pa_nil)))
      (pss_cons (ps_expr (pe_fX D_checksched (hr.mono (by decide)) (takes_of rfl rfl rfl rfl) (pa_cons (pv 1) (pa_cons (pv 0) pa_nil))))
      (pss_cons (ps_set (i := 3) sc.nd rfl (Or.inr rfl) pe_dnewK)
      (pss_cons (ps_for (passes_of rfl) rfl (pi_list (pv 1)) (pg_name (i := 4) sc.nd rfl (Or.inl rfl)) (pss_one (ps_if (pt_cmp (pc_dnotin hu (pv 4) (pv 3))) (pss_cons (ps_set (i := 5) sc.nd rfl (Or.inl rfl) (pe_mX (pv 2) cL.c D_mstep (hr.mono (by decide)) (takes_of rfl rfl rfl rfl) (pa_cons (pv 4) pa_nil)))
      (pss_one (ps_if (pt_cmpR o_notN (pv 5) pe_non (nomark _)) (pss_one (ps_dput hu (pv 3) (pv 4) (pv 5) rfl)) pss_nil))) pss_nil)))
      (pss_one (ps_ret (pe_tup (pa_cons (pe_p (pv 2) cL.c D_pwrote (hr.mono (by decide))) (pa_cons (pe_callTy c_tuple (by rfl) m_tuple (by decide +kernel) (pa_cons (pe_lc (own := [("name", 4)]) (g := gName 4) (tt := tYes) rfl sc.nd (pi_list (pe_callB (c_sortDI rfl) (by rfl) m_sorted (by decide +kernel) (pa_cons (pv 3) pa_nil))) (blkOk_by (own := [("name", 4)]) (N := ["size", "schedule", "levels", "looks", "name", "look"]) (sc := defScope sLevelsRun) (by decide +kernel)) (fun _ _ _ _ _ => pg_name (i := 4) sc.nd rfl (Or.inl rfl)) (fun _ _ _ _ _ => pts_nil) (fun _ _ _ _ _ => (pe_tup (pa_cons (pv 4) (pa_cons (pe_dget hu (pv 3) (pv 4) (fun _ _ => rfl)) pa_nil))))) pa_nil)) pa_nil))))))))), ?_⟩
    walk_at "go"
    refine make_levels n1 n6 fun LL H1 L1 fresh s1 => ?_
    walk_at "go"
    refine ⟨.ref a, n, rfl, .inl ⟨a, ks, [], rfl, .inl (by rw [List.append_nil]; exact Same.seq s1 hrow), hks, fun _ H2 s2 => ?_, fun v rest e => by cases e⟩⟩
    walk_at "go"
    intro d hd
    have L2 := L1.lift s2
    have s02 := s1.trans s2
    have hd0 : H d = none := none_of_same s02 hd
    have hdA : d ∉ LL.p :: LL.foot := L2.away hd
    have R0 : RunI CL H LL n d (K7M.init n) [] (upd H2 d (.dK [])) := ⟨L2.lift (same_new hd), good_init n1, ⟨fun _ => 0, upd_same, fun j hj => by cases hj⟩, s02.trans (same_new hd)⟩
    generalize upd H2 d _ = H3 at R0 ⊢
    walk_at "go"
    refine r_lstK (Same.seq R0.same hrow) ?_
    refine r_forL (fun i σ H' => ∃ v4 v5, σ = [some (.int (n : Int)), some (.ref a), some (.ref LL.p), some (.ref d), v4, v5] ∧ RunI CL H LL n d (runN n (ks.take i)).1 (runN n (ks.take i)).2 H')
      ⟨none, none, rfl, R0⟩ (fun i σ H' hi p => Same.seq p.choose_spec.choose_spec.2.same hrow) ?_ ?_
    · rintro i x σ H4 hx ⟨v4, v5, rfl, R⟩
      obtain ⟨c, hc, rfl⟩ := nV_at hx
      have hcn : c < n := hks c (List.mem_of_getElem? hc)
      rw [runN_take hc]
      generalize runN n (ks.take i) = p at R ⊢
      obtain ⟨S, g⟩ := p
      dsimp only at R
      obtain ⟨ls, hd1, hd2⟩ := R.dk
      walk_at "go"
      refine r_dninK (.inl hd1) ?_
      walk_at "go"
      by_cases hg : c ∈ g
      · rw [val_in hg]
        refine iteF ?_
        walk_at "go"
        refine ⟨_, _, rfl, ?_⟩
        have e : runS n (S, g) c = (S, g) := if_pos hg
        rw [e]
        exact R
      rw [val_out hg]
      refine iteT ?_
      have e : runS n (S, g) c = (K7M.put S c (stp n S c), if lvs n S c = true then g ++ [c] else g) := if_neg hg
      rw [e]
      walk_at "go"
      refine r_mthK R.lev.ob (fs_no LL n (by decide +kernel) (by decide +kernel) (by decide +kernel) (by decide +kernel) (by decide +kernel)) ?_
      walk_at "go"
      refine ⟨LL, n, S, g, .int (c : Int), "int", rfl, R.lev, n1, n6, by have := R.good.lenG; omega, fun j hj => by have := R.good.len hj; omega, .int _, fun j ej hj hjg y H5 L5 k45 hnon href => ?_, fun z => ?_, fun j ej hj => ?_⟩
      · obtain rfl : c = j := by have := V.int.inj ej; omega
        walk_at "go"
        cases hv : lvs n S c with
        | false =>
          obtain rfl := hnon hv
          refine iteF ?_
          walk_at "go"
          refine ⟨_, _, rfl, ?_⟩
          have R5 := R.stay fresh hdA hcn hg (by rw [hv] at L5; exact L5) k45 n1 hv
          exact R5
        | true =>
          obtain ⟨t, rfl, ht⟩ := href hv
          refine iteT ?_
          have D5 : H5 d = some (.dK (kvOf g ls)) := k45 _ _ hd1 fun z => hdA (List.mem_cons_of_mem _ z)
          walk_at "go"
          refine r_dputK D5 (Nat.lt_of_le_of_lt (m := 1000) (by rw [List.length_map]; have := R.good.lenG; omega) (by decide)) ?_
          rw [putK_new _ (val_out hg)]
          refine ⟨_, _, rfl, ?_⟩
          exact R.leave fresh hd0 hdA hcn hg (by rw [hv] at L5; exact L5) k45 n1 hv hd1 hd2 ht
      · have : nameOf n (.int (c : Int)) = some ((c : Int)).toNat := if_pos ⟨by omega, by omega⟩
        rw [this] at z
        cases z
      · obtain rfl : c = j := by have := V.int.inj ej; omega
        exact absurd hj hg
    · rintro σ H4 ⟨v4, v5, rfl, R⟩
      rw [nV_len, List.take_length] at R
      generalize runN n ks = p at R k
      obtain ⟨S, g⟩ := p
      dsimp only at R k
      obtain ⟨ls, hd1, hd2⟩ := R.dk
      have hb : ∀ j ∈ g, j < n := fun j hj => (R.good.gon j hj).1
      walk_at "go"
      refine r_prpK R.lev.ob ?_
      walk_at "go"
      refine ⟨LL, n, S, g, rfl, R.lev, n6, fun tw H5 htw s5 hw => ?_⟩
      walk_at "go"
      have pm := perm_inOrder R.good.nd hb
      refine r_sortDI (ks := g.map fun (i : Nat) => (i : Int)) (ss := (inOrder n g).map fun (i : Nat) => (i : Int)) (.inl (s5 _ _ hd1)) ?_ ?_ (pm.map _) (range_up _ _) fun p hp => ?_
      · rw [List.map_map, List.map_map]
        rfl
      · have := pm.length_eq
        have := len_inOrder n g
        rw [List.length_map]
        omega
      rw [← ints_nV]
      have s6 := same_new (o := .lst (nV (inOrder n g))) hp
      have hp6 : upd H5 p (.lst (nV (inOrder n g))) p = some (.lst (nV (inOrder n g))) := upd_same
      generalize upd H5 p (.lst (nV (inOrder n g))) = H6 at s6 hp6 ⊢
      have s46 := s5.trans s6
      walk_at "go"
      refine r_lstK (SqL.of hp6) ?_
      refine r_lcLm (fun i y H => ∃ c, (inOrder n g)[i]? = some c ∧ PairAt H y (c, (S c).rd)) (fun i v Dl zs H H' hD p s => ?_) (fun i v H H' s p => ?_) (by rw [nV_len]; have := len_inOrder n g; omega) (SqL.of hp6) (fun _ => rfl) (fun i x H7 hx s7 Q q => ?_) fun pl ys H7 hpl s7 hys hlen hpairs => ?_
      · obtain ⟨c, hc, hpr⟩ := p
        exact ⟨c, hc, hpr.but hD s⟩
      · obtain ⟨c, hc, hpr⟩ := p
        exact ⟨c, hc, hpr.keep s⟩
      · obtain ⟨c, hc, rfl⟩ := nV_at hx
        have hcg : c ∈ g := pm.mem_iff.mp (List.mem_of_getElem? hc)
        walk_at "go"
        refine r_dgetK (.inl (s7 _ _ (s46 _ _ hd1))) (val_in hcg) ?_
        walk_at "go"
        refine ⟨by show 2 ≤ sizeLine; decide, fun q9 hq9 => ?_⟩
        refine q _ _ (same_new hq9) ⟨c, hc, q9, ls c, rfl, upd_same, ?_⟩
        exact (same_new hq9) _ _ (s7 _ _ (s46 _ _ (hd2 c hcg)))
      · walk_at "go"
        refine r_tupL (SqL.of hys) fun tl htl => ?_
        walk_at "go"
        refine ⟨by show 2 ≤ sizeLine; decide, fun t ht => ?_⟩
        have s78 := same_new (o := .tup ys) htl
        have s89 := same_new (o := .tup [.ref tw, .ref tl]) ht
        have s79 := s78.trans s89
        have s69 := s7.trans s79
        refine k t _ (R.same.trans (s46.trans s69)) ⟨tw, tl, ys, upd_same, s69 _ _ (s6 _ _ hw), s89 _ _ upd_same, ?_⟩
        refine ⟨by rw [hlen, nV_len]; unfold looksOf; rw [List.length_map], fun i y il hy hil => ?_⟩
        obtain ⟨c, hc, hpr⟩ := hpairs i y hy
        unfold looksOf at hil
        rw [List.getElem?_map, hc] at hil
        cases hil
        exact hpr.keep s79
  · refine ⟨_, (pss_cons (ps_set (i := 2) sc.nd rfl (Or.inl rfl) (pe_cX D_Levels (hr.mono (by decide)) (takes_of rfl rfl rfl rfl) (pa_cons (pv 0) pa_nil)))
      (pss_cons (ps_expr (pe_fX D_checksched (hr.mono (by decide)) (takes_of rfl rfl rfl rfl) (pa_cons (pv 1) (pa_cons (pv 0) pa_nil))))
      (pss_cons (ps_set (i := 3) sc.nd rfl (Or.inr rfl) pe_dnewK)
      (pss_cons (ps_for (passes_of rfl) rfl (pi_tup (pv 1)) (pg_name (i := 4) sc.nd rfl (Or.inl rfl)) (pss_one (ps_if (pt_cmp (pc_dnotin hu (pv 4) (pv 3))) (pss_cons (ps_set (i := 5) sc.nd rfl (Or.inl rfl) (pe_mX (pv 2) cL.c D_mstep (hr.mono (by decide)) (takes_of rfl rfl rfl rfl) (pa_cons (pv 4) pa_nil)))
      (pss_one (ps_if (pt_cmpR o_notN (pv 5) pe_non (nomark _)) (pss_one (ps_dput hu (pv 3) (pv 4) (pv 5) rfl)) pss_nil))) pss_nil)))
      (pss_one (ps_ret (pe_tup (pa_cons (pe_p (pv 2) cL.c D_pwrote (hr.mono (by decide))) (pa_cons (pe_callTy c_tuple (by rfl) m_tuple (by decide +kernel) (pa_cons (pe_lc (own := [("name", 4)]) (g := gName 4) (tt := tYes) rfl sc.nd (pi_list (pe_callB (c_sortDI rfl) (by rfl) m_sorted (by decide +kernel) (pa_cons (pv 3) pa_nil))) (blkOk_by (own := [("name", 4)]) (N := ["size", "schedule", "levels", "looks", "name", "look"]) (sc := defScope sLevelsRun) (by decide +kernel)) (fun _ _ _ _ _ => pg_name (i := 4) sc.nd rfl (Or.inl rfl)) (fun _ _ _ _ _ => pts_nil) (fun _ _ _ _ _ => (pe_tup (pa_cons (pv 4) (pa_cons (pe_dget hu (pv 3) (pv 4) (fun _ _ => rfl)) pa_nil))))) pa_nil)) pa_nil))))))))), ?_⟩
    walk_at "go"
    refine make_levels n1 n6 fun LL H1 L1 fresh s1 => ?_
    walk_at "go"
    refine ⟨.ref a, n, rfl, .inl ⟨a, ks, [], rfl, .inr (by rw [List.append_nil]; exact same_tup s1 hrow), hks, fun _ H2 s2 => ?_, fun v rest e => by cases e⟩⟩
    walk_at "go"
    intro d hd
    have L2 := L1.lift s2
    have s02 := s1.trans s2
    have hd0 : H d = none := none_of_same s02 hd
    have hdA : d ∉ LL.p :: LL.foot := L2.away hd
    have R0 : RunI CL H LL n d (K7M.init n) [] (upd H2 d (.dK [])) := ⟨L2.lift (same_new hd), good_init n1, ⟨fun _ => 0, upd_same, fun j hj => by cases hj⟩, s02.trans (same_new hd)⟩
    generalize upd H2 d _ = H3 at R0 ⊢
    walk_at "go"
    refine r_tupK (same_tup R0.same hrow) ?_
    refine r_forT (fun i σ H' => ∃ v4 v5, σ = [some (.int (n : Int)), some (.ref a), some (.ref LL.p), some (.ref d), v4, v5] ∧ RunI CL H LL n d (runN n (ks.take i)).1 (runN n (ks.take i)).2 H')
      ⟨none, none, rfl, R0⟩ (fun i σ H' hi p => same_tup p.choose_spec.choose_spec.2.same hrow) ?_ ?_
    · rintro i x σ H4 hx ⟨v4, v5, rfl, R⟩
      obtain ⟨c, hc, rfl⟩ := nV_at hx
      have hcn : c < n := hks c (List.mem_of_getElem? hc)
      rw [runN_take hc]
      generalize runN n (ks.take i) = p at R ⊢
      obtain ⟨S, g⟩ := p
      dsimp only at R
      obtain ⟨ls, hd1, hd2⟩ := R.dk
      walk_at "go"
      refine r_dninK (.inl hd1) ?_
      walk_at "go"
      by_cases hg : c ∈ g
      · rw [val_in hg]
        refine iteF ?_
        walk_at "go"
        refine ⟨_, _, rfl, ?_⟩
        have e : runS n (S, g) c = (S, g) := if_pos hg
        rw [e]
        exact R
      rw [val_out hg]
      refine iteT ?_
      have e : runS n (S, g) c = (K7M.put S c (stp n S c), if lvs n S c = true then g ++ [c] else g) := if_neg hg
      rw [e]
      walk_at "go"
      refine r_mthK R.lev.ob (fs_no LL n (by decide +kernel) (by decide +kernel) (by decide +kernel) (by decide +kernel) (by decide +kernel)) ?_
      walk_at "go"
      refine ⟨LL, n, S, g, .int (c : Int), "int", rfl, R.lev, n1, n6, by have := R.good.lenG; omega, fun j hj => by have := R.good.len hj; omega, .int _, fun j ej hj hjg y H5 L5 k45 hnon href => ?_, fun z => ?_, fun j ej hj => ?_⟩
      · obtain rfl : c = j := by have := V.int.inj ej; omega
        walk_at "go"
        cases hv : lvs n S c with
        | false =>
          obtain rfl := hnon hv
          refine iteF ?_
          walk_at "go"
          refine ⟨_, _, rfl, ?_⟩
          have R5 := R.stay fresh hdA hcn hg (by rw [hv] at L5; exact L5) k45 n1 hv
          exact R5
        | true =>
          obtain ⟨t, rfl, ht⟩ := href hv
          refine iteT ?_
          have D5 : H5 d = some (.dK (kvOf g ls)) := k45 _ _ hd1 fun z => hdA (List.mem_cons_of_mem _ z)
          walk_at "go"
          refine r_dputK D5 (Nat.lt_of_le_of_lt (m := 1000) (by rw [List.length_map]; have := R.good.lenG; omega) (by decide)) ?_
          rw [putK_new _ (val_out hg)]
          refine ⟨_, _, rfl, ?_⟩
          exact R.leave fresh hd0 hdA hcn hg (by rw [hv] at L5; exact L5) k45 n1 hv hd1 hd2 ht
      · have : nameOf n (.int (c : Int)) = some ((c : Int)).toNat := if_pos ⟨by omega, by omega⟩
        rw [this] at z
        cases z
      · obtain rfl : c = j := by have := V.int.inj ej; omega
        exact absurd hj hg
    · rintro σ H4 ⟨v4, v5, rfl, R⟩
      rw [nV_len, List.take_length] at R
      generalize runN n ks = p at R k
      obtain ⟨S, g⟩ := p
      dsimp only at R k
      obtain ⟨ls, hd1, hd2⟩ := R.dk
      have hb : ∀ j ∈ g, j < n := fun j hj => (R.good.gon j hj).1
      walk_at "go"
      refine r_prpK R.lev.ob ?_
      walk_at "go"
      refine ⟨LL, n, S, g, rfl, R.lev, n6, fun tw H5 htw s5 hw => ?_⟩
      walk_at "go"
      have pm := perm_inOrder R.good.nd hb
      refine r_sortDI (ks := g.map fun (i : Nat) => (i : Int)) (ss := (inOrder n g).map fun (i : Nat) => (i : Int)) (.inl (s5 _ _ hd1)) ?_ ?_ (pm.map _) (range_up _ _) fun p hp => ?_
      · rw [List.map_map, List.map_map]
        rfl
      · have := pm.length_eq
        have := len_inOrder n g
        rw [List.length_map]
        omega
      rw [← ints_nV]
      have s6 := same_new (o := .lst (nV (inOrder n g))) hp
      have hp6 : upd H5 p (.lst (nV (inOrder n g))) p = some (.lst (nV (inOrder n g))) := upd_same
      generalize upd H5 p (.lst (nV (inOrder n g))) = H6 at s6 hp6 ⊢
      have s46 := s5.trans s6
      walk_at "go"
      refine r_lstK (SqL.of hp6) ?_
      refine r_lcLm (fun i y H => ∃ c, (inOrder n g)[i]? = some c ∧ PairAt H y (c, (S c).rd)) (fun i v Dl zs H H' hD p s => ?_) (fun i v H H' s p => ?_) (by rw [nV_len]; have := len_inOrder n g; omega) (SqL.of hp6) (fun _ => rfl) (fun i x H7 hx s7 Q q => ?_) fun pl ys H7 hpl s7 hys hlen hpairs => ?_
      · obtain ⟨c, hc, hpr⟩ := p
        exact ⟨c, hc, hpr.but hD s⟩
      · obtain ⟨c, hc, hpr⟩ := p
        exact ⟨c, hc, hpr.keep s⟩
      · obtain ⟨c, hc, rfl⟩ := nV_at hx
        have hcg : c ∈ g := pm.mem_iff.mp (List.mem_of_getElem? hc)
        walk_at "go"
        refine r_dgetK (.inl (s7 _ _ (s46 _ _ hd1))) (val_in hcg) ?_
        walk_at "go"
        refine ⟨by show 2 ≤ sizeLine; decide, fun q9 hq9 => ?_⟩
        refine q _ _ (same_new hq9) ⟨c, hc, q9, ls c, rfl, upd_same, ?_⟩
        exact (same_new hq9) _ _ (s7 _ _ (s46 _ _ (hd2 c hcg)))
      · walk_at "go"
        refine r_tupL (SqL.of hys) fun tl htl => ?_
        walk_at "go"
        refine ⟨by show 2 ≤ sizeLine; decide, fun t ht => ?_⟩
        have s78 := same_new (o := .tup ys) htl
        have s89 := same_new (o := .tup [.ref tw, .ref tl]) ht
        have s79 := s78.trans s89
        have s69 := s7.trans s79
        refine k t _ (R.same.trans (s46.trans s69)) ⟨tw, tl, ys, upd_same, s69 _ _ (s6 _ _ hw), s89 _ _ upd_same, ?_⟩
        refine ⟨by rw [hlen, nV_len]; unfold looksOf; rw [List.length_map], fun i y il hy hil => ?_⟩
        obtain ⟨c, hc, hpr⟩ := hpairs i y hy
        unfold looksOf at hil
        rw [List.getElem?_map, hc] at hil
        cases hil
        exact hpr.keep s79
end
end K8
namespace K8
open PySem L2 Er K7M
/-- one step of a plain reading -/
local macro_rules | `(tactic| walk_at "step") => `(tactic| first
  | with_reducible refine r_seq ?_ | with_reducible refine r_nx ?_ | with_reducible refine r_asgN ?_ | with_reducible refine r_asgS ?_ | with_reducible refine r_asgT ?_ | with_reducible refine r_ifS ?_
  | with_reducible refine r_ret ?_ | with_reducible refine r_retN ?_ | with_reducible refine r_drop ?_ | with_reducible refine r_test ?_ | with_reducible refine r_B ?_ | with_reducible refine r_not ?_
  | with_reducible refine r_and ?_ | with_reducible refine r_or ?_ | with_reducible refine r_andV ?_ | with_reducible refine r_orV ?_ | with_reducible refine r_notV ?_
  | ((with_reducible refine' r_var ?e ?_); (case e => exact rfl)) | with_reducible refine r_c ?_ | with_reducible refine r_op ?_ | with_reducible refine r_un ?_
  | with_reducible refine r_I0 ?_ | with_reducible refine r_eqI ?_ | with_reducible refine r_neI ?_ | with_reducible refine r_bl ?_ | with_reducible refine r_nil ?_ | with_reducible refine r_cons ?_
  | with_reducible refine r_cb ?_ | with_reducible refine r_call ?_ | with_reducible refine r_tup ?_ | with_reducible refine r_lst ?_ | with_reducible refine r_fld ?_ | with_reducible refine r_bm ?_ | with_reducible refine r_bm0 ?_
  | with_reducible refine r_for ?_ | with_reducible refine r_rng ?_ | with_reducible refine r_rng2 ?_ | with_reducible refine r_lstI ?_ | with_reducible refine r_tupI ?_ | with_reducible refine r_lc ?_
  | with_reducible refine r_augS ?_ | with_reducible refine r_ipI ?_
  | with_reducible refine r_meth ?_ | with_reducible refine r_prop ?_ | with_reducible refine r_make ?_ | with_reducible refine r_din ?_ | with_reducible refine r_dnin ?_ | with_reducible refine r_dput ?_ | with_reducible refine r_dget ?_
  | with_reducible refine r_gN ?_ | with_reducible refine r_tsl ?_ | with_reducible refine r_noP ?_ | with_reducible refine r_part ?_ | with_reducible refine r_pI ?_ | with_reducible refine r_tif ?_ | with_reducible refine r_SL ?_ | with_reducible refine r_gC ?_ | with_reducible refine r_U ?_ | with_reducible refine r_sfld ?_ | with_reducible refine r_dnew ?_ | with_reducible refine r_keys ?_
  | with_reducible refine r_mkE ?_ | with_reducible refine iteT ?_ | with_reducible refine iteF ?_
  | with_reducible refine r_int ?_ | with_reducible refine r_min2 ?_ | with_reducible refine r_isN ?_ | with_reducible refine r_notN ?_)
/-- as far as it goes by itself -/
local macro_rules | `(tactic| walk_at "go") => `(tactic| ((repeat walk_at "step"); (try dsimp only)))

theorem nV_at' {ks : List Nat} {i c : Nat} (h : ks[i]? = some c) : (nV ks)[i]? = some (.int (c : Int)) := by
  unfold nV
  rw [List.getElem?_map, h]
  rfl
theorem nV_append (a b : List Nat) : nV (a ++ b) = nV a ++ nV b := by unfold nV; rw [List.map_append]
theorem idx_filter (P : Nat → Bool) : ∀ l : List Nat, ((List.range l.length).filter fun i => P (l.getD i 0)).map (fun i => V.int ((l.getD i 0 : Nat) : Int)) = nV (l.filter P) := fun l => by
  have e : l = (List.range l.length).map fun i => l.getD i 0 := by
    apply List.ext_getElem?
    intro i
    rw [List.getElem?_map]
    rcases Nat.lt_or_ge i l.length with h | h
    · rw [List.getElem?_range h, List.getElem?_eq_getElem h]
      simp [List.getD, h]
    · rw [List.getElem?_eq_none h, List.getElem?_eq_none (by rw [List.length_range]; exact h)]
      rfl
  have e2 : nV (l.filter P) = nV (((List.range l.length).map fun i => l.getD i 0).filter P) := by rw [← e]
  rw [e2, List.filter_map]
  unfold nV
  rw [List.map_map]
  rfl
theorem inV_names (c : Nat) : ∀ l : List Nat, inV (.int (c : Int)) (nV l) = decide (c ∈ l)
  | [] => by simp [inV, nV]
  | d :: l => by
    have ih := inV_names c l
    have e : eqV (.int (d : Int)) (.int (c : Int)) = decide ((d : Int) = (c : Int)) := by
      first
        | rfl
        | (simp [eqV]; done)
        | (unfold eqV; rfl)
    have e2 : inV (.int (c : Int)) (nV (d :: l)) = (eqV (.int (d : Int)) (.int (c : Int)) || inV (.int (c : Int)) (nV l)) := rfl
    rw [e2, ih, e]
    by_cases h : c = d
    · subst h
      simp
    · have h1 : ¬ ((d : Int) = (c : Int)) := by omega
      rw [decide_eq_false h1, Bool.false_or]
      exact decide_eq_decide.mpr ⟨fun z => List.mem_cons_of_mem _ z, fun z => (List.mem_cons.mp z).resolve_left h⟩
theorem flat_names (l : List Nat) : (nV l).all flatV = true := by
  rw [List.all_eq_true]
  intro x hx
  unfold nV at hx
  obtain ⟨c, _, rfl⟩ := List.mem_map.mp hx
  rfl
section
variable {K : PySem.W.Frag} {σ : L2.St} {H : Hp} {D : Ends} {Q : VK} {QT : Bool → Hp → Prop} {te ta tb : TE} {tt : TT}
theorem r_inT {c : Nat} {p : Addr} {l : List Nat} (h : SqT K H p (nV l)) (q : Q (.bl (decide (c ∈ l))) H) : rIn K false (.int (c : Int)) (.ref p) H Q := ⟨p, nV l, rfl, .inr h, rfl, flat_names l, by rw [inV_names]; exact q⟩
theorem r_ninT {c : Nat} {p : Addr} {l : List Nat} (h : SqT K H p (nV l)) (q : Q (.bl (!decide (c ∈ l))) H) : rIn K true (.int (c : Int)) (.ref p) H Q := ⟨p, nV l, rfl, .inr h, rfl, flat_names l, by rw [inV_names]; exact q⟩
theorem r_inL {c : Nat} {p : Addr} {l : List Nat} (h : SqL K H p (nV l)) (q : Q (.bl (decide (c ∈ l))) H) : rIn K false (.int (c : Int)) (.ref p) H Q := ⟨p, nV l, rfl, .inl h, rfl, flat_names l, by rw [inV_names]; exact q⟩
theorem r_ninL {c : Nat} {p : Addr} {l : List Nat} (h : SqL K H p (nV l)) (q : Q (.bl (!decide (c ∈ l))) H) : rIn K true (.int (c : Int)) (.ref p) H Q := ⟨p, nV l, rfl, .inl h, rfl, flat_names l, by rw [inV_names]; exact q⟩
theorem r_truT {p : Addr} {xs : List V} {B : Bool → Prop} (h : SqT K H p xs) (q : B (!xs.isEmpty)) : ∃ k, TruV K (.ref p) H k ∧ B k := ⟨_, .inr (.inl ⟨xs, h, rfl⟩), q⟩
theorem r_tif {t : TT} (h : t σ H fun c H1 => if c = true then ta σ H1 Q else tb σ H1 Q) : tIf t ta tb σ H Q := h
theorem r_gT {n : Nat} {t : TGs} {a : Addr} {xs : List V} {k : L2.St → Hp → Prop} (h : SqT K H a xs) (l : xs.length = n) (q : t xs σ H k) : gTup K n t (.ref a) σ H k := ⟨a, xs, rfl, h, l, q⟩
theorem r_gC {t : TG} {u : TGs} {v : V} {vs : List V} {k : L2.St → Hp → Prop} (q : t v σ H fun σ1 H1 => u vs σ1 H1 k) : gCons t u (v :: vs) σ H k := ⟨v, vs, rfl, q⟩
theorem r_catL {l b : Addr} {xs zs : List V} (h1 : H l = some (.lst xs)) (h2 : H b = some (.lst zs)) (hz : xs.length + zs.length ≤ 100000) (q : ∀ p, H p = none → Q (.ref p) (upd H p (.lst (xs ++ zs)))) : rCat (.ref l) (.ref b) H Q := ⟨l, b, xs, zs, rfl, rfl, h1, h2, Nat.le_trans hz (by decide), q⟩
theorem r_lcTN {a : Addr} {l : List Nat} {j : Nat} {vs : List Nat} (P : Nat → Bool) (hx : SqT K H a (nV l)) (hl : l.length ≤ 100000) (hw : ∀ x, wipe ((wipe σ vs).set j (some x)) vs = wipe σ vs)
    (ht : ∀ c H', c ∈ l → Same H H' → ∀ QT : Bool → Hp → Prop, (∀ H2, Same H' H2 → QT (P c) H2) → tt ((wipe σ vs).set j (some (.int (c : Int)))) H' QT)
    (he : ∀ (c : Nat) H', c ∈ l → P c = true → Same H H' → ∀ Q : VK, (∀ H2, Same H' H2 → Q (.int (c : Int)) H2) → te ((wipe σ vs).set j (some (.int (c : Int)))) H' Q)
    (q : ∀ p H', H p = none → Same H H' → H' p = some (.lst (nV (l.filter P))) → Q (.ref p) H') : lcK (gName j) tt te vs σ Q (Itt K a) H := by
  have at_ : ∀ {i : Nat} {x : V}, (nV l)[i]? = some x → x = .int ((l.getD i 0 : Nat) : Int) ∧ l.getD i 0 ∈ l := fun {i x} hx => by
    obtain ⟨c, hc, rfl⟩ := nV_at hx
    have e : l.getD i 0 = c := by simp [List.getD, hc]
    exact ⟨by rw [e], by rw [e]; exact List.mem_of_getElem? hc⟩
  refine r_lcT (fun i => P (l.getD i 0)) (fun i => V.int ((l.getD i 0 : Nat) : Int)) (by rw [nV_len]; exact hl) hx hw (fun i x H' hx s QT k => ?_) (fun i x H' hx hp s Q k => ?_) fun p H' hp s h => ?_
  · obtain ⟨rfl, hm⟩ := at_ hx
    exact ht _ H' hm s QT k
  · obtain ⟨rfl, hm⟩ := at_ hx
    exact he _ H' hm hp s Q k
  · rw [nV_len, idx_filter] at h
    exact q p H' hp s h
end
end K8
namespace K8
open PySem L2 Er K7M
/-- one step of a plain reading -/
local macro_rules | `(tactic| walk_at "step") => `(tactic| first
  | with_reducible refine r_seq ?_ | with_reducible refine r_nx ?_ | with_reducible refine r_asgN ?_ | with_reducible refine r_asgS ?_ | with_reducible refine r_asgT ?_ | with_reducible refine r_ifS ?_
  | with_reducible refine r_ret ?_ | with_reducible refine r_retN ?_ | with_reducible refine r_drop ?_ | with_reducible refine r_test ?_ | with_reducible refine r_B ?_ | with_reducible refine r_not ?_
  | with_reducible refine r_and ?_ | with_reducible refine r_or ?_ | with_reducible refine r_andV ?_ | with_reducible refine r_orV ?_ | with_reducible refine r_notV ?_
  | ((with_reducible refine' r_var ?e ?_); (case e => exact rfl)) | with_reducible refine r_c ?_ | with_reducible refine r_op ?_ | with_reducible refine r_un ?_
  | with_reducible refine r_I0 ?_ | with_reducible refine r_eqI ?_ | with_reducible refine r_neI ?_ | with_reducible refine r_bl ?_ | with_reducible refine r_nil ?_ | with_reducible refine r_cons ?_
  | with_reducible refine r_cb ?_ | with_reducible refine r_call ?_ | with_reducible refine r_tup ?_ | with_reducible refine r_lst ?_ | with_reducible refine r_fld ?_ | with_reducible refine r_bm ?_ | with_reducible refine r_bm0 ?_
  | with_reducible refine r_for ?_ | with_reducible refine r_rng ?_ | with_reducible refine r_rng2 ?_ | with_reducible refine r_lstI ?_ | with_reducible refine r_tupI ?_ | with_reducible refine r_lc ?_
  | with_reducible refine r_augS ?_ | with_reducible refine r_ipI ?_
  | with_reducible refine r_meth ?_ | with_reducible refine r_prop ?_ | with_reducible refine r_make ?_ | with_reducible refine r_din ?_ | with_reducible refine r_dnin ?_ | with_reducible refine r_dput ?_ | with_reducible refine r_dget ?_
  | with_reducible refine r_gN ?_ | with_reducible refine r_tsl ?_ | with_reducible refine r_noP ?_ | with_reducible refine r_part ?_ | with_reducible refine r_pI ?_ | with_reducible refine r_tif ?_ | with_reducible refine r_SL ?_ | with_reducible refine r_gC ?_ | with_reducible refine r_U ?_ | with_reducible refine r_sfld ?_ | with_reducible refine r_dnew ?_ | with_reducible refine r_keys ?_
  | with_reducible refine r_mkE ?_ | with_reducible refine iteT ?_ | with_reducible refine iteF ?_
  | with_reducible refine r_int ?_ | with_reducible refine r_min2 ?_ | with_reducible refine r_isN ?_ | with_reducible refine r_notN ?_)
/-- as far as it goes by itself -/
local macro_rules | `(tactic| walk_at "go") => `(tactic| ((repeat walk_at "step"); (try dsimp only)))

/-- a list of tuples of names -/
def ItemsAt (H : Hp) (ys : List V) (bs : List (List Nat)) : Prop := ys.length = bs.length ∧ ∀ (i : Nat) (y : V) (b : List Nat), ys[i]? = some y → bs[i]? = some b → ∃ p, y = .ref p ∧ H p = some (.tup (nV b))
theorem ItemsAt.but {H H' : Hp} {ys : List V} {bs : List (List Nat)} {D : Addr} {zs : List V} (hD : H D = some (.lst zs)) (s : ∀ b u, b ≠ D → H b = some u → H' b = some u) (h : ItemsAt H ys bs) : ItemsAt H' ys bs :=
  ⟨h.1, fun i y b h1 h2 => by
    obtain ⟨p, e, hp⟩ := h.2 i y b h1 h2
    exact ⟨p, e, s _ _ (ne_of hp hD (by intro z; cases z)) hp⟩⟩
theorem ItemsAt.keep {H H' : Hp} {ys : List V} {bs : List (List Nat)} (s : Same H H') (h : ItemsAt H ys bs) : ItemsAt H' ys bs :=
  ⟨h.1, fun i y b h1 h2 => by
    obtain ⟨p, e, hp⟩ := h.2 i y b h1 h2
    exact ⟨p, e, s _ _ hp⟩⟩
theorem ItemsAt.snoc {H : Hp} {ys : List V} {bs : List (List Nat)} {p : Addr} {b : List Nat} (h : ItemsAt H ys bs) (hp : H p = some (.tup (nV b))) : ItemsAt H (ys ++ [.ref p]) (bs ++ [b]) := by
  refine ⟨by rw [List.length_append, List.length_append, h.1]; rfl, fun i y c h1 h2 => ?_⟩
  rcases Nat.lt_or_ge i ys.length with hi | hi
  · rw [List.getElem?_append_left hi] at h1
    rw [List.getElem?_append_left (by rw [← h.1]; exact hi)] at h2
    exact h.2 i y c h1 h2
  · rw [List.getElem?_append_right hi] at h1
    rw [List.getElem?_append_right (by rw [← h.1]; exact hi)] at h2
    rw [h.1] at h1
    rcases Nat.eq_zero_or_pos (i - bs.length) with z | z
    · rw [z] at h1 h2
      cases h1
      cases h2
      exact ⟨p, rfl, hp⟩
    · rw [List.getElem?_eq_none (by show 1 ≤ _; omega)] at h1
      cases h1
def BlocksAt (H : Hp) (t : Addr) (bs : List (List Nat)) : Prop := ∃ ys, H t = some (.tup ys) ∧ ItemsAt H ys bs
def sortedLooks (n : Nat) (S : Sys) (g : List Nat) : List (List Nat) := ((looksOf n S g).map (·.2)).mergeSort lenLeN
def spBlocks (K : PySem.W.Frag) (CN CB : Addr) : Sp := fun vs H Q E => ∃ (v sv : V), vs = [v, sv] ∧
  ((∃ tn, Sm K H v tn ∧ okSize v = false ∧ rsd CB "word" (.str "size") H E) ∨
   (∃ n : Nat, v = .int (n : Int) ∧ 1 ≤ n ∧ n ≤ 6 ∧ (SchedBad K CN H sv n E ∨
     ∃ (a : Addr) (ks : List Nat), sv = .ref a ∧ (SqL K H a (nV ks) ∨ SqT K H a (nV ks)) ∧ (∀ c ∈ ks, c < n) ∧ ∀ t H', Same H H' → BlocksAt H' t (blocksP (sortedLooks n (runN n ks).1 (runN n ks).2) (wroteOf n (runN n ks).1)) → Q (.ref t) H')))
theorem pairs_fn {H : Hp} {ys : List V} {ls : List (Nat × List Nat)} (h : PairsAt H ys ls) : ∃ rf : Nat → Addr, ∀ (i : Nat) (y : V) (il : Nat × List Nat), ys[i]? = some y → ls[i]? = some il → ∃ p, y = .ref p ∧ H p = some (.tup [.int (il.1 : Int), .ref (rf i)]) ∧ H (rf i) = some (.tup (nV il.2)) := by
  have : ∀ i : Nat, ∃ r : Addr, ∀ (y : V) (il : Nat × List Nat), ys[i]? = some y → ls[i]? = some il → ∃ p, y = .ref p ∧ H p = some (.tup [.int (il.1 : Int), .ref r]) ∧ H r = some (.tup (nV il.2)) := fun i => by
    cases e1 : ys[i]? with
    | none => exact ⟨0, fun y il h1 => by cases h1⟩
    | some y =>
      cases e2 : ls[i]? with
      | none => exact ⟨0, fun y il _ h2 => by cases h2⟩
      | some il =>
        obtain ⟨p, r, h1, h2, h3⟩ := h.2 i y il e1 e2
        exact ⟨r, fun y' il' h4 h5 => by
          cases h4
          cases h5
          exact ⟨p, h1, h2, h3⟩⟩
  exact ⟨fun i => (this i).choose, fun i y il h1 h2 => (this i).choose_spec y il h1 h2⟩
/-- the looks with the addresses of their tuples -/
def tlOf (rf : Nat → Addr) (ls : List (Nat × List Nat)) : List (Addr × List Nat) := (List.range ls.length).map fun i => (rf i, (ls.getD i (0, [])).2)
def leA (x y : Addr × List Nat) : Bool := decide (x.2.length ≤ y.2.length)
def upV (x : Addr × List Nat) : Addr × List V := (x.1, nV x.2)
theorem sort_up (l : List (Addr × List Nat)) : (l.map upV).mergeSort lenLe = (l.mergeSort leA).map upV := by
  refine (List.map_mergeSort fun a _ b _ => ?_).symm
  unfold leA lenLe upV
  dsimp only
  rw [nV_len, nV_len]
theorem sort_snd (l : List (Addr × List Nat)) : (l.mergeSort leA).map (·.2) = (l.map (·.2)).mergeSort lenLeN := List.map_mergeSort fun a _ b _ => rfl
theorem tl_snd (rf : Nat → Addr) (ls : List (Nat × List Nat)) : (tlOf rf ls).map (·.2) = ls.map (·.2) := by
  unfold tlOf
  rw [List.map_map]
  apply List.ext_getElem?
  intro i
  rw [List.getElem?_map, List.getElem?_map]
  rcases Nat.lt_or_ge i ls.length with h | h
  · rw [List.getElem?_range h, List.getElem?_eq_getElem h]
    simp [List.getD, h]
  · rw [List.getElem?_eq_none h, List.getElem?_eq_none (by rw [List.length_range]; exact h)]
    rfl
theorem blkF_sub {ls : List (List Nat)} {n : Nat} (h : ∀ l ∈ ls, ∀ c ∈ l, c < n) : ∀ c ∈ (blkF ls).2, c < n := by
  suffices H : ∀ (ls : List (List Nat)) (p : List (List Nat) × List Nat), (∀ l ∈ ls, ∀ c ∈ l, c < n) → (∀ c ∈ p.2, c < n) → ∀ c ∈ (ls.foldl blkS p).2, c < n from H ls _ h (fun c hc => by cases hc)
  intro ls
  induction ls with
  | nil => exact fun p _ h => h
  | cons l ls ih =>
    intro p h hp
    refine ih _ (fun l' hl' => h l' (List.mem_cons_of_mem _ hl')) ?_
    unfold blkS
    split
    · exact hp
    · intro c hc
      rcases List.mem_append.mp hc with hc | hc
      · exact hp c hc
      · exact h l (List.mem_cons_self ..) c (List.mem_filter.mp hc).1
theorem blkF_len {ls : List (List Nat)} : (blkF ls).1.length ≤ ls.length := by
  suffices H : ∀ (ls : List (List Nat)) (p : List (List Nat) × List Nat), (ls.foldl blkS p).1.length ≤ p.1.length + ls.length by
    have := H ls ([], [])
    simp only [List.length_nil, Nat.zero_add] at this
    exact this
  intro ls
  induction ls with
  | nil => exact fun p => Nat.le_refl _
  | cons l ls ih =>
    intro p
    refine Nat.le_trans (ih _) ?_
    unfold blkS
    split
    · rw [List.length_cons]; omega
    · simp only [List.length_append, List.length_cons, List.length_nil]; omega
theorem blkF_lenS {ls : List (List Nat)} {n m : Nat} (h : ∀ l ∈ ls, l.length ≤ n) (hm : ls.length ≤ m) : (blkF ls).2.length ≤ m * n := by
  suffices H : ∀ (ls : List (List Nat)) (p : List (List Nat) × List Nat), (∀ l ∈ ls, l.length ≤ n) → (ls.foldl blkS p).2.length ≤ p.2.length + ls.length * n by
    have := H ls ([], []) h
    simp only [List.length_nil, Nat.zero_add] at this
    exact Nat.le_trans this (Nat.mul_le_mul_right n hm)
  intro ls
  induction ls with
  | nil => exact fun p _ => by simp
  | cons l ls ih =>
    intro p h
    refine Nat.le_trans (ih _ fun l' hl' => h l' (List.mem_cons_of_mem _ hl')) ?_
    have h1 := h l (List.mem_cons_self ..)
    have h2 : (fresh l p.2).length ≤ l.length := List.length_filter_le _ _
    rw [List.length_cons, Nat.succ_mul]
    unfold blkS
    split
    · omega
    · rw [List.length_append]
      omega
section
variable {P : Program} {w : World} {K : PySem.W.Frag} {mg : Str → Option Value} {base : Heap} {CN CB CL : Addr}
theorem scBlocks : FnScope ["size", "schedule", "wrote", "looks", "blocks", "shown", "look", "fresh", "rest", "pair", "name"] ["size", "schedule"] (defScope sLevelsBlocks) := ⟨rfl, rfl, rfl, by decide +kernel, rfl, by decide +kernel, by decide +kernel⟩
theorem ok_blocks {f : Addr} {fd : FuncData} (F : Fun K "levels_blocks" "levels_blocks" sLevelsBlocks f fd) (m_tuple : mg "tuple" = none) (m_sorted : mg "sorted" = none) (m_len : mg "len" = none)
    (D_run : Fok P w K mg base 6 "levels_run" ["size", "schedule"] (spRun K CN CB)) :
    FnOk P w K mg base (L2.CX P w) 7 f fd ["size", "schedule"] (spBlocks K CN CB) := by
  refine F.okX scBlocks (fun vs H Q E h => ?_) (fun cdv A outer s H vs Q E hr h => ?_)
  · obtain ⟨v, sv, rfl, _⟩ := h
    rfl
  obtain ⟨v, sv, rfl, h⟩ := h
  have sc := scBlocks
  refine ⟨_, (pss_cons (ps_asg (pe_fX D_run (hr.mono (by decide)) (takes_of rfl rfl rfl rfl) (pa_cons (pv 0) (pa_cons (pv 1) pa_nil))) (pg_tup (by rfl) (pgs_cons (pg_name (i := 2) sc.nd rfl (Or.inl rfl)) (pgs_cons (pg_name (i := 3) sc.nd rfl (Or.inl rfl)) pgs_nil))))
    (pss_cons (ps_set (i := 4) sc.nd rfl (Or.inl rfl) (pe_lst pa_nil))
    (pss_cons (ps_set (i := 5) sc.nd rfl (Or.inr rfl) (pe_tup pa_nil))
    (pss_cons (ps_for (passes_of rfl) rfl (pi_list (pe_sortLen hr.units (pa_cons (pe_lc (own := [("pair", 9)]) (g := gName 9) (tt := tYes) rfl sc.nd (pi_tup (pv 3)) (blkOk_by (own := [("pair", 9)]) (N := ["size", "schedule", "wrote", "looks", "blocks", "shown", "look", "fresh", "rest", "pair", "name"]) (sc := defScope sLevelsBlocks) (by decide +kernel)) (fun _ _ _ _ _ => pg_name (i := 9) sc.nd rfl (Or.inl rfl)) (fun _ _ _ _ _ => pts_nil) (fun _ _ _ _ _ => pe_ix (ixT K) (pv 9) pe_int (fun _ _ => rfl))) pa_nil) (by rfl) m_sorted (by rfl) m_len)) (pg_name (i := 6) sc.nd rfl (Or.inl rfl)) (pss_cons (ps_set (i := 7) sc.nd rfl (Or.inl rfl) (pe_callTy c_tuple (by rfl) m_tuple (by decide +kernel) (pa_cons (pe_lc (own := [("name", 10)]) (g := gName 10)  rfl sc.nd (pi_tup (pv 6)) (blkOk_by (own := [("name", 10)]) (N := ["size", "schedule", "wrote", "looks", "blocks", "shown", "look", "fresh", "rest", "pair", "name"]) (sc := defScope sLevelsBlocks) (by decide +kernel)) (fun _ _ _ _ _ => pg_name (i := 10) sc.nd rfl (Or.inl rfl)) (fun _ _ _ _ _ => (pts_one (pt_cmpR (ninK K) (pv 10) (pv 5) (by with_unfolding_all rfl)))) (fun _ _ _ _ _ => (pv 10))) pa_nil)))
    (pss_one (ps_if (pt_truth (pv 7) (by intro _; rfl)) (pss_cons (ps_expr (pe_bm PySem.F.plainAttrs_list PySem.F.slot_list_append PySem.F.type_list_append mt_append (pv 4) (pa_cons (pv 7) pa_nil)))
    (pss_one (ps_set (i := 5) sc.nd rfl (Or.inr rfl) (pe_op op_catA (pv 5) (pv 7))))) pss_nil))))
    (pss_cons (ps_set (i := 8) sc.nd rfl (Or.inl rfl) (pe_callTy c_tuple (by rfl) m_tuple (by decide +kernel) (pa_cons (pe_lc (own := [("name", 10)]) (g := gName 10)  rfl sc.nd (pi_tup (pv 2)) (blkOk_by (own := [("name", 10)]) (N := ["size", "schedule", "wrote", "looks", "blocks", "shown", "look", "fresh", "rest", "pair", "name"]) (sc := defScope sLevelsBlocks) (by decide +kernel)) (fun _ _ _ _ _ => pg_name (i := 10) sc.nd rfl (Or.inl rfl)) (fun _ _ _ _ _ => (pts_one (pt_cmpR (ninK K) (pv 10) (pv 5) (by with_unfolding_all rfl)))) (fun _ _ _ _ _ => (pv 10))) pa_nil)))
    (pss_one (ps_ret (pe_ifExp (pt_truth (pv 8) (by intro _; rfl)) (pe_callTy c_tuple (by rfl) m_tuple (by decide +kernel) (pa_cons (pe_op op_cat (pv 4) (pe_lst (pa_cons (pv 8) pa_nil))) pa_nil)) (pe_callTy c_tuple (by rfl) m_tuple (by decide +kernel) (pa_cons (pv 4) pa_nil)))))))))), ?_⟩
  walk_at "go"
  refine ⟨v, sv, rfl, ?_⟩
  rcases h with ⟨tn, hS, hv9, hr9⟩ | ⟨n, rfl, n1, n6, hbad | ⟨a, ks, rfl, hrow, hks, k⟩⟩
  · exact .inl ⟨tn, hS, hv9, hr9⟩
  · exact .inr ⟨n, rfl, n1, n6, .inl hbad⟩
  refine .inr ⟨n, rfl, n1, n6, .inr ⟨a, ks, rfl, hrow, hks, fun t0 H1 s1 hR => ?_⟩⟩
  have G := good_run n1 hks
  generalize runN n ks = p at hR k G
  obtain ⟨S, g⟩ := p
  dsimp only at hR k G
  obtain ⟨tw, tl, ys, ht0, htw, htl, hys⟩ := hR
  have hlooks : ∀ il ∈ looksOf n S g, il.2.length ≤ 6 := fun il hil => by
    unfold looksOf at hil
    obtain ⟨c, hc, rfl⟩ := List.mem_map.mp hil
    have hcn : c < n := List.mem_range.mp (List.mem_filter.mp hc).1
    have := G.len hcn
    show (S c).rd.length ≤ 6
    omega
  have hnum : (looksOf n S g).length ≤ 6 := by
    unfold looksOf
    rw [List.length_map]
    have := len_inOrder n g
    omega
  have hw6 : (wroteOf n S).length ≤ 6 := by
    have := List.length_filter_le (fun j => decide (0 < (S j).cnt)) (List.range n)
    rw [List.length_range] at this
    exact Nat.le_trans this n6
  unfold sortedLooks at k
  generalize looksOf n S g = ls at hys hlooks hnum k
  generalize wroteOf n S = ws at htw hw6 k
  obtain ⟨rf, hrf⟩ := pairs_fn hys
  refine r_gT (SqT.of ht0) rfl ?_
  walk_at "go"
  refine ⟨rfl, ?_⟩
  walk_at "go"
  refine ⟨by show 0 ≤ sizeLine; decide, fun pb hpb => ?_⟩
  walk_at "go"
  refine ⟨by show 0 ≤ sizeLine; decide, fun ps hps => ?_⟩
  have s12 : Same H1 (upd (upd H1 pb (.lst [])) ps (.tup [])) := (same_new hpb).trans (same_new hps)
  have hpb2 : (upd (upd H1 pb (.lst [])) ps (.tup [])) pb = some (.lst []) := (same_new hps) _ _ upd_same
  have hps2 : (upd (upd H1 pb (.lst [])) ps (.tup [])) ps = some (.tup []) := upd_same
  generalize upd (upd H1 pb (.lst [])) ps (.tup []) = H2 at s12 hpb2 hps2 ⊢
  walk_at "go"
  refine r_tupK (SqT.of (s12 _ _ htl)) ?_
  refine r_lcT (fun _ => true) (fun i => .ref (rf i)) (by have := hys.1; omega) (SqT.of (s12 _ _ htl)) (fun _ => rfl) (fun i x H3 hx s3 QT q => q H3 (Same.refl _)) (fun i x H3 hx _ s3 Q q => ?_) fun pl H3 hpl s3 hl => ?_
  · obtain ⟨il, hil⟩ : ∃ il, ls[i]? = some il := by
      have := (List.getElem?_eq_some_iff.mp hx).1
      rw [hys.1] at this
      exact ⟨ls[i], List.getElem?_eq_getElem this⟩
    obtain ⟨p, rfl, h1, h2⟩ := hrf i x il hx hil
    walk_at "go"
    refine r_ixT (SqT.of (s3 _ _ (s12 _ _ h1))) (v := .ref (rf i)) rfl ?_
    exact q H3 (Same.refl _)
  walk_at "go"
  have er : (((List.range ys.length).filter fun _ => true).map fun i => V.ref (rf i)) = refsOf ((tlOf rf ls).map upV) := by
    rw [List.filter_eq_self.mpr (fun _ _ => rfl), hys.1]
    unfold refsOf tlOf upV
    rw [List.map_map, List.map_map]
    rfl
  rw [er] at hl
  have htl2 : ∀ x ∈ tlOf rf ls, H1 x.1 = some (.tup (nV x.2)) ∧ x.2.length ≤ 6 := fun x hx => by
    unfold tlOf at hx
    obtain ⟨i, hi, rfl⟩ := List.mem_map.mp hx
    have hi := List.mem_range.mp hi
    have hil : ls[i]? = some ls[i] := List.getElem?_eq_getElem hi
    have hy : ys[i]? = some (ys[i]'(by rw [hys.1]; exact hi)) := List.getElem?_eq_getElem _
    obtain ⟨p, _, _, h2⟩ := hrf i _ _ hy hil
    have e : ls.getD i (0, []) = ls[i] := by simp [List.getD, hi]
    rw [e]
    exact ⟨h2, hlooks ls[i] (List.getElem_mem hi)⟩
  refine ⟨pl, (tlOf rf ls).map upV, rfl, SqL.of hl, fun t ht => ?_, ?_, fun q hq => ?_⟩
  · obtain ⟨x, hx, rfl⟩ := List.mem_map.mp ht
    exact s3 _ _ (s12 _ _ (htl2 x hx).1)
  · rw [List.length_map]
    unfold tlOf
    rw [List.length_map, List.length_range]
    omega
  rw [sort_up]
  generalize hso : (tlOf rf ls).mergeSort leA = so
  have hsnd : so.map (·.2) = (ls.map (·.2)).mergeSort lenLeN := by rw [← hso, sort_snd, tl_snd]
  have hsom : ∀ x ∈ so, H1 x.1 = some (.tup (nV x.2)) ∧ x.2.length ≤ 6 := fun x hx => htl2 x (by rw [← hso] at hx; exact List.mem_mergeSort.mp hx)
  have hsol : so.length ≤ 6 := by
    rw [← hso, List.length_mergeSort]
    unfold tlOf
    rw [List.length_map, List.length_range]
    exact hnum
  rw [← hsnd] at k
  have hrefs : refsOf (so.map upV) = so.map fun x => V.ref x.1 := by
    unfold refsOf upV
    rw [List.map_map]
    rfl
  rw [hrefs]
  have hpb3 : H3 pb = some (.lst []) := s3 _ _ hpb2
  have qpb : q ≠ pb := fun z => by rw [z, hpb3] at hq; cases hq
  refine r_lstK (SqL.of upd_same) ?_
  refine r_forL (xs := so.map fun x => V.ref x.1) (fun i σ H' => ∃ v6 v7 p5, σ = [some (.int (n : Int)), some (.ref a), some (.ref tw), some (.ref tl), some (.ref pb), some (.ref p5), v6, v7, none, none, none] ∧ Same H1 H' ∧ H' q = some (.lst (so.map fun x => V.ref x.1)) ∧ H' p5 = some (.tup (nV (blkF ((so.map (·.2)).take i)).2)) ∧
      ∃ ys, H' pb = some (.lst ys) ∧ ItemsAt H' ys (blkF ((so.map (·.2)).take i)).1)
    ⟨none, none, ps, rfl, (s12.trans s3).trans (same_new hq), upd_same, ?_, [], ?_, ?_⟩ (fun i σ H' hi p => ?_) ?_ ?_
  · exact (same_new hq) _ _ (s3 _ _ hps2)
  · exact (same_new hq) _ _ hpb3
  · exact ⟨rfl, fun i y b h1 => by simp at h1⟩
  · obtain ⟨v6, v7, p5, _, _, h, _⟩ := p
    exact SqL.of h
  · rintro i x σ H4 hx ⟨v6, v7, p5, rfl, s4, hq4, hp5, yb, hpb4, hyb⟩
    rw [List.getElem?_map] at hx
    obtain ⟨xl, hxl, rfl⟩ : ∃ xl, so[i]? = some xl ∧ x = V.ref xl.1 := by
      cases e : so[i]? with
      | none => rw [e] at hx; cases hx
      | some xl => rw [e] at hx; exact ⟨xl, rfl, (Option.some.inj hx).symm⟩
    have hi : i < so.length := (List.getElem?_eq_some_iff.mp hxl).1
    obtain ⟨hx1, hx6⟩ := hsom xl (List.mem_of_getElem? hxl)
    have hblk : blkF ((so.map (·.2)).take (i + 1)) = blkS (blkF ((so.map (·.2)).take i)) xl.2 := blkF_take (by rw [List.getElem?_map, hxl]; rfl)
    have hb6 : (blkF ((so.map (·.2)).take i)).1.length ≤ 6 := Nat.le_trans blkF_len (by rw [List.length_take, List.length_map]; omega)
    have hs36 : (blkF ((so.map (·.2)).take i)).2.length ≤ 6 * 6 := blkF_lenS (fun l hl => by
      obtain ⟨z, hz, rfl⟩ := List.mem_map.mp (List.mem_of_mem_take hl)
      exact (hsom z hz).2) (by rw [List.length_take, List.length_map]; omega)
    rw [hblk]
    generalize blkF ((so.map (·.2)).take i) = pr at hp5 hyb hb6 hs36 ⊢
    obtain ⟨bs, sh⟩ := pr
    dsimp only at hp5 hyb hb6 hs36
    walk_at "go"
    refine r_tupK (SqT.of (s4 _ _ hx1)) ?_
    refine r_lcTN (fun c => !decide (c ∈ sh)) (SqT.of (s4 _ _ hx1)) (by omega) (fun _ => rfl) (fun c H5 hc s5 QT q => ?_) (fun c H5 hc _ s5 Q q => ?_) fun p6 H5 hp6 s5 h6 => ?_
    · walk_at "go"
      refine r_ninT (SqT.of (s5 _ _ hp5)) ?_
      walk_at "go"
      exact q H5 (Same.refl _)
    · walk_at "go"
      exact q H5 (Same.refl _)
    walk_at "go"
    refine r_tupL (SqL.of h6) fun p7 hp7 => ?_
    have s6 := s5.trans (same_new (o := .tup (nV (xl.2.filter fun c => !decide (c ∈ sh)))) hp7)
    have h7 : (upd H5 p7 (.tup (nV (xl.2.filter fun c => !decide (c ∈ sh))))) p7 = some (.tup (nV (fresh xl.2 sh))) := upd_same
    generalize upd H5 p7 _ = H6 at s6 h7 ⊢
    walk_at "go"
    refine r_truT (SqT.of h7) ?_
    have ee : (nV (fresh xl.2 sh)).isEmpty = (fresh xl.2 sh).isEmpty := by
      unfold nV
      rw [List.isEmpty_map]
    rw [ee]
    have eb : blkS (bs, sh) xl.2 = if (fresh xl.2 sh).isEmpty = true then (bs, sh) else (bs ++ [fresh xl.2 sh], sh ++ fresh xl.2 sh) := rfl
    rw [eb]
    cases hfe : (fresh xl.2 sh).isEmpty with
    | true =>
      refine iteF ?_
      walk_at "go"
      rw [if_pos rfl]
      exact ⟨_, _, p5, rfl, s4.trans s6, s6 _ _ hq4, s6 _ _ hp5, yb, s6 _ _ hpb4, hyb.keep s6⟩
    | false =>
      refine iteT ?_
      rw [if_neg Bool.false_ne_true]
      walk_at "go"
      refine r_tyL (SqL.of (s6 _ _ hpb4)) ?_
      walk_at "go"
      refine r_app (s6 _ _ hpb4) (Nat.lt_of_le_of_lt (m := 6) (by rw [hyb.1]; exact hb6) (by decide)) ?_
      have hy6 := (hyb.keep s6).snoc h7
      have keep : ∀ b u, b ≠ pb → H6 b = some u → (upd H6 pb (.lst (yb ++ [.ref p7]))) b = some u := fun b u nb z => by rw [upd_ne nb]; exact z
      have hy7 : ItemsAt (upd H6 pb (.lst (yb ++ [.ref p7]))) (yb ++ [.ref p7]) (bs ++ [fresh xl.2 sh]) := hy6.but (s6 _ _ hpb4) keep
      have hq7 : (upd H6 pb (.lst (yb ++ [.ref p7]))) q = some (.lst (so.map fun x => V.ref x.1)) := keep _ _ qpb (s6 _ _ hq4)
      have h57 : (upd H6 pb (.lst (yb ++ [.ref p7]))) p5 = some (.tup (nV sh)) := keep _ _ (ne_of (s6 _ _ hp5) (s6 _ _ hpb4) (by intro z; cases z)) (s6 _ _ hp5)
      have h77 : (upd H6 pb (.lst (yb ++ [.ref p7]))) p7 = some (.tup (nV (fresh xl.2 sh))) := keep _ _ (ne_of h7 (s6 _ _ hpb4) (by intro z; cases z)) h7
      have hpb7 : (upd H6 pb (.lst (yb ++ [.ref p7]))) pb = some (.lst (yb ++ [.ref p7])) := upd_same
      have s7 : Same H1 (upd H6 pb (.lst (yb ++ [.ref p7]))) := fun b o z => keep b o (ne_of_none z hpb) (s6 _ _ (s4 _ _ z))
      generalize upd H6 pb (.lst (yb ++ [.ref p7])) = H7 at hy7 hq7 h57 h77 hpb7 s7 ⊢
      walk_at "go"
      refine r_catT (SqT.of h57) h77 (by
        rw [nV_len, nV_len]
        have : (fresh xl.2 sh).length ≤ xl.2.length := List.length_filter_le _ _
        omega) (fun z => by
          have : (nV (fresh xl.2 sh)).isEmpty = true := by rw [z]; rfl
          rw [ee, hfe] at this
          cases this) fun t H8 s8 ht => ?_
      rw [← nV_append] at ht
      exact ⟨_, _, t, rfl, s7.trans s8, s8 _ _ hq7, ht, _, s8 _ _ hpb7, hy7.keep s8⟩
  · rintro σ H4 ⟨v6, v7, p5, rfl, s4, hq4, hp5, yb, hpb4, hyb⟩
    rw [List.length_map, List.take_of_length_le (by rw [List.length_map]; exact Nat.le_refl _)] at hp5 hyb
    have hb6 : (blkF (so.map (·.2))).1.length ≤ 6 := Nat.le_trans blkF_len (by rw [List.length_map]; exact hsol)
    unfold blocksP at k
    generalize blkF (so.map (·.2)) = pr at hp5 hyb hb6 k
    obtain ⟨bs, sh⟩ := pr
    dsimp only at hp5 hyb hb6 k
    walk_at "go"
    refine r_tupK (SqT.of (s4 _ _ htw)) ?_
    refine r_lcTN (fun c => !decide (c ∈ sh)) (SqT.of (s4 _ _ htw)) (by omega) (fun _ => rfl) (fun c H5 hc s5 QT q => ?_) (fun c H5 hc _ s5 Q q => ?_) fun p6 H5 hp6 s5 h6 => ?_
    · walk_at "go"
      refine r_ninT (SqT.of (s5 _ _ hp5)) ?_
      walk_at "go"
      exact q H5 (Same.refl _)
    · walk_at "go"
      exact q H5 (Same.refl _)
    walk_at "go"
    refine r_tupL (SqL.of h6) fun p7 hp7 => ?_
    have s6 := s5.trans (same_new (o := .tup (nV (ws.filter fun c => !decide (c ∈ sh)))) hp7)
    have h7 : (upd H5 p7 (.tup (nV (ws.filter fun c => !decide (c ∈ sh))))) p7 = some (.tup (nV (fresh ws sh))) := upd_same
    generalize upd H5 p7 _ = H6 at s6 h7 ⊢
    walk_at "go"
    refine r_truT (SqT.of h7) ?_
    have ee : (nV (fresh ws sh)).isEmpty = (fresh ws sh).isEmpty := by
      unfold nV
      rw [List.isEmpty_map]
    rw [ee]
    cases hfe : (fresh ws sh).isEmpty with
    | true =>
      rw [hfe, if_pos rfl] at k
      refine iteF ?_
      walk_at "go"
      refine r_tupL (SqL.of (s6 _ _ hpb4)) fun t ht => ?_
      exact k t _ (s1.trans ((s4.trans s6).trans (same_new ht))) ⟨yb, upd_same, (hyb.keep s6).keep (same_new ht)⟩
    | false =>
      rw [hfe, if_neg Bool.false_ne_true] at k
      refine iteT ?_
      walk_at "go"
      refine ⟨by show 1 ≤ sizeLine; decide, fun p9 hp9 => ?_⟩
      have s9 := s6.trans (same_new (o := .lst [.ref p7]) hp9)
      refine r_catL ((same_new hp9) _ _ (s6 _ _ hpb4)) upd_same (by rw [hyb.1]; show _ + 1 ≤ _; omega) fun pc hpc => ?_
      have s10 := s9.trans (same_new (o := .lst (yb ++ [.ref p7])) hpc)
      refine r_tupL (SqL.of upd_same) fun t ht => ?_
      have s11 := s10.trans (same_new (o := .tup (yb ++ [.ref p7])) ht)
      refine k t _ (s1.trans (s4.trans s11)) ⟨_, upd_same, ?_⟩
      exact ((((hyb.keep s6).snoc h7).keep (same_new hp9)).keep (same_new hpc)).keep (same_new ht)
end
end K8
namespace K8
open PySem L2 Er K7M
/-- one step of a plain reading -/
local macro_rules | `(tactic| walk_at "step") => `(tactic| first
  | with_reducible refine r_seq ?_ | with_reducible refine r_nx ?_ | with_reducible refine r_asgN ?_ | with_reducible refine r_asgS ?_ | with_reducible refine r_asgT ?_ | with_reducible refine r_ifS ?_
  | with_reducible refine r_ret ?_ | with_reducible refine r_retN ?_ | with_reducible refine r_drop ?_ | with_reducible refine r_test ?_ | with_reducible refine r_B ?_ | with_reducible refine r_not ?_
  | with_reducible refine r_and ?_ | with_reducible refine r_or ?_ | with_reducible refine r_andV ?_ | with_reducible refine r_orV ?_ | with_reducible refine r_notV ?_
  | ((with_reducible refine' r_var ?e ?_); (case e => exact rfl)) | with_reducible refine r_c ?_ | with_reducible refine r_op ?_ | with_reducible refine r_un ?_
  | with_reducible refine r_I0 ?_ | with_reducible refine r_eqI ?_ | with_reducible refine r_neI ?_ | with_reducible refine r_bl ?_ | with_reducible refine r_nil ?_ | with_reducible refine r_cons ?_
  | with_reducible refine r_cb ?_ | with_reducible refine r_call ?_ | with_reducible refine r_tup ?_ | with_reducible refine r_lst ?_ | with_reducible refine r_fld ?_ | with_reducible refine r_bm ?_ | with_reducible refine r_bm0 ?_
  | with_reducible refine r_for ?_ | with_reducible refine r_rng ?_ | with_reducible refine r_rng2 ?_ | with_reducible refine r_lstI ?_ | with_reducible refine r_tupI ?_ | with_reducible refine r_lc ?_
  | with_reducible refine r_augS ?_ | with_reducible refine r_ipI ?_
  | with_reducible refine r_meth ?_ | with_reducible refine r_prop ?_ | with_reducible refine r_make ?_ | with_reducible refine r_din ?_ | with_reducible refine r_dnin ?_ | with_reducible refine r_dput ?_ | with_reducible refine r_dget ?_
  | with_reducible refine r_gN ?_ | with_reducible refine r_tsl ?_ | with_reducible refine r_noP ?_ | with_reducible refine r_part ?_ | with_reducible refine r_pI ?_ | with_reducible refine r_tif ?_ | with_reducible refine r_SL ?_ | with_reducible refine r_gC ?_ | with_reducible refine r_U ?_ | with_reducible refine r_sfld ?_ | with_reducible refine r_dnew ?_ | with_reducible refine r_keys ?_
  | with_reducible refine r_mkE ?_ | with_reducible refine iteT ?_ | with_reducible refine iteF ?_
  | with_reducible refine r_int ?_ | with_reducible refine r_min2 ?_ | with_reducible refine r_isN ?_ | with_reducible refine r_notN ?_)
/-- as far as it goes by itself -/
local macro_rules | `(tactic| walk_at "go") => `(tactic| ((repeat walk_at "step"); (try dsimp only)))

abbrev sStepsFor : Stmt := top 20
theorem ite_no {c : Bool} {A B : Prop} (h : c = false) (q : B) : if c = true then A else B := by subst h; exact iteF q
theorem ite_yes {c : Bool} {A B : Prop} (h : c = true) (q : A) : if c = true then A else B := by subst h; exact iteT q
theorem iteB {c : Bool} {A B : Prop} (h1 : c = true → A) (h2 : c = false → B) : if c = true then A else B := by
  cases c with
  | true => exact iteT (h1 rfl)
  | false => exact iteF (h2 rfl)
/-- 1 up to n -/
def okSeen (n : Nat) : V → Bool
  | .int i => decide (1 ≤ i ∧ i ≤ n)
  | _ => false
/-- steps_for -/
def spFor (K : PySem.W.Frag) (CB : Addr) : Sp := fun vs H Q E => ∃ (v u : V) (tv tu : String), vs = [v, u] ∧ Sm K H v tv ∧ Sm K H u tu ∧
  ((okSize v = false ∧ rsd CB "word" (.str "size") H E) ∨ (∃ n : Nat, v = .int (n : Int) ∧ 1 ≤ n ∧ n ≤ 6 ∧
    ((okSeen n u = false ∧ rsd CB "word" (.str "seen") H E) ∨ ∃ m : Nat, u = .int (m : Int) ∧ 1 ≤ m ∧ m ≤ n ∧ ∀ H', Same H H' → Q (.int (((n + 1 - m) * (n + 1) : Nat) : Int)) H')))
section
variable {P : Program} {w : World} {K : PySem.W.Frag} {mg : Str → Option Value} {base : Heap} {CN CB CL : Addr}
theorem scFor : FnScope ["size", "seen"] ["size", "seen"] (defScope sStepsFor) := ⟨rfl, rfl, rfl, by decide +kernel, rfl, by decide +kernel, by decide +kernel⟩
theorem ok_for {f : Addr} {fd : FuncData} (F : Fun K "steps_for" "steps_for" sStepsFor f fd) (T : Errs P w K mg CN CB) (D_checksize : Fok P w K mg base 3 "check_level_size" ["size"] (spCheckSize K CB)) (D_isint : Fok P w K mg base 1 "is_integer" ["thing"] (spThing K fun v _ => isI v)) :
    FnOk P w K mg base (L2.CX P w) 4 f fd ["size", "seen"] (spFor K CB) := by
  refine F.okX scFor (fun vs H Q E h => ?_) (fun cdv A outer s H vs Q E hr h => ?_)
  · obtain ⟨v, u, tv, tu, rfl, _⟩ := h
    rfl
  obtain ⟨v, u, tv, tu, rfl, hv, hu9, h⟩ := h
  obtain ⟨fI, TB, RB⟩ := T.nb
  refine ⟨_, (pss_cons (ps_expr (pe_fX D_checksize (hr.mono (by decide)) (takes_of rfl rfl rfl rfl) (pa_cons (pv 0) pa_nil)))
      (pss_cons (ps_if (PW.pt (pw_or (pt_not (pt_val (pe_f D_isint (hr.mono (by decide)) (pa_cons (pv 1) pa_nil)))) (pw_or (pt_cmpR op_lt (pv 1) pe_int (nomark _)) (pw_or1 (pt_cmpR op_gt (pv 1) (pv 0) (nomark _)))))) (pss_one (ps_raise rfl (takes_of rfl rfl rfl rfl) (pmk_er (k := 0) (okV := fun v => ∃ x : Str, v = .str x ∧ x.length ≤ 1000) TB RB (fun v u r hv => by obtain ⟨x, rfl, hl⟩ := hv; obtain ⟨t, rfl⟩ := r; exact ⟨x, t, rfl, hl⟩) (hr.mono (by decide)) (by rfl) T.gB (pa_cons pe_str pa_nil)))) pss_nil)
      (pss_one (ps_ret (pe_op op_mul (pe_op op_sub (pe_op op_add (pv 0) pe_int) (pv 1)) (pe_op op_add (pv 0) pe_int)))))), ?_⟩
  walk_at "go"
  refine ⟨v, tv, rfl, hv, fun ho H1 s1 => ?_, fun h0 => ?_⟩
  · rcases h with ⟨h, _⟩ | ⟨n, rfl, n1, n6, h⟩
    · rw [h] at ho
      cases ho
    walk_at "go"
    refine ⟨u, tu, rfl, sm_ext s1 hu9, fun H2 s2 => ?_⟩
    have s12 := s1.trans s2
    walk_at "go"
    rcases h with ⟨hb, hr9⟩ | ⟨m, rfl, m1, mn, k⟩
    · have bad : mkK CB "word" (fun v => ∃ x : Str, v = .str x ∧ x.length ≤ 1000) [.str "seen"] H2 E := r_mkK ⟨_, rfl, by decide⟩ fun d hd => rsd_new hr9 s12 hd
      cases hu9 with
      | non | str | lst | tup | bl =>
        refine iteT ?_
        walk_at "go"
        exact bad
      | int i =>
        refine ite_no rfl ?_
        walk_at "go"
        refine ite2 (fun h1 => ?_) fun h1 => ?_
        · walk_at "go"
          exact bad
        · have h1 : ¬ i < 1 := fun z => h1 (decide_eq_true z)
          walk_at "go"
          refine ite2 (fun h2 => ?_) fun h2 => ?_
          · walk_at "go"
            exact bad
          · have h2 : ¬ (n : Int) < i := fun z => h2 (decide_eq_true z)
            have : okSeen n (.int i) = true := decide_eq_true (by omega)
            rw [this] at hb
            cases hb
    · refine ite_no rfl ?_
      walk_at "go"
      refine ite2 (fun h1 => ?_) fun h1 => ?_
      · have h1 := of_decide_eq_true h1
        omega
      walk_at "go"
      refine ite2 (fun h2 => ?_) fun h2 => ?_
      · have h2 := of_decide_eq_true h2
        omega
      walk_at "go"
      refine r_I (.inl ⟨by omega, by omega⟩) ?_
      have e : (((n : Int) + 1 - (m : Int)) * ((n : Int) + 1)) = (((n + 1 - m) * (n + 1) : Nat) : Int) := by
        rw [Int.natCast_mul]
        congr 1
        omega
      rw [e]
      exact k H2 s12
  · rcases h with ⟨_, h⟩ | ⟨n, rfl, n1, n6, h⟩
    · exact h
    · have : decide (1 ≤ (n : Int) ∧ (n : Int) ≤ 6) = true := decide_eq_true (by omega)
      rw [show okSize (.int (n : Int)) = decide (1 ≤ (n : Int) ∧ (n : Int) ≤ 6) from rfl, this] at h0
      cases h0
end
end K8
namespace K8
open PySem L2 Er K7M
/-- one step of a plain reading -/
local macro_rules | `(tactic| walk_at "step") => `(tactic| first
  | with_reducible refine r_seq ?_ | with_reducible refine r_nx ?_ | with_reducible refine r_asgN ?_ | with_reducible refine r_asgS ?_ | with_reducible refine r_asgT ?_ | with_reducible refine r_ifS ?_
  | with_reducible refine r_ret ?_ | with_reducible refine r_retN ?_ | with_reducible refine r_drop ?_ | with_reducible refine r_test ?_ | with_reducible refine r_B ?_ | with_reducible refine r_not ?_
  | with_reducible refine r_and ?_ | with_reducible refine r_or ?_ | with_reducible refine r_andV ?_ | with_reducible refine r_orV ?_ | with_reducible refine r_notV ?_
  | ((with_reducible refine' r_var ?e ?_); (case e => exact rfl)) | with_reducible refine r_c ?_ | with_reducible refine r_op ?_ | with_reducible refine r_un ?_
  | with_reducible refine r_I0 ?_ | with_reducible refine r_eqI ?_ | with_reducible refine r_neI ?_ | with_reducible refine r_bl ?_ | with_reducible refine r_nil ?_ | with_reducible refine r_cons ?_
  | with_reducible refine r_cb ?_ | with_reducible refine r_call ?_ | with_reducible refine r_tup ?_ | with_reducible refine r_lst ?_ | with_reducible refine r_fld ?_ | with_reducible refine r_bm ?_ | with_reducible refine r_bm0 ?_
  | with_reducible refine r_for ?_ | with_reducible refine r_rng ?_ | with_reducible refine r_rng2 ?_ | with_reducible refine r_lstI ?_ | with_reducible refine r_tupI ?_ | with_reducible refine r_lc ?_
  | with_reducible refine r_augS ?_ | with_reducible refine r_ipI ?_
  | with_reducible refine r_meth ?_ | with_reducible refine r_prop ?_ | with_reducible refine r_make ?_ | with_reducible refine r_din ?_ | with_reducible refine r_dnin ?_ | with_reducible refine r_dput ?_ | with_reducible refine r_dget ?_
  | with_reducible refine r_gN ?_ | with_reducible refine r_tsl ?_ | with_reducible refine r_noP ?_ | with_reducible refine r_part ?_ | with_reducible refine r_pI ?_ | with_reducible refine r_tif ?_ | with_reducible refine r_SL ?_ | with_reducible refine r_gC ?_ | with_reducible refine r_U ?_ | with_reducible refine r_sfld ?_ | with_reducible refine r_dnew ?_ | with_reducible refine r_keys ?_
  | with_reducible refine r_mkE ?_ | with_reducible refine iteT ?_ | with_reducible refine iteF ?_
  | with_reducible refine r_int ?_ | with_reducible refine r_min2 ?_ | with_reducible refine r_isN ?_ | with_reducible refine r_notN ?_)
/-- as far as it goes by itself -/
local macro_rules | `(tactic| walk_at "go") => `(tactic| ((repeat walk_at "step"); (try dsimp only)))

abbrev sCheckBlocks : Stmt := top 11
structure ErrR (P : Program) (w : World) (K : PySem.W.Frag) (mg : Str → Option Value) (CR : Addr) : Prop where
  nr : ∃ fI, XC K CR fI "place" ∧ InitRun P w K mg CR fI "place" (fun _ => True)
  gR : mg "BadRound" = some (.ref CR)
def SqA (K : PySem.W.Frag) (H : Hp) (a : Addr) (xs : List V) : Prop := SqL K H a xs ∨ SqT K H a xs
theorem SqA.keep {K : PySem.W.Frag} {H H' : Hp} {a : Addr} {xs : List V} (h : SqA K H a xs) (s : Same H H') : SqA K H' a xs := h.elim (fun h => .inl (s.seq h)) fun h => .inr (same_tup s h)
theorem SqA.sm {K : PySem.W.Frag} {H : Hp} {a : Addr} {xs : List V} (h : SqA K H a xs) : ∃ tn, Sm K H (.ref a) tn ∧ (tn == "list" || tn == "tuple") = true := h.elim (fun h => ⟨_, .lst h, by decide +kernel⟩) fun h => ⟨_, .tup h, by decide +kernel⟩
theorem r_lenA {K : PySem.W.Frag} {H : Hp} {Q : VK} {a : Addr} {xs : List V} (h : SqA K H a xs) (q : Q (.int xs.length) H) : Er.rLen K [.ref a] H Q := h.elim (fun h => r_lenL h q) fun h => r_lenT h q
/-- a row of names -/
def RowAt (K : PySem.W.Frag) (H : Hp) (x : V) (l : List Nat) : Prop := ∃ r, x = .ref r ∧ SqA K H r (nV l)
/-- what is no further block behind the names D -/
def RowBad (K : PySem.W.Frag) (H : Hp) (D : List Nat) (x : V) : Prop := (∃ tn, Sm K H x tn ∧ (tn == "list" || tn == "tuple") = false) ∨ (∃ r, x = .ref r ∧ SqA K H r []) ∨
  ∃ (r : Addr) (l : List Nat) (v : V) (tn : String) (rest : List V), x = .ref r ∧ SqA K H r (nV l ++ v :: rest) ∧ (D ++ l).Nodup ∧ l.length ≤ 1000 ∧ Sm K H v tn ∧ (isN v = false ∨ ∃ c : Nat, v = .int (c : Int) ∧ c ∈ D ++ l)
def spChk (K : PySem.W.Frag) (CR : Addr) : Sp := fun vs H Q E => ∃ bv, vs = [bv] ∧
  ((((∃ tn, Sm K H bv tn ∧ (tn == "list" || tn == "tuple") = false) ∨ ∃ a, bv = .ref a ∧ SqA K H a []) ∧ rsd CR "place" (.int (-1)) H E) ∨
   ∃ (a : Addr) (xs : List V) (bs : List (List Nat)) (bad : List V), bv = .ref a ∧ SqL K H a (xs ++ bad) ∧ 0 < (xs ++ bad).length ∧ xs.length = bs.length ∧ (∀ (i : Nat) (x : V) (b : List Nat), xs[i]? = some x → bs[i]? = some b → RowAt K H x b ∧ b ≠ []) ∧ bs.flatten.Nodup ∧ (bs.flatten).length ≤ 1000 ∧
     (bad = [] → ∀ H', Same H H' → Q .non H') ∧ ∀ x rest, bad = x :: rest → RowBad K H bs.flatten x ∧ rsd CR "place" (.int (xs.length : Int)) H E)
/-- the dict of names seen -/
abbrev kvT (g : List Nat) : List (Key × V) := g.map fun (j : Nat) => ((Sum.inl (j : Int) : Key), V.bl true)
theorem kvT_val (c : Nat) : ∀ g : List Nat, (valV (kvT g) (Sum.inl (c : Int))).isSome = decide (c ∈ g)
  | [] => by simp [valV]
  | d :: g => by
    have ih := kvT_val c g
    unfold valV kvT at ih ⊢
    rw [List.map_cons, List.find?_cons]
    by_cases e : d = c
    · subst e
      simp
    · have h1 : decide ((Sum.inl (d : Int) : Key) = Sum.inl (c : Int)) = false := decide_eq_false fun z => e (by have := Sum.inl.inj z; omega)
      dsimp only
      rw [h1]
      have h2 : decide (c ∈ d :: g) = decide (c ∈ g) := decide_eq_decide.mpr ⟨fun z => (List.mem_cons.mp z).resolve_left (Ne.symm e), fun z => List.mem_cons_of_mem _ z⟩
      rw [h2]
      exact ih
theorem take_flat {α : Type} (bs : List (List α)) (i : Nat) : ((bs.take i).flatten).Sublist bs.flatten := by
  have e : bs.flatten = (bs.take i).flatten ++ (bs.drop i).flatten := by rw [← List.flatten_append, List.take_append_drop]
  rw [e]
  exact List.sublist_append_left _ _
theorem kvT_snoc (g : List Nat) (c : Nat) : kvT (g ++ [c]) = kvT g ++ [((Sum.inl (c : Int) : Key), V.bl true)] := by
  unfold kvT
  rw [List.map_append]
  rfl
theorem r_enum {K : PySem.W.Frag} {ta : TA} {σ : L2.St} {H : Hp} {R : It → Hp → Prop} (h : ta σ H fun vs H1 => ∃ a xs, vs = [V.ref a] ∧ SqL K H1 a xs ∧ R (Ite K a) H1) : iEnum K ta σ H R := h
theorem r_forE {K : PySem.W.Frag} {t : TS} {D : Ends} {σ : L2.St} {H : Hp} {a : Addr} {xs : List V} {g : TG} (Pv : Nat → L2.St → Hp → Prop) (h0 : Pv 0 σ H) (hl : ∀ i σ H, i ≤ xs.length → Pv i σ H → SqL K H a xs)
    (hs : ∀ i x T σ' H', xs[i]? = some x → Pv i σ' H' → H' T = none → g (.ref T) σ' (upd H' T (.tup [.int (i : Int), x])) fun σ2 H2 => t { D with nx := Pv (i + 1), ct := Pv (i + 1), bk := D.nx } σ2 H2) (hd : ∀ σ' H', Pv xs.length σ' H' → D.nx σ' H') : forK g t D σ (Ite K a) H :=
  for_it walk_enum Pv h0 hl (fun i y σ' H' H2 hi p z => by
    obtain ⟨T, x, z', rfl, hT, rfl, e1, e2⟩ := z
    cases e1
    exact hs i z' T σ' H' e2 p hT) hd
theorem r_forA {K : PySem.W.Frag} {t : TS} {D : Ends} {σ : L2.St} {H0 H : Hp} {a : Addr} {xs : List V} {g : TG} (h : SqA K H0 a xs) (s : Same H0 H) (Pv : Nat → L2.St → Hp → Prop) (hp : Pv 0 σ H) (hl : ∀ i σ H, i ≤ xs.length → Pv i σ H → Same H0 H)
    (hs : ∀ i x σ' H', xs[i]? = some x → Pv i σ' H' → g x σ' H' fun σ2 H2 => t { D with nx := Pv (i + 1), ct := Pv (i + 1), bk := D.nx } σ2 H2) (hd : ∀ σ' H', Pv xs.length σ' H' → D.nx σ' H') : seqK K (.ref a) H (forK g t D σ) :=
  h.elim (fun h => r_seqL (s.seq h) (r_forL Pv hp (fun i σ H' hi p => (hl i σ H' hi p).seq h) hs hd)) fun h => r_seqT (same_tup s h) (r_forT Pv hp (fun i σ H' hi p => same_tup (hl i σ H' hi p) h) hs hd)
section
variable {P : Program} {w : World} {K : PySem.W.Frag} {mg : Str → Option Value} {base : Heap} {CN CB CL CR : Addr}
theorem scChk : FnScope ["blocks", "earlier", "place", "block", "name"] ["blocks"] (defScope sCheckBlocks) := ⟨rfl, rfl, rfl, by decide +kernel, rfl, by decide +kernel, by decide +kernel⟩
theorem ok_chk {f : Addr} {fd : FuncData} (F : Fun K "check_blocks" "check_blocks" sCheckBlocks f fd) (T : ErrR P w K mg CR) (m_len : mg "len" = none) (m_enumerate : mg "enumerate" = none) (D_isrow : Fok P w K mg base 1 "is_row" ["thing"] (spThing K fun _ n => n == "list" || n == "tuple"))
    (D_isnat : Fok P w K mg base 2 "is_natural" ["thing"] (spThing K fun v _ => isN v)) : FnOk P w K mg base (L2.CX P w) 3 f fd ["blocks"] (spChk K CR) := by
  refine F.okX scChk (fun vs H Q E h => ?_) (fun cdv A outer s H vs Q E hr h => ?_)
  · obtain ⟨bv, rfl, _⟩ := h
    rfl
  obtain ⟨bv, rfl, h⟩ := h
  obtain ⟨fI, TR, RR⟩ := T.nr
  have sc := scChk
  have hu := hu_of hr
  refine ⟨_, (pss_cons (ps_if (PW.pt (pw_or (pt_not (pt_val (pe_f D_isrow (hr.mono (by decide)) (pa_cons (pv 0) pa_nil)))) (pw_or1 (pt_cmpR op_eq (pe_callB c_len (by rfl) m_len PySem.boot_len (pa_cons (pv 0) pa_nil)) pe_int (nomark _))))) (pss_one (ps_raise rfl (takes_of rfl rfl rfl rfl) (pmk_er (k := 0) (okV := fun _ => True) TR RR (fun _ _ _ _ => trivial) (hr.mono (by decide)) (by rfl) T.gR (pa_cons (pe_un un_neg pe_int) pa_nil)))) pss_nil)
      (pss_cons (ps_set (i := 1) sc.nd rfl (Or.inl rfl) pe_dnewK)
      (pss_one (ps_for (passes_of rfl) rfl (pi_enum (by rfl) m_enumerate (pa_cons (pv 0) pa_nil)) (pg_tup (by rfl) (pgs_cons (pg_name (i := 2) sc.nd rfl (Or.inl rfl)) (pgs_cons (pg_name (i := 3) sc.nd rfl (Or.inl rfl)) pgs_nil))) (pss_cons (ps_if (PW.pt (pw_or (pt_not (pt_val (pe_f D_isrow (hr.mono (by decide)) (pa_cons (pv 3) pa_nil)))) (pw_or1 (pt_cmpR op_eq (pe_callB c_len (by rfl) m_len PySem.boot_len (pa_cons (pv 3) pa_nil)) pe_int (nomark _))))) (pss_one (ps_raise rfl (takes_of rfl rfl rfl rfl) (pmk_er (k := 0) (okV := fun _ => True) TR RR (fun _ _ _ _ => trivial) (hr.mono (by decide)) (by rfl) T.gR (pa_cons (pv 2) pa_nil)))) pss_nil)
      (pss_one (ps_for (passes_of rfl) rfl (pi_seq (pv 3)) (pg_name (i := 4) sc.nd rfl (Or.inl rfl)) (pss_cons (ps_if (PW.pt (pw_or (pt_not (pt_val (pe_f D_isnat (hr.mono (by decide)) (pa_cons (pv 4) pa_nil)))) (pw_or1 (pt_cmp (pc_din hu (pv 4) (pv 1)))))) (pss_one (ps_raise rfl (takes_of rfl rfl rfl rfl) (pmk_er (k := 0) (okV := fun _ => True) TR RR (fun _ _ _ _ => trivial) (hr.mono (by decide)) (by rfl) T.gR (pa_cons (pv 2) pa_nil)))) pss_nil)
      (pss_one (ps_dput hu (pv 1) (pv 4) pe_bl rfl)))))))))), ?_⟩
  walk_at "go"
  rcases h with ⟨⟨tn, hS, hno⟩ | ⟨a, rfl, hq⟩, hr9⟩ | ⟨a, xs, bs, bad, rfl, hq, hpos, hlen, hrow, hnd, h1000, kg, kb⟩
  · refine ⟨bv, tn, rfl, hS, fun H1 s1 => ?_⟩
    walk_at "go"
    rw [hno]
    refine iteT ?_
    walk_at "go"
    exact r_mkK (okV := fun _ => True) trivial fun d hd => rsd_new hr9 s1 hd
  · obtain ⟨tn, hS, hyes⟩ := hq.sm
    refine ⟨.ref a, tn, rfl, hS, fun H1 s1 => ?_⟩
    walk_at "go"
    rw [hyes]
    refine iteF ?_
    walk_at "go"
    refine r_lenA (hq.keep s1) ?_
    walk_at "go"
    refine ite_yes (by decide) ?_
    walk_at "go"
    exact r_mkK (okV := fun _ => True) trivial fun d hd => rsd_new hr9 s1 hd
  · refine ⟨.ref a, "list", rfl, .lst hq, fun H1 s1 => ?_⟩
    walk_at "go"
    rw [show (("list" == "list" || "list" == "tuple") : Bool) = true from by decide +kernel]
    refine iteF ?_
    walk_at "go"
    refine r_lenL (s1.seq hq) ?_
    walk_at "go"
    refine ite_no (decide_eq_false (by omega)) ?_
    walk_at "go"
    intro d hd
    have hd0 : H d = none := none_of_same s1 hd
    have s2 := s1.trans (same_new (o := .dK []) hd)
    have hd2 : (upd H1 d (.dK [])) d = some (.dK (kvT [])) := upd_same
    generalize upd H1 d (.dK []) = H2 at s2 hd2 ⊢
    walk_at "go"
    refine r_enum ?_
    walk_at "go"
    refine ⟨a, xs ++ bad, rfl, s2.seq hq, ?_⟩
    refine r_forE (fun i σ H' => ∃ v2 v3 v4, σ = [some (.ref a), some (.ref d), v2, v3, v4] ∧ Same H H' ∧ H' d = some (.dK (kvT ((bs.take i).flatten))) ∧ i ≤ xs.length) ⟨none, none, none, rfl, s2, hd2, Nat.zero_le _⟩ (fun i σ H' hi p => p.choose_spec.choose_spec.choose_spec.2.1.seq hq) ?_ ?_
    · rintro i x T9 σ H3 hx ⟨v2, v3, v4, rfl, s3, hd3, hi⟩ hT9
      have s4 := s3.trans (same_new (o := .tup [.int (i : Int), x]) hT9)
      have hd4 : (upd H3 T9 (.tup [.int (i : Int), x])) d = some (.dK (kvT ((bs.take i).flatten))) := (same_new hT9) _ _ hd3
      refine r_gT (SqT.of upd_same) rfl ?_
      generalize upd H3 T9 _ = H4 at s4 hd4 ⊢
      walk_at "go"
      refine ⟨rfl, ?_⟩
      walk_at "go"
      rcases Nat.lt_or_ge i xs.length with hlt | hge
      · rw [List.getElem?_append_left hlt] at hx
        have hib : i < bs.length := by rw [← hlen]; exact hlt
        obtain ⟨b, hbi⟩ : ∃ b, bs[i]? = some b := ⟨bs[i], List.getElem?_eq_getElem hib⟩
        obtain ⟨⟨r, rfl, hr0⟩, hne⟩ := hrow i x b hx hbi
        have hr4 := hr0.keep s4
        obtain ⟨tn, hS, hyes⟩ := hr4.sm
        refine ⟨.ref r, tn, rfl, hS, fun H5 s5 => ?_⟩
        walk_at "go"
        rw [hyes]
        refine iteF ?_
        walk_at "go"
        have hr5 := hr4.keep s5
        refine r_lenA hr5 ?_
        rw [nV_len]
        walk_at "go"
        refine ite_no (decide_eq_false (by have := List.length_pos_iff.mpr hne; omega)) ?_
        walk_at "go"
        refine r_seqI ?_
        walk_at "go"
        have s5' := s4.trans s5
        have etk : (bs.take (i + 1)).flatten = (bs.take i).flatten ++ b := by
          rw [List.take_add_one, hbi, List.flatten_append]
          simp
        have hsub : (bs.take i).flatten.length + b.length ≤ 1000 := by
          have h1 : ((bs.take (i + 1)).flatten).length ≤ bs.flatten.length := (take_flat bs (i + 1)).length_le
          rw [etk, List.length_append] at h1
          omega
        have hnd1 : ((bs.take i).flatten ++ b).Nodup := by
          rw [← etk]
          exact (take_flat bs (i + 1)).nodup hnd
        refine r_forA hr0 s5' (fun m σ H' => ∃ v4, σ = [some (.ref a), some (.ref d), some (.int (i : Int)), some (.ref r), v4] ∧ Same H H' ∧ H' d = some (.dK (kvT ((bs.take i).flatten ++ b.take m)))) ⟨v4, rfl, s5', by rw [List.take_zero, List.append_nil]; exact s5 _ _ hd4⟩ (fun m σ H' hm p => p.choose_spec.2.1) ?_ ?_
        · rintro m y σ H6 hy ⟨v4, rfl, s6, hd6⟩
          obtain ⟨c, hc, rfl⟩ : ∃ c, b[m]? = some c ∧ y = .int (c : Int) := by
            unfold nV at hy
            rw [List.getElem?_map] at hy
            cases e : b[m]? with
            | none => rw [e] at hy; cases hy
            | some c => rw [e] at hy; exact ⟨c, rfl, (Option.some.inj hy).symm⟩
          have hcn : c ∉ (bs.take i).flatten ++ b.take m := fun z => by
            have e : (bs.take i).flatten ++ b = ((bs.take i).flatten ++ b.take m) ++ b.drop m := by rw [List.append_assoc, List.take_append_drop]
            rw [e] at hnd1
            refine (List.nodup_append.mp hnd1).2.2 c z c ?_ rfl
            refine List.mem_of_getElem? (i := 0) ?_
            rw [List.getElem?_drop]
            exact hc
          walk_at "go"
          refine ⟨.int (c : Int), "int", rfl, .int _, fun H7 s7 => ?_⟩
          walk_at "go"
          have e : (!isN (.int (c : Int))) = false := by
            show (!decide ((0 : Int) ≤ (c : Int))) = false
            rw [decide_eq_true (by omega)]
            rfl
          refine ite_no e ?_
          walk_at "go"
          refine r_dinK (.inl (s7 _ _ hd6)) ?_
          walk_at "go"
          refine ite_no (by rw [kvT_val]; exact decide_eq_false hcn) ?_
          walk_at "go"
          have hval : valV (kvT ((bs.take i).flatten ++ b.take m)) (Sum.inl (c : Int)) = none := by
            have := kvT_val c ((bs.take i).flatten ++ b.take m)
            rw [decide_eq_false hcn] at this
            cases e2 : valV (kvT ((bs.take i).flatten ++ b.take m)) (Sum.inl (c : Int)) with
            | none => rfl
            | some v => rw [e2] at this; cases this
          refine r_dputK (s7 _ _ hd6) (Nat.lt_of_le_of_lt (m := 1000) (by
            rw [List.length_map, List.length_append, List.length_take]
            omega) (by decide)) ?_
          rw [putK_new _ hval]
          refine ⟨_, rfl, fun z o q => ?_, ?_⟩
          · rw [upd_ne (ne_of_none q hd0)]
            exact s7 _ _ (s6 _ _ q)
          · have et2 : b.take (m + 1) = b.take m ++ [c] := by rw [List.take_add_one, hc]; rfl
            rw [upd_same, et2, ← List.append_assoc, kvT_snoc]
        · rintro σ H6 ⟨v4, rfl, s6, hd6⟩
          rw [nV_len, List.take_length] at hd6
          exact ⟨_, _, _, rfl, s6, by rw [etk]; exact hd6, hlt⟩
      · have ei : i = xs.length := by omega
        subst ei
        obtain ⟨rest, ebad⟩ : ∃ rest, bad = x :: rest := by
          rw [List.getElem?_append_right (Nat.le_refl _), Nat.sub_self] at hx
          cases bad with
          | nil => cases hx
          | cons y rest => cases hx; exact ⟨rest, rfl⟩
        obtain ⟨hbad, hr9⟩ := kb x rest ebad
        rw [hlen, List.take_length] at hd4
        have fin : ∀ {H5}, Same H H5 → mkK CR "place" (fun _ => True) [.int (xs.length : Int)] H5 E := fun s5 => r_mkK (okV := fun _ => True) trivial fun d hd => rsd_new hr9 s5 hd
        rcases hbad with ⟨tn, hS, hno⟩ | ⟨r, rfl, hr0⟩ | ⟨r, l, v, tn, rest2, rfl, hr0, hnd2, hl1000, hv, hvb⟩
        · refine ⟨x, tn, rfl, sm_ext s4 hS, fun H5 s5 => ?_⟩
          walk_at "go"
          rw [hno]
          refine iteT ?_
          walk_at "go"
          exact fin (s4.trans s5)
        · obtain ⟨tn, hS, hyes⟩ := (hr0.keep s4).sm
          refine ⟨.ref r, tn, rfl, hS, fun H5 s5 => ?_⟩
          walk_at "go"
          rw [hyes]
          refine iteF ?_
          walk_at "go"
          refine r_lenA (hr0.keep (s4.trans s5)) ?_
          walk_at "go"
          refine ite_yes (by decide) ?_
          walk_at "go"
          exact fin (s4.trans s5)
        · obtain ⟨tn2, hS, hyes⟩ := (hr0.keep s4).sm
          refine ⟨.ref r, tn2, rfl, hS, fun H5 s5 => ?_⟩
          have s5' := s4.trans s5
          walk_at "go"
          rw [hyes]
          refine iteF ?_
          walk_at "go"
          refine r_lenA (hr0.keep s5') ?_
          rw [List.length_append, List.length_cons]
          walk_at "go"
          refine ite_no (decide_eq_false (by omega)) ?_
          walk_at "go"
          refine r_seqI ?_
          walk_at "go"
          refine r_forA hr0 s5' (fun m σ H' => ∃ v4, σ = [some (.ref a), some (.ref d), some (.int (xs.length : Int)), some (.ref r), v4] ∧ Same H H' ∧ H' d = some (.dK (kvT (bs.flatten ++ l.take m))) ∧ m ≤ l.length) ⟨v4, rfl, s5', by rw [List.take_zero, List.append_nil]; exact s5 _ _ hd4, Nat.zero_le _⟩ (fun m σ H' hm p => p.choose_spec.2.1) ?_ ?_
          · rintro m y σ H6 hy ⟨v4, rfl, s6, hd6, hm⟩
            walk_at "go"
            rcases Nat.lt_or_ge m l.length with hlt | hge2
            · rw [List.getElem?_append_left (by rw [nV_len]; exact hlt)] at hy
              obtain ⟨c, hc, rfl⟩ : ∃ c, l[m]? = some c ∧ y = .int (c : Int) := by
                unfold nV at hy
                rw [List.getElem?_map] at hy
                cases e : l[m]? with
                | none => rw [e] at hy; cases hy
                | some c => rw [e] at hy; exact ⟨c, rfl, (Option.some.inj hy).symm⟩
              have hcn : c ∉ bs.flatten ++ l.take m := fun z => by
                have e : bs.flatten ++ l = (bs.flatten ++ l.take m) ++ l.drop m := by rw [List.append_assoc, List.take_append_drop]
                rw [e] at hnd2
                refine (List.nodup_append.mp hnd2).2.2 c z c ?_ rfl
                refine List.mem_of_getElem? (i := 0) ?_
                rw [List.getElem?_drop]
                exact hc
              refine ⟨.int (c : Int), "int", rfl, .int _, fun H7 s7 => ?_⟩
              walk_at "go"
              have e : (!isN (.int (c : Int))) = false := by
                show (!decide ((0 : Int) ≤ (c : Int))) = false
                rw [decide_eq_true (by omega)]
                rfl
              refine ite_no e ?_
              walk_at "go"
              refine r_dinK (.inl (s7 _ _ hd6)) ?_
              walk_at "go"
              refine ite_no (by rw [kvT_val]; exact decide_eq_false hcn) ?_
              walk_at "go"
              have hval : valV (kvT (bs.flatten ++ l.take m)) (Sum.inl (c : Int)) = none := by
                have := kvT_val c (bs.flatten ++ l.take m)
                rw [decide_eq_false hcn] at this
                cases e2 : valV (kvT (bs.flatten ++ l.take m)) (Sum.inl (c : Int)) with
                | none => rfl
                | some v => rw [e2] at this; cases this
              refine r_dputK (s7 _ _ hd6) (Nat.lt_of_le_of_lt (m := 2000) (by
                rw [List.length_map, List.length_append, List.length_take]
                omega) (by decide)) ?_
              rw [putK_new _ hval]
              refine ⟨_, rfl, fun z o q => ?_, ?_, hlt⟩
              · rw [upd_ne (ne_of_none q hd0)]
                exact s7 _ _ (s6 _ _ q)
              · have et2 : l.take (m + 1) = l.take m ++ [c] := by rw [List.take_add_one, hc]; rfl
                rw [upd_same, et2, ← List.append_assoc, kvT_snoc]
            · have em : m = l.length := by omega
              subst em
              rw [List.getElem?_append_right (by rw [nV_len]; exact Nat.le_refl _), nV_len, Nat.sub_self] at hy
              have hy : v = y := Option.some.inj hy
              subst hy
              rw [List.take_length] at hd6
              refine ⟨v, tn, rfl, sm_ext s6 hv, fun H7 s7 => ?_⟩
              have s67 := s6.trans s7
              walk_at "go"
              rcases hvb with hvb | ⟨c, rfl, hcm⟩
              · refine ite_yes (by rw [hvb]; rfl) ?_
                walk_at "go"
                exact fin s67
              · have e : (!isN (.int (c : Int))) = false := by
                  show (!decide ((0 : Int) ≤ (c : Int))) = false
                  rw [decide_eq_true (by omega)]
                  rfl
                refine ite_no e ?_
                walk_at "go"
                refine r_dinK (.inl (s7 _ _ hd6)) ?_
                walk_at "go"
                refine ite_yes (by rw [kvT_val]; exact decide_eq_true hcm) ?_
                walk_at "go"
                exact fin s67
          · rintro σ H6 ⟨v4, rfl, s6, hd6, hm⟩
            exfalso
            rw [List.length_append, nV_len, List.length_cons] at hm
            omega
    · rintro σ H3 ⟨v2, v3, v4, rfl, s3, hd3, hi⟩
      have hb : bad = [] := by
        cases bad with
        | nil => rfl
        | cons x rest => rw [List.length_append, List.length_cons] at hi; omega
      exact kg hb H3 s3
end
end K8
namespace K8
open PySem L2 Er K7M
/-- one step of a plain reading -/
local macro_rules | `(tactic| walk_at "step") => `(tactic| first
  | with_reducible refine r_seq ?_ | with_reducible refine r_nx ?_ | with_reducible refine r_asgN ?_ | with_reducible refine r_asgS ?_ | with_reducible refine r_asgT ?_ | with_reducible refine r_ifS ?_
  | with_reducible refine r_ret ?_ | with_reducible refine r_retN ?_ | with_reducible refine r_drop ?_ | with_reducible refine r_test ?_ | with_reducible refine r_B ?_ | with_reducible refine r_not ?_
  | with_reducible refine r_and ?_ | with_reducible refine r_or ?_ | with_reducible refine r_andV ?_ | with_reducible refine r_orV ?_ | with_reducible refine r_notV ?_
  | ((with_reducible refine' r_var ?e ?_); (case e => exact rfl)) | with_reducible refine r_c ?_ | with_reducible refine r_op ?_ | with_reducible refine r_un ?_
  | with_reducible refine r_I0 ?_ | with_reducible refine r_eqI ?_ | with_reducible refine r_neI ?_ | with_reducible refine r_bl ?_ | with_reducible refine r_nil ?_ | with_reducible refine r_cons ?_
  | with_reducible refine r_cb ?_ | with_reducible refine r_call ?_ | with_reducible refine r_tup ?_ | with_reducible refine r_lst ?_ | with_reducible refine r_fld ?_ | with_reducible refine r_bm ?_ | with_reducible refine r_bm0 ?_
  | with_reducible refine r_for ?_ | with_reducible refine r_rng ?_ | with_reducible refine r_rng2 ?_ | with_reducible refine r_lstI ?_ | with_reducible refine r_tupI ?_ | with_reducible refine r_lc ?_
  | with_reducible refine r_augS ?_ | with_reducible refine r_ipI ?_
  | with_reducible refine r_meth ?_ | with_reducible refine r_prop ?_ | with_reducible refine r_make ?_ | with_reducible refine r_din ?_ | with_reducible refine r_dnin ?_ | with_reducible refine r_dput ?_ | with_reducible refine r_dget ?_
  | with_reducible refine r_gN ?_ | with_reducible refine r_tsl ?_ | with_reducible refine r_noP ?_ | with_reducible refine r_part ?_ | with_reducible refine r_pI ?_ | with_reducible refine r_tif ?_ | with_reducible refine r_SL ?_ | with_reducible refine r_gC ?_ | with_reducible refine r_U ?_ | with_reducible refine r_sfld ?_ | with_reducible refine r_dnew ?_ | with_reducible refine r_keys ?_
  | with_reducible refine r_mkE ?_ | with_reducible refine iteT ?_ | with_reducible refine iteF ?_
  | with_reducible refine r_int ?_ | with_reducible refine r_min2 ?_ | with_reducible refine r_isN ?_ | with_reducible refine r_notN ?_)
/-- as far as it goes by itself -/
local macro_rules | `(tactic| walk_at "go") => `(tactic| ((repeat walk_at "step"); (try dsimp only)))

abbrev sScheduleOf : Stmt := top 19
/-- blocks that are rows of unlike names -/
def BlkAt (K : PySem.W.Frag) (H : Hp) (xs : List V) (bs : List (List Nat)) : Prop := xs.length = bs.length ∧ (∀ (i : Nat) (x : V) (b : List Nat), xs[i]? = some x → bs[i]? = some b → RowAt K H x b ∧ b ≠ []) ∧ bs.flatten.Nodup ∧ (bs.flatten).length ≤ 1000
/-- what check_blocks refuses -/
def ChkBad (K : PySem.W.Frag) (CR : Addr) (H : Hp) (bv : V) (E : XK) : Prop :=
  (((∃ tn, Sm K H bv tn ∧ (tn == "list" || tn == "tuple") = false) ∨ ∃ a, bv = .ref a ∧ SqA K H a []) ∧ rsd CR "place" (.int (-1)) H E) ∨
  ∃ (a : Addr) (xs : List V) (bs : List (List Nat)) (x : V) (rest : List V), bv = .ref a ∧ SqL K H a (xs ++ x :: rest) ∧ BlkAt K H xs bs ∧ RowBad K H bs.flatten x ∧ rsd CR "place" (.int (xs.length : Int)) H E
theorem RowAt.keep {K : PySem.W.Frag} {H H' : Hp} {x : V} {l : List Nat} (h : RowAt K H x l) (s : Same H H') : RowAt K H' x l := by
  obtain ⟨r, e, q⟩ := h
  exact ⟨r, e, q.keep s⟩
theorem BlkAt.keep {K : PySem.W.Frag} {H H' : Hp} {xs : List V} {bs : List (List Nat)} (h : BlkAt K H xs bs) (s : Same H H') : BlkAt K H' xs bs := ⟨h.1, fun i x b h1 h2 => ⟨(h.2.1 i x b h1 h2).1.keep s, (h.2.1 i x b h1 h2).2⟩, h.2.2⟩
theorem RowBad.keep {K : PySem.W.Frag} {H H' : Hp} {D : List Nat} {x : V} (h : RowBad K H D x) (s : Same H H') : RowBad K H' D x := by
  rcases h with ⟨tn, h1, h2⟩ | ⟨r, e, q⟩ | ⟨r, l, v, tn, rest, e, q, h1, h2, h3, h4⟩
  · exact .inl ⟨tn, sm_ext s h1, h2⟩
  · exact .inr (.inl ⟨r, e, q.keep s⟩)
  · exact .inr (.inr ⟨r, l, v, tn, rest, e, q.keep s, h1, h2, sm_ext s h3, h4⟩)
theorem chk_bad {K : PySem.W.Frag} {CR : Addr} {H H1 : Hp} {bv : V} {E : XK} {Q : VK} (s : Same H H1) (h : ChkBad K CR H bv E) : spChk K CR [bv] H1 Q E := by
  rcases h with ⟨h, r⟩ | ⟨a, xs, bs, x, rest, rfl, hq, hb, hbad, r⟩
  · refine ⟨bv, rfl, .inl ⟨?_, rsd_keep s r⟩⟩
    rcases h with ⟨tn, h1, h2⟩ | ⟨a, e, q⟩
    · exact .inl ⟨tn, sm_ext s h1, h2⟩
    · exact .inr ⟨a, e, q.keep s⟩
  · have hb := hb.keep s
    exact ⟨.ref a, rfl, .inr ⟨a, xs, bs, x :: rest, rfl, s.seq hq, by rw [List.length_append, List.length_cons]; omega, hb.1, hb.2.1, hb.2.2.1, hb.2.2.2, fun e => (by cases e), fun y r2 e => (by cases e; exact ⟨hbad.keep s, rsd_keep s r⟩)⟩⟩
theorem chk_ok {K : PySem.W.Frag} {CR : Addr} {H H1 : Hp} {a : Addr} {xs : List V} {bs : List (List Nat)} {E : XK} {Q : VK} (s : Same H H1) (hq : SqL K H a xs) (hp : 0 < xs.length) (hb : BlkAt K H xs bs) (k : ∀ H', Same H1 H' → Q .non H') : spChk K CR [.ref a] H1 Q E := by
  have hb := hb.keep s
  exact ⟨.ref a, rfl, .inr ⟨a, xs, bs, [], rfl, by rw [List.append_nil]; exact s.seq hq, by rw [List.append_nil]; exact hp, hb.1, hb.2.1, hb.2.2.1, hb.2.2.2, fun _ => k, fun y r2 e => by cases e⟩⟩
/-- schedule_of -/
def spOf (K : PySem.W.Frag) (CN CB CR : Addr) : Sp := fun vs H Q E => ∃ (v bv : V), vs = [v, bv] ∧
  ((∃ tn, Sm K H v tn ∧ okSize v = false ∧ rsd CB "word" (.str "size") H E) ∨
   ∃ n : Nat, v = .int (n : Int) ∧ 1 ≤ n ∧ n ≤ 6 ∧ (ChkBad K CR H bv E ∨
     ∃ (a : Addr) (xs : List V) (bs : List (List Nat)), bv = .ref a ∧ SqL K H a xs ∧ 0 < xs.length ∧ BlkAt K H xs bs ∧
       ((∃ (i : Nat) (b pre : List Nat) (c : Nat) (rest : List Nat), bs[i]? = some b ∧ (∀ b' ∈ bs.take i, ∀ d ∈ b', d < n) ∧ b = pre ++ c :: rest ∧ (∀ d ∈ pre, d < n) ∧ n ≤ c ∧ rsd CN "name" (.int (c : Int)) H E) ∨
        ((∀ b ∈ bs, ∀ c ∈ b, c < n) ∧ ∀ t H', Same H H' → H' t = some (.tup (nV (told n 0 bs))) → Q (.ref t) H'))))
theorem told_snoc (n : Nat) : ∀ (bs : List (List Nat)) (s0 : Nat) (b : List Nat), told n s0 (bs ++ [b]) = told n s0 bs ++ (List.replicate (n + 1 - (s0 + bs.flatten.length + b.length)) (turnOf n b)).flatten
  | [], s0, b => by simp [told]
  | d :: bs, s0, b => by
    show _ ++ told n (s0 + d.length) (bs ++ [b]) = (_ ++ told n (s0 + d.length) bs) ++ _
    rw [told_snoc n bs (s0 + d.length) b, List.append_assoc, List.flatten_cons, List.length_append, Nat.add_assoc s0]
theorem nV_flat (n : Nat) : ∀ b : List Nat, (nV b).flatMap (fun x => List.replicate n x) = nV (b.flatMap fun c => List.replicate n c)
  | [] => rfl
  | c :: b => by
    have ih := nV_flat n b
    have e : nV (c :: b) = V.int (c : Int) :: nV b := rfl
    have e2 : nV (List.replicate n c) = List.replicate n (V.int (c : Int)) := by unfold nV; rw [List.map_replicate]
    rw [e, List.flatMap_cons, ih, List.flatMap_cons, nV_append, e2]
theorem small_flat {n : Nat} {l : List Nat} (nd : l.Nodup) (h : ∀ c ∈ l, c < n) : l.length ≤ n := by
  have := sub_len (l := l) (m := List.range n) nd fun c hc => List.mem_range.mpr (h c hc)
  rwa [List.length_range] at this
theorem len_flat : ∀ (bs : List (List Nat)), (∀ b ∈ bs, b ≠ []) → bs.length ≤ bs.flatten.length
  | [], _ => Nat.le_refl _
  | b :: bs, h => by
    have ih := len_flat bs fun x hx => h x (List.mem_cons_of_mem _ hx)
    have := List.length_pos_iff.mpr (h b (List.mem_cons_self ..))
    rw [List.flatten_cons, List.length_append, List.length_cons]
    omega
theorem len_turn (n : Nat) (b : List Nat) : (turnOf n b).length = b.length + b.length * n := by
  unfold turnOf
  rw [List.length_append, List.length_flatMap]
  simp only [List.length_replicate]
  rw [List.map_const', List.sum_replicate_nat]
theorem r_lc2A {K : PySem.W.Frag} {σ : L2.St} {H : Hp} {Q : VK} {wi1 : TI} {te : TE} {vs vs1 : List Nat} {a : Addr} {xs : List V} {n j j1 : Nat} (h : SqA K H a xs) (hz : xs.length * n ≤ 100000)
    (hw : ∀ x, wipe ((wipe σ vs).set j (some x)) vs = wipe σ vs) (hw1 : ∀ x y, wipe ((wipe ((wipe σ vs).set j (some x)) vs1).set j1 (some y)) vs1 = wipe ((wipe σ vs).set j (some x)) vs1)
    (hwi : ∀ x H' R, Same H H' → R (Itr 0 n) H' → wi1 ((wipe σ vs).set j (some x)) H' R)
    (hel : ∀ x y H' (Q' : VK), Q' x H' → te ((wipe ((wipe σ vs).set j (some x)) vs1).set j1 (some y)) H' Q')
    (q : ∀ p H', H p = none → Same H H' → H' p = some (.lst (xs.flatMap fun x => List.replicate n x)) → Q (.ref p) H') : seqK K (.ref a) H (lc2K (gName j) tYes wi1 (gName j1) tYes te vs vs1 σ Q) :=
  h.elim (fun h => r_seqL h (r_lc2R walk_list (fun H' s => s.seq h) hz hw hw1 hwi hel q)) fun h => r_seqT h (r_lc2R walk_tup (fun H' s => same_tup s h) hz hw hw1 hwi hel q)
section
variable {P : Program} {w : World} {K : PySem.W.Frag} {mg : Str → Option Value} {base : Heap} {CN CB CL CR : Addr}
theorem scOf : FnScope ["size", "blocks", "block", "schedule", "seen", "reads", "_", "name", "cell"] ["size", "blocks"] (defScope sScheduleOf) := ⟨rfl, rfl, rfl, by decide +kernel, rfl, by decide +kernel, by decide +kernel⟩
theorem ok_of {f : Addr} {fd : FuncData} (F : Fun K "schedule_of" "schedule_of" sScheduleOf f fd) (m_len : mg "len" = none) (m_range : mg "range" = none) (m_list : mg "list" = none) (m_tuple : mg "tuple" = none)
    (D_checksize : Fok P w K mg base 3 "check_level_size" ["size"] (spCheckSize K CB)) (D_chblocks : Fok P w K mg base 3 "check_blocks" ["blocks"] (spChk K CR)) (D_checksched : Fok P w K mg base 3 "check_schedule" ["schedule", "size"] (spSched K CN)) :
    FnOk P w K mg base (L2.CX P w) 4 f fd ["size", "blocks"] (spOf K CN CB CR) := by
  refine F.okX scOf (fun vs H Q E h => ?_) (fun cdv A outer s H vs Q E hr h => ?_)
  · obtain ⟨v, bv, rfl, _⟩ := h
    rfl
  obtain ⟨v, bv, rfl, h⟩ := h
  have sc := scOf
  refine ⟨_, (pss_cons (ps_expr (pe_fX D_checksize (hr.mono (by decide)) (takes_of rfl rfl rfl rfl) (pa_cons (pv 0) pa_nil)))
      (pss_cons (ps_expr (pe_fX D_chblocks (hr.mono (by decide)) (takes_of rfl rfl rfl rfl) (pa_cons (pv 1) pa_nil)))
      (pss_cons (ps_for (passes_of rfl) rfl (pi_list (pv 1)) (pg_name (i := 2) sc.nd rfl (Or.inl rfl)) (pss_one (ps_expr (pe_fX D_checksched (hr.mono (by decide)) (takes_of rfl rfl rfl rfl) (pa_cons (pv 2) (pa_cons (pv 0) pa_nil))))))
      (pss_cons (ps_set (i := 3) sc.nd rfl (Or.inl rfl) (pe_lst pa_nil))
      (pss_cons (ps_set (i := 4) sc.nd rfl (Or.inl rfl) pe_int)
      (pss_cons (ps_for (passes_of rfl) rfl (pi_list (pv 1)) (pg_name (i := 2) sc.nd rfl (Or.inl rfl)) (pss_cons (ps_set (i := 4) sc.nd rfl (Or.inl rfl) (pe_op op_add (pv 4) (pe_callB c_len (by rfl) m_len PySem.boot_len (pa_cons (pv 2) pa_nil))))
      (pss_cons (ps_setLc2 (i := 5) (own := [("name", 7), ("cell", 8)]) (vs1 := [8]) (g := gName 7) (g1 := gName 8) (tt := tYes) (tt1 := tYes) (by rfl) sc.nd rfl rfl (sw_true rfl rfl rfl (by decide +kernel)) (pi_seq (pv 2)) (blkOk_by (own := [("name", 7), ("cell", 8)]) (N := ["size", "blocks", "block", "schedule", "seen", "reads", "_", "name", "cell"]) (sc := defScope sScheduleOf) (by decide +kernel)) (by decide)
        (fun _ _ _ _ _ => pg_name (i := 7) sc.nd rfl (Or.inl rfl)) (fun _ _ _ _ _ => pts_nil) (fun _ _ _ _ _ => pi_range1 (by rfl) m_range (pa_cons (pv 0) pa_nil)) (fun _ _ _ _ _ => pg_name (i := 8) sc.nd rfl (Or.inl rfl)) (fun _ _ _ _ _ => pts_nil) (fun _ _ _ _ _ => (pv 7)))
      (pss_one (ps_for (passes_of rfl) rfl (pi_range2 (by rfl) m_range (pa_cons (pv 4) (pa_cons (pe_op op_add (pv 0) pe_int) pa_nil))) (pg_name (i := 6) sc.nd rfl (Or.inl rfl)) (pss_one (ps_set (i := 3) sc.nd rfl (Or.inl rfl) (pe_op op_cat (pe_op op_cat (pv 3) (pe_callTy c_list (by rfl) m_list (by decide +kernel) (pa_cons (pv 2) pa_nil))) (pv 5)))))))))
      (pss_one (ps_ret (pe_callTy c_tuple (by rfl) m_tuple (by decide +kernel) (pa_cons (pv 3) pa_nil)))))))))), ?_⟩
  walk_at "go"
  rcases h with ⟨tn, hS, hv9, hr9⟩ | ⟨n, rfl, n1, n6, h⟩
  · exact ⟨v, tn, rfl, hS, fun z => (by rw [hv9] at z; cases z), fun _ => hr9⟩
  have hok : okSize (.int (n : Int)) = true := decide_eq_true (show 1 ≤ (n : Int) ∧ (n : Int) ≤ 6 by omega)
  refine ⟨.int (n : Int), "int", rfl, .int _, fun _ H1 s1 => ?_, fun z => (by rw [hok] at z; cases z)⟩
  walk_at "go"
  rcases h with hbad | ⟨a, xs, bs, rfl, hq, hp, hB, h⟩
  · exact chk_bad s1 hbad
  refine chk_ok s1 hq hp hB fun H2 s2 => ?_
  have s02 := s1.trans s2
  walk_at "go"
  refine r_lstK (s02.seq hq) ?_
  rcases h with ⟨i0, b0, pre, c0, rest0, hb0, hpre, rfl, hprn, hcn, hr9⟩ | ⟨hall, k⟩
  · refine r_forL (xs := xs) (fun i σ H' => ∃ v2, σ = [some (.int (n : Int)), some (.ref a), v2, none, none, none, none, none, none] ∧ Same H H' ∧ i ≤ i0) ⟨none, rfl, s02, Nat.zero_le _⟩ (fun i σ H' hi p => p.choose_spec.2.1.seq hq) ?_ ?_
    · rintro i x σ H3 hx ⟨v2, rfl, s3, hi⟩
      have hib : i < bs.length := by rw [← hB.1]; exact (List.getElem?_eq_some_iff.mp hx).1
      obtain ⟨b, hbi⟩ : ∃ b, bs[i]? = some b := ⟨bs[i], List.getElem?_eq_getElem hib⟩
      obtain ⟨⟨r, rfl, hr0⟩, _⟩ := hB.2.1 i x b hx hbi
      have hr3 := hr0.keep s3
      walk_at "go"
      rcases Nat.lt_or_ge i i0 with hlt | hge
      · refine ⟨.ref r, n, rfl, .inl ⟨r, b, [], rfl, by rw [List.append_nil]; exact hr3, fun d hd => ?_, fun _ H4 s4 => ?_, fun v2 r2 e => by cases e⟩⟩
        · exact hpre b (List.mem_of_getElem? (i := i) (by rw [List.getElem?_take_of_lt hlt]; exact hbi)) d hd
        · walk_at "go"
          exact ⟨_, rfl, s3.trans s4, hlt⟩
      · have ei : i = i0 := by omega
        subst ei
        rw [hb0] at hbi
        cases hbi
        have e : nV (pre ++ c0 :: rest0) = nV pre ++ V.int (c0 : Int) :: nV rest0 := nV_append pre (c0 :: rest0)
        rw [e] at hr3
        refine ⟨.ref r, n, rfl, .inl ⟨r, pre, V.int (c0 : Int) :: nV rest0, rfl, hr3, hprn, fun e => (by cases e), fun v2 r2 e => ?_⟩⟩
        cases e
        exact ⟨"int", .int _, if_neg (by omega), rsd_keep s3 hr9⟩
    · rintro σ H3 ⟨v2, rfl, s3, hi⟩
      exfalso
      have h1 : i0 < bs.length := (List.getElem?_eq_some_iff.mp hb0).1
      have := hB.1
      omega
  · have hfl : ∀ c ∈ bs.flatten, c < n := fun c hc => by
      obtain ⟨b, hb, hcb⟩ := List.mem_flatten.mp hc
      exact hall b hb c hcb
    have hf6 := small_flat hB.2.2.1 hfl
    have hne : ∀ b ∈ bs, b ≠ [] := fun b hb => by
      obtain ⟨i, hi, e⟩ := List.mem_iff_getElem.mp hb
      have hbi : bs[i]? = some b := by rw [← e]; exact List.getElem?_eq_getElem hi
      have hxi : i < xs.length := by rw [hB.1]; exact hi
      exact (hB.2.1 i _ b (List.getElem?_eq_getElem hxi) hbi).2
    have hn6 := len_flat bs hne
    refine r_forL (xs := xs) (fun i σ H' => ∃ v2, σ = [some (.int (n : Int)), some (.ref a), v2, none, none, none, none, none, none] ∧ Same H H') ⟨none, rfl, s02⟩ (fun i σ H' hi p => p.choose_spec.2.seq hq) ?_ ?_
    · rintro i x σ H3 hx ⟨v2, rfl, s3⟩
      have hib : i < bs.length := by rw [← hB.1]; exact (List.getElem?_eq_some_iff.mp hx).1
      obtain ⟨b, hbi⟩ : ∃ b, bs[i]? = some b := ⟨bs[i], List.getElem?_eq_getElem hib⟩
      obtain ⟨⟨r, rfl, hr0⟩, _⟩ := hB.2.1 i x b hx hbi
      walk_at "go"
      refine ⟨.ref r, n, rfl, .inl ⟨r, b, [], rfl, by rw [List.append_nil]; exact hr0.keep s3, hall b (List.mem_of_getElem? hbi), fun _ H4 s4 => ?_, fun v2 r2 e => by cases e⟩⟩
      walk_at "go"
      exact ⟨_, rfl, s3.trans s4⟩
    · rintro σ H3 ⟨v2, rfl, s3⟩
      walk_at "go"
      refine ⟨by show 0 ≤ sizeLine; decide, fun ps hps => ?_⟩
      have s4 := s3.trans (same_new (o := .lst []) hps)
      have h4 : (upd H3 ps (.lst [])) ps = some (.lst (nV [])) := upd_same
      generalize upd H3 ps (.lst []) = H4 at s4 h4 ⊢
      walk_at "go"
      refine r_lstK (s4.seq hq) ?_
      refine r_forL (xs := xs) (fun i σ H' => ∃ v2 p3 v5 v6, σ = [some (.int (n : Int)), some (.ref a), v2, some (.ref p3), some (.int (((bs.take i).flatten.length : Nat) : Int)), v5, v6, none, none] ∧ Same H H' ∧ H' p3 = some (.lst (nV (told n 0 (bs.take i)))) ∧ (told n 0 (bs.take i)).length ≤ i * 294)
        ⟨v2, ps, none, none, rfl, s4, h4, Nat.zero_le _⟩ (fun i σ H' hi p => p.choose_spec.choose_spec.choose_spec.choose_spec.2.1.seq hq) ?_ ?_
      · rintro i x σ H5 hx ⟨v2, p3, v5, v6, rfl, s5, hp3, l3⟩
        have hib : i < bs.length := by rw [← hB.1]; exact (List.getElem?_eq_some_iff.mp hx).1
        obtain ⟨b, hbi⟩ : ∃ b, bs[i]? = some b := ⟨bs[i], List.getElem?_eq_getElem hib⟩
        obtain ⟨⟨r, rfl, hr0⟩, _⟩ := hB.2.1 i x b hx hbi
        have etk : bs.take (i + 1) = bs.take i ++ [b] := by rw [List.take_add_one, hbi]; rfl
        have hfl2 : (bs.take (i + 1)).flatten = (bs.take i).flatten ++ b := by rw [etk, List.flatten_append]; simp
        have hbn : (bs.take i).flatten.length + b.length ≤ n := by
          have := (take_flat bs (i + 1)).length_le
          rw [hfl2, List.length_append] at this
          omega
        walk_at "go"
        refine r_lenA (hr0.keep s5) ?_
        rw [nV_len]
        walk_at "go"
        have e4 : V.int (((bs.take i).flatten.length : Int) + (b.length : Int)) = V.int (((bs.take (i + 1)).flatten.length : Nat) : Int) := by rw [hfl2, List.length_append, Int.natCast_add]
        rw [e4]
        refine r_lc2 ?_
        refine r_seqI ?_
        walk_at "go"
        refine r_lc2A (n := n) (hr0.keep s5) (by rw [nV_len]; exact Nat.le_trans (Nat.mul_le_mul (by omega : b.length ≤ 6) n6) (by decide)) (fun _ => rfl) (fun _ _ => rfl) (fun x H' R s' q => ?_) (fun x y H' Q' q => ?_) fun p5 H6 hp5 s6 h6 => ?_
        · walk_at "go"
          exact r_rngK n (by omega) (by omega) q
        · walk_at "go"
          exact q
        rw [nV_flat] at h6
        walk_at "go"
        have hfl3 : (bs.take (i + 1)).flatten.length = (bs.take i).flatten.length + b.length := by rw [hfl2, List.length_append]
        have hturn : (turnOf n b).length ≤ 42 := by
          rw [len_turn]
          have := Nat.mul_le_mul (by omega : b.length ≤ 6) n6
          omega
        refine r_rngK2 (n + 1 - ((bs.take i).flatten.length + b.length)) (by omega) (by omega) ?_
        refine r_forR (fun t σ H' => ∃ p3 v6, σ = [some (.int (n : Int)), some (.ref a), some (.ref r), some (.ref p3), some (.int (((bs.take (i + 1)).flatten.length : Nat) : Int)), some (.ref p5), v6, none, none] ∧ Same H6 H' ∧ H' p3 = some (.lst (nV (told n 0 (bs.take i) ++ (List.replicate t (turnOf n b)).flatten))) ∧
            (told n 0 (bs.take i) ++ (List.replicate t (turnOf n b)).flatten).length ≤ i * 294 + t * 42)
          ⟨p3, v6, rfl, Same.refl _, by rw [List.replicate_zero, List.flatten_nil, List.append_nil]; exact s6 _ _ hp3, by rw [List.replicate_zero, List.flatten_nil, List.append_nil]; omega⟩ ?_ ?_
        · rintro t σ H7 ht ⟨p4, v7, rfl, s7, h7, l7⟩
          have efl : told n 0 (bs.take i) ++ (List.replicate (t + 1) (turnOf n b)).flatten = ((told n 0 (bs.take i) ++ (List.replicate t (turnOf n b)).flatten) ++ b) ++ b.flatMap fun c => List.replicate n c := by
            rw [List.replicate_succ', List.flatten_append, List.append_assoc, List.append_assoc]
            unfold turnOf
            simp
          have l8 : (told n 0 (bs.take i) ++ (List.replicate (t + 1) (turnOf n b)).flatten).length ≤ i * 294 + (t + 1) * 42 := by
            have e : told n 0 (bs.take i) ++ (List.replicate (t + 1) (turnOf n b)).flatten = (told n 0 (bs.take i) ++ (List.replicate t (turnOf n b)).flatten) ++ turnOf n b := by
              rw [List.replicate_succ', List.flatten_append, List.append_assoc]
              simp
            rw [e, List.length_append]
            omega
          have h1000 : i * 294 + (t + 1) * 42 ≤ 100000 := by
            have : i ≤ 6 := by omega
            have : t ≤ 7 := by omega
            omega
          rw [efl] at l8 ⊢
          have l9 := l8
          rw [List.length_append, List.length_append] at l9
          walk_at "go"
          refine r_listO ((hr0.keep s5).keep (s6.trans s7)) fun lb hlb => ?_
          walk_at "go"
          have s8 := s7.trans (same_new (o := .lst (nV b)) hlb)
          refine r_catL ((same_new hlb) _ _ h7) upd_same (by rw [nV_len, nV_len]; omega) fun q1 hq1 => ?_
          have s9 := s8.trans (same_new (o := .lst (nV (told n 0 (bs.take i) ++ (List.replicate t (turnOf n b)).flatten) ++ nV b)) hq1)
          walk_at "go"
          refine r_catL upd_same (s9 _ _ h6) (by rw [List.length_append, nV_len, nV_len, nV_len]; omega) fun q2 hq2 => ?_
          exact ⟨q2, _, rfl, s9.trans (same_new hq2), by rw [upd_same, nV_append _ (b.flatMap fun c => List.replicate n c), nV_append _ b], l8⟩
        · rintro σ H7 ⟨p4, v7, rfl, s7, h7, l7⟩
          have etold : told n 0 (bs.take (i + 1)) = told n 0 (bs.take i) ++ (List.replicate (n + 1 - ((bs.take i).flatten.length + b.length)) (turnOf n b)).flatten := by rw [etk, told_snoc, Nat.zero_add]
          rw [etold]
          exact ⟨_, p4, _, _, rfl, (s5.trans s6).trans s7, h7, by omega⟩
      · rintro σ H5 ⟨v2, p3, v5, v6, rfl, s5, hp3, l3⟩
        rw [hB.1, List.take_length] at hp3
        walk_at "go"
        refine r_tupL (SqL.of hp3) fun t ht => ?_
        exact k t _ (s5.trans (same_new ht)) upd_same
end
end K8
namespace K8
open PySem L2 Er K7M
theorem five {σ : L2.St} (h : σ.length = 5) : ∃ x0 x1 x2 x3 x4, σ = [x0, x1, x2, x3, x4] := by
  match σ, h with
  | [x0, x1, x2, x3, x4], _ => exact ⟨x0, x1, x2, x3, x4, rfl⟩
theorem r_eqV {a b : Str} {H : Hp} {Q : VK} (q : Q (.bl (decide (V.str a = V.str b))) H) : rEq (.str a) (.str b) H Q := ⟨rfl, q⟩
theorem r_strc {x : Str} {H : Hp} {Q : VK} {σ : L2.St} (q : Q (.str x) H) : tC (.str x) σ H Q := q
structure ErrsX (K : PySem.W.Frag) (mg : Str → Option Value) (CN CB CT : Addr) : Prop where
  gT : mg "TaskError" = some (.ref CT)
  nn : PySem.W.exmOne K (.ref CN) (.ref CN) = some true
  bn : PySem.W.exmOne K (.ref CB) (.ref CN) = some false
  bb : PySem.W.exmOne K (.ref CB) (.ref CB) = some true
  xn : XfC K CN
  xb : XfC K CB
  fn : PySem.W.findIn K (.ref CN) "name" = some none
  fb : PySem.W.findIn K (.ref CB) "word" = some none
structure LS where
  st : Addr
  hs : Nat → Addr
  rs : Nat → Addr
def LS.foot (B : LS) (n : Nat) : List Addr := B.st :: ((List.range n).map B.hs ++ (List.range n).map B.rs)
structure StAt (H : Hp) (B : LS) (n : Nat) (S : Sys) : Prop where
  st : H B.st = some (.lst (row n fun i => .ref (B.hs i)))
  hs : ∀ i, i < n → H (B.hs i) = some (.lst [.int (S i).lev, .int ((S i).cnt : Int), .ref (B.rs i)])
  rs : ∀ i, i < n → H (B.rs i) = some (.lst (nV (S i).rd))
  ih : ∀ i, i < n → ∀ j, j < n → B.hs i = B.hs j → i = j
  ir : ∀ i, i < n → ∀ j, j < n → B.rs i = B.rs j → i = j
theorem mem_hs {B : LS} {n i : Nat} (h : i < n) : B.hs i ∈ B.foot n := List.mem_cons_of_mem _ (List.mem_append_left _ (List.mem_map.mpr ⟨i, List.mem_range.mpr h, rfl⟩))
theorem mem_rs {B : LS} {n i : Nat} (h : i < n) : B.rs i ∈ B.foot n := List.mem_cons_of_mem _ (List.mem_append_right _ (List.mem_map.mpr ⟨i, List.mem_range.mpr h, rfl⟩))
theorem foot_cases {B : LS} {n : Nat} {b : Addr} (h : b ∈ B.foot n) : b = B.st ∨ (∃ i, i < n ∧ b = B.hs i) ∨ ∃ i, i < n ∧ b = B.rs i := by
  rcases List.mem_cons.mp h with h | h
  · exact .inl h
  rcases List.mem_append.mp h with h | h
  · obtain ⟨i, hi, e⟩ := List.mem_map.mp h
    exact .inr (.inl ⟨i, List.mem_range.mp hi, e.symm⟩)
  · obtain ⟨i, hi, e⟩ := List.mem_map.mp h
    exact .inr (.inr ⟨i, List.mem_range.mp hi, e.symm⟩)
theorem hs_rs_list {x y : Int} {r : Addr} {l : List Nat} : (HO.lst [.int x, .int y, .ref r]) ≠ HO.lst (nV l) := fun e => by
  have e := HO.lst.inj e
  unfold nV at e
  rcases l with _ | ⟨a, _ | ⟨b, _ | ⟨c, l⟩⟩⟩
  · cases e
  · cases e
  · cases e
  · simp at e
theorem StAt.hr {H : Hp} {B : LS} {n : Nat} {S : Sys} (h : StAt H B n S) {i j : Nat} (hi : i < n) (hj : j < n) : B.hs i ≠ B.rs j := fun e => by
  have h1 := h.hs i hi
  rw [e, h.rs j hj] at h1
  exact hs_rs_list (Option.some.inj h1).symm
theorem StAt.sh {H : Hp} {B : LS} {n : Nat} {S : Sys} (h : StAt H B n S) {i : Nat} (hi : i < n) : B.st ≠ B.hs i := fun e => by
  have h1 := h.hs i hi
  rw [← e, h.st] at h1
  have h2 := HO.lst.inj (Option.some.inj h1)
  have h3 : (row n fun i => V.ref (B.hs i))[0]? = some (V.ref (B.hs 0)) := row_at _ (by omega)
  rw [h2] at h3
  cases h3
theorem StAt.sr {H : Hp} {B : LS} {n : Nat} {S : Sys} (h : StAt H B n S) {i : Nat} (hi : i < n) : B.st ≠ B.rs i := fun e => by
  have h1 := h.rs i hi
  rw [← e, h.st] at h1
  have h2 := HO.lst.inj (Option.some.inj h1)
  have h3 : (row n fun i => V.ref (B.hs i))[0]? = some (V.ref (B.hs 0)) := row_at _ (by omega)
  rw [h2] at h3
  obtain ⟨c, _, e⟩ := nV_at h3
  cases e
theorem StAt.some_ {H : Hp} {B : LS} {n : Nat} {S : Sys} (h : StAt H B n S) {b : Addr} (hb : b ∈ B.foot n) : ∃ xs, H b = some (.lst xs) := by
  rcases foot_cases hb with rfl | ⟨i, hi, rfl⟩ | ⟨i, hi, rfl⟩
  · exact ⟨_, h.st⟩
  · exact ⟨_, h.hs i hi⟩
  · exact ⟨_, h.rs i hi⟩
theorem StAt.kept {H H' : Hp} {B : LS} {n : Nat} {S : Sys} {F : List Addr} (h : StAt H B n S) (k : Kept F H H') (d : ∀ b ∈ B.foot n, b ∉ F) : StAt H' B n S :=
  ⟨k _ _ h.st (d _ (List.mem_cons_self ..)), fun i hi => k _ _ (h.hs i hi) (d _ (mem_hs hi)), fun i hi => k _ _ (h.rs i hi) (d _ (mem_rs hi)), h.ih, h.ir⟩
theorem StAt.keep {H H' : Hp} {B : LS} {n : Nat} {S : Sys} (h : StAt H B n S) (k : Same H H') : StAt H' B n S :=
  ⟨k _ _ h.st, fun i hi => k _ _ (h.hs i hi), fun i hi => k _ _ (h.rs i hi), h.ih, h.ir⟩
theorem not_mem3 {b x y z : Addr} (h1 : b ≠ x) (h2 : b ≠ y) (h3 : b ≠ z) : b ∉ [x, y, z] := by simp [h1, h2, h3]
theorem StAt.put {H H' : Hp} {B : LS} {n : Nat} {S : Sys} {i : Nat} {x : NS} {r cl : Addr} (h : StAt H B n S) (hi : i < n) (hh : H' (B.hs i) = some (.lst [.int x.lev, .int (x.cnt : Int), .ref r])) (hr : H' r = some (.lst (nV x.rd))) (hcl : cl ∉ B.foot n)
    (k : Kept [B.hs i, cl, B.rs i] H H') (fr : r = B.rs i ∨ H r = none) : StAt H' ⟨B.st, B.hs, fun j => if j = i then r else B.rs j⟩ n (K7M.put S i x) := by
  have hclS : B.st ≠ cl := fun z => hcl (by rw [← z]; exact List.mem_cons_self ..)
  have hclH : ∀ j, j < n → B.hs j ≠ cl := fun j hj z => hcl (by rw [← z]; exact mem_hs hj)
  have hclR : ∀ j, j < n → B.rs j ≠ cl := fun j hj z => hcl (by rw [← z]; exact mem_rs hj)
  refine ⟨k _ _ h.st (by simp [h.sh hi, hclS, h.sr hi]), fun j hj => ?_, fun j hj => ?_, h.ih, fun j hj m hm e => ?_⟩
  · show H' (B.hs j) = some (.lst [.int (K7M.put S i x j).lev, .int ((K7M.put S i x j).cnt : Int), .ref (if j = i then r else B.rs j)])
    by_cases e : j = i
    · subst e
      rw [put_same, if_pos rfl]
      exact hh
    · rw [put_ne _ _ e, if_neg e]
      exact k _ _ (h.hs j hj) (not_mem3 (fun z => e (h.ih j hj i hi z)) (hclH j hj) (h.hr hj hi))
  · show H' (if j = i then r else B.rs j) = _
    by_cases e : j = i
    · subst e
      rw [put_same, if_pos rfl]
      exact hr
    · rw [put_ne _ _ e, if_neg e]
      exact k _ _ (h.rs j hj) (not_mem3 (Ne.symm (h.hr hi hj)) (hclR j hj) (fun z => e (h.ir j hj i hi z)))
  · have e : (if j = i then r else B.rs j) = if m = i then r else B.rs m := e
    have ne : ∀ m, m < n → m ≠ i → r ≠ B.rs m := fun m hm hmi z => by
      rcases fr with fr | fr
      · exact hmi (h.ir m hm i hi (by rw [← z, fr]))
      · rw [z, h.rs m hm] at fr
        cases fr
    by_cases h1 : j = i
    · by_cases h2 : m = i
      · omega
      · rw [if_pos h1, if_neg h2] at e
        exact absurd e (ne m hm h2)
    · by_cases h2 : m = i
      · rw [if_neg h1, if_pos h2] at e
        exact absurd e.symm (ne j hj h1)
      · rw [if_neg h1, if_neg h2] at e
        exact h.ir j hj m hm e
theorem foot_put {B : LS} {n i : Nat} {r b : Addr} (h : b ∈ (LS.mk B.st B.hs fun j => if j = i then r else B.rs j).foot n) : b ∈ B.foot n ∨ b = r := by
  rcases foot_cases h with rfl | ⟨j, hj, rfl⟩ | ⟨j, hj, rfl⟩
  · exact .inl (List.mem_cons_self ..)
  · exact .inl (mem_hs (B := B) hj)
  · show (if j = i then r else B.rs j) ∈ B.foot n ∨ (if j = i then r else B.rs j) = r
    by_cases e : j = i
    · rw [if_pos e]
      exact .inr rfl
    · rw [if_neg e]
      exact .inl (mem_rs hj)
def cellsOf (n : Nat) (S : Sys) : List V := row n fun i => .int (S i).lev
theorem Kept.mono {F G : List Addr} {H H' : Hp} (k : Kept F H H') (s : ∀ b ∈ F, b ∈ G) : Kept G H H' := fun b o h n => k b o h fun z => n (s b z)
theorem row_succ (n : Nat) (f : Nat → V) : row (n + 1) f = row n f ++ [f n] := by
  unfold row
  rw [List.range_succ, List.map_append]
  rfl
theorem r_tYes {σ : L2.St} {H : Hp} {QT : Bool → Hp → Prop} (h : QT true H) : tYes σ H QT := h
theorem row_all (n : Nat) (f : Nat → V) : ((List.range n).filter fun _ => true).map f = row n f := by
  rw [List.filter_eq_self.mpr (fun _ _ => rfl)]
  rfl
theorem idx_map {α : Type} (l : List Nat) (g : Nat → α) : (List.range l.length).map (fun i => g (l.getD i 0)) = l.map g := by
  apply List.ext_getElem?
  intro i
  rw [List.getElem?_map, List.getElem?_map]
  rcases Nat.lt_or_ge i l.length with h | h
  · rw [List.getElem?_range h, List.getElem?_eq_getElem h]
    simp [List.getD, h]
  · rw [List.getElem?_eq_none h, List.getElem?_eq_none (by rw [List.length_range]; exact h)]
    rfl
theorem dp_names {K : PySem.W.Frag} (H : Hp) (l : List Nat) : DpAll K H (nV l) ((l.map fun (c : Nat) => (c : Int)).map PyData.int) := by
  rw [ints_nV]
  exact dp_ints _
theorem dp_tupN {K : PySem.W.Frag} {H : Hp} {a : Addr} {l : List Nat} (h : SqT K H a (nV l)) : Dp K H (.ref a) (.tuple ((l.map fun (c : Nat) => (c : Int)).map PyData.int)) := .tup h (dp_names H l)
theorem okd_names (l : List Nat) : Okd 1 (.tuple ((l.map fun (c : Nat) => (c : Int)).map PyData.int)) := okd_tup (okd_ints _)
theorem hu65_of {A : Around} {k : Nat} (hr : Room k A) : A.units + 65 < cLine := by have := hr.un; omega
theorem okd_str {x : Str} (h : PyData.canLay0 (.str x) = true) : Okd 0 (.str x) := ⟨h, Nat.le_refl _⟩
def namesD (l : List Nat) : PyData := .tuple ((l.map fun (c : Nat) => (c : Int)).map PyData.int)
def pairD (il : Nat × List Nat) : PyData := .tuple [.int (il.1 : Int), namesD il.2]
def runD (ws : List Nat) (ls : List (Nat × List Nat)) : PyData := .tuple [namesD ws, .tuple (ls.map pairD)]
theorem okd_run (ws : List Nat) (ls : List (Nat × List Nat)) : Okd 4 (runD ws ls) := okd_tup fun d hd => by
  rcases List.mem_cons.mp hd with rfl | hd
  · exact (okd_names ws).up (by decide)
  rcases List.mem_cons.mp hd with rfl | hd
  · refine okd_tup (k := 2) fun e he => ?_
    obtain ⟨il, _, rfl⟩ := List.mem_map.mp he
    refine okd_tup (k := 1) fun z hz => ?_
    rcases List.mem_cons.mp hz with rfl | hz
    · exact (okd_int _).up (by decide)
    rcases List.mem_cons.mp hz with rfl | hz
    · exact okd_names _
    cases hz
  cases hd
theorem dpAll_of {K : PySem.W.Frag} {H : Hp} {α : Type} (f : α → PyData) : ∀ {ys : List V} {ls : List α}, ys.length = ls.length → (∀ (i : Nat) (y : V) (x : α), ys[i]? = some y → ls[i]? = some x → Dp K H y (f x)) → DpAll K H ys (ls.map f)
  | [], [], _, _ => .nil
  | [], _ :: _, h, _ => by cases h
  | _ :: _, [], h, _ => by cases h
  | y :: ys, x :: ls, h, g => .cons (g 0 y x rfl rfl) (dpAll_of f (Nat.succ.inj h) fun i y' x' h1 h2 => g (i + 1) y' x' h1 h2)
theorem dp_run {K : PySem.W.Frag} {H : Hp} {t : Addr} {ws : List Nat} {ls : List (Nat × List Nat)} (h : RunAt H t ws ls) : Dp K H (.ref t) (runD ws ls) := by
  obtain ⟨tw, tl, ys, h1, h2, h3, hl, hp⟩ := h
  refine .tup (SqT.of h1) (.cons (dp_tupN (SqT.of h2)) (.cons (.tup (SqT.of h3) (dpAll_of pairD hl fun i y il e1 e2 => ?_)) .nil))
  obtain ⟨p, r, rfl, a1, a2⟩ := hp i y il e1 e2
  exact .tup (SqT.of a1) (.cons (.int _) (.cons (dp_tupN (SqT.of a2)) .nil))
theorem dp_blocks {K : PySem.W.Frag} {H : Hp} {t : Addr} {bs : List (List Nat)} (h : BlocksAt H t bs) : Dp K H (.ref t) (.tuple (bs.map namesD)) := by
  obtain ⟨ys, h1, hl, hp⟩ := h
  refine .tup (SqT.of h1) (dpAll_of namesD hl fun i y b e1 e2 => ?_)
  obtain ⟨p, rfl, a⟩ := hp i y b e1 e2
  exact dp_tupN (SqT.of a)
theorem okd_blocks (bs : List (List Nat)) : Okd 2 (.tuple (bs.map namesD)) := okd_tup fun d hd => by
  obtain ⟨b, _, rfl⟩ := List.mem_map.mp hd
  exact okd_names b
theorem dp_lstN {K : PySem.W.Frag} {H : Hp} {a : Addr} {l : List Nat} (h : SqL K H a (nV l)) : Dp K H (.ref a) (.list ((l.map fun (c : Nat) => (c : Int)).map PyData.int)) := .lst h (dp_names H l)
theorem okd_lstN (l : List Nat) : Okd 1 (.list ((l.map fun (c : Nat) => (c : Int)).map PyData.int)) := okd_lst (okd_ints _)
theorem RunAt.keep {H H' : Hp} {t : Addr} {ws : List Nat} {ls : List (Nat × List Nat)} (h : RunAt H t ws ls) (s : Same H H') : RunAt H' t ws ls := by
  obtain ⟨tw, tl, ys, h1, h2, h3, hl, hp⟩ := h
  exact ⟨tw, tl, ys, s _ _ h1, s _ _ h2, s _ _ h3, hl, fun i y il e1 e2 => (hp i y il e1 e2).keep s⟩
theorem BlocksAt.keep {H H' : Hp} {t : Addr} {bs : List (List Nat)} (h : BlocksAt H t bs) (s : Same H H') : BlocksAt H' t bs := by
  obtain ⟨ys, h1, hi⟩ := h
  exact ⟨ys, s _ _ h1, hi.keep s⟩
inductive Sca : V → PyData → String → Prop
  | non : Sca .non .none "NoneType"
  | bl (b : Bool) : Sca (.bl b) (.bool b) "bool"
  | int (i : Int) : Sca (.int i) (.int i) "int"
  | str (x : Str) (h : PyData.canLay0 (.str x) = true) : Sca (.str x) (.str x) "str"
section
variable {K : PySem.W.Frag} {H : Hp} {v : V} {d : PyData} {tn : String}
theorem Sca.sm (h : Sca v d tn) : Sm K H v tn := by cases h <;> constructor
theorem Sca.dp (h : Sca v d tn) : Dp K H v d := by cases h <;> constructor
theorem Sca.okd (h : Sca v d tn) : Okd 0 d := by
  cases h with
  | non => exact okd_non
  | bl b => exact okd_bl b
  | int i => exact okd_int i
  | str x h => exact okd_str h
theorem Sca.norow (h : Sca v d tn) : (tn == "list" || tn == "tuple") = false := by cases h <;> decide +kernel
end
theorem dp_tag {K : PySem.W.Frag} {H : Hp} {t : Addr} {x : Str} {v : V} {d : PyData} (h : H t = some (.tup [.str x, v])) (hd : Dp K H v d) : Dp K H (.ref t) (.tuple [.str x, d]) := .tup (SqT.of h) (.cons (.str _) (.cons hd .nil))
theorem okd_tag {x : Str} {d : PyData} (h : PyData.canLay0 (.str x) = true) (hd : Okd 0 d) : Okd 1 (.tuple [.str x, d]) := okd_tup fun z hz => by
  rcases List.mem_cons.mp hz with rfl | hz
  · exact okd_str h
  rcases List.mem_cons.mp hz with rfl | hz
  · exact hd
  cases hz
theorem SameBut.lst {a b : Addr} {H H' : Hp} {o : HO} (s : SameBut a H H') (h : H b = some o) (n : b ≠ a) : H' b = some o := s b o n h
end K8
namespace K8
open PySem L2 Er K7M
/-- one step of a plain reading -/
local macro_rules | `(tactic| walk_at "step") => `(tactic| first
  | with_reducible refine r_seq ?_ | with_reducible refine r_nx ?_ | with_reducible refine r_asgN ?_ | with_reducible refine r_asgS ?_ | with_reducible refine r_asgT ?_ | with_reducible refine r_ifS ?_
  | with_reducible refine r_ret ?_ | with_reducible refine r_retN ?_ | with_reducible refine r_drop ?_ | with_reducible refine r_test ?_ | with_reducible refine r_B ?_ | with_reducible refine r_not ?_
  | with_reducible refine r_and ?_ | with_reducible refine r_or ?_ | with_reducible refine r_andV ?_ | with_reducible refine r_orV ?_ | with_reducible refine r_notV ?_
  | ((with_reducible refine' r_var ?e ?_); (case e => exact rfl)) | with_reducible refine r_c ?_ | with_reducible refine r_op ?_ | with_reducible refine r_un ?_
  | with_reducible refine r_I0 ?_ | with_reducible refine r_eqI ?_ | with_reducible refine r_neI ?_ | with_reducible refine r_bl ?_ | with_reducible refine r_nil ?_ | with_reducible refine r_cons ?_
  | with_reducible refine r_cb ?_ | with_reducible refine r_call ?_ | with_reducible refine r_tup ?_ | with_reducible refine r_lst ?_ | with_reducible refine r_fld ?_ | with_reducible refine r_bm ?_ | with_reducible refine r_bm0 ?_
  | with_reducible refine r_for ?_ | with_reducible refine r_rng ?_ | with_reducible refine r_rng2 ?_ | with_reducible refine r_lstI ?_ | with_reducible refine r_tupI ?_ | with_reducible refine r_lc ?_
  | with_reducible refine r_augS ?_ | with_reducible refine r_ipI ?_
  | with_reducible refine r_meth ?_ | with_reducible refine r_prop ?_ | with_reducible refine r_make ?_ | with_reducible refine r_din ?_ | with_reducible refine r_dnin ?_ | with_reducible refine r_dput ?_ | with_reducible refine r_dget ?_
  | with_reducible refine r_gN ?_ | with_reducible refine r_tsl ?_ | with_reducible refine r_noP ?_ | with_reducible refine r_part ?_ | with_reducible refine r_pI ?_ | with_reducible refine r_tif ?_ | with_reducible refine r_SL ?_ | with_reducible refine r_gC ?_ | with_reducible refine r_U ?_ | with_reducible refine r_sfld ?_ | with_reducible refine r_dnew ?_ | with_reducible refine r_keys ?_
  | with_reducible refine r_mkE ?_ | with_reducible refine iteT ?_ | with_reducible refine iteF ?_
  | with_reducible refine r_int ?_ | with_reducible refine r_min2 ?_ | with_reducible refine r_isN ?_ | with_reducible refine r_notN ?_)
/-- as far as it goes by itself -/
local macro_rules | `(tactic| walk_at "go") => `(tactic| ((repeat walk_at "step"); (try dsimp only)))

abbrev sLBlocks : Stmt := top 25
abbrev sSome : Stmt := top 27
theorem tupOK {X : Cx} (K : PySem.W.Frag) (e : X.K = K := by rfl) : CallR X (.type "tuple") (rTupO K) := by subst e; exact c_tuple
theorem listOK {X : Cx} (K : PySem.W.Frag) (e : X.K = K := by rfl) : CallR X (.type "list") (rListO K) := by subst e; exact c_list
/-- rows of names, each a list of its own -/
structure RowsAt (H : Hp) (D : Addr) (m : Nat) (rs : Nat → Addr) (R : Nat → List Nat) : Prop where
  d : H D = some (.lst (row m fun j => .ref (rs j)))
  r : ∀ j, j < m → H (rs j) = some (.lst (nV (R j)))
  inj : ∀ i, i < m → ∀ j, j < m → rs i = rs j → i = j
  ne : ∀ j, j < m → rs j ≠ D
theorem RowsAt.but {H H' : Hp} {D a : Addr} {m : Nat} {rs : Nat → Addr} {R : Nat → List Nat} (h : RowsAt H D m rs R) (s : SameBut a H H') (h1 : D ≠ a) (h2 : ∀ j, j < m → rs j ≠ a) : RowsAt H' D m rs R := ⟨s _ _ h1 h.d, fun j hj => s _ _ (h2 j hj) (h.r j hj), h.inj, h.ne⟩
theorem RowsAt.keep {H H' : Hp} {D : Addr} {m : Nat} {rs : Nat → Addr} {R : Nat → List Nat} (h : RowsAt H D m rs R) (s : Same H H') : RowsAt H' D m rs R := ⟨s _ _ h.d, fun j hj => s _ _ (h.r j hj), h.inj, h.ne⟩
theorem RowsAt.app {H : Hp} {D : Addr} {m : Nat} {rs : Nat → Addr} {R : Nat → List Nat} (h : RowsAt H D m rs R) {k c : Nat} (hk : k < m) : RowsAt (upd H (rs k) (.lst (nV (R k) ++ [.int (c : Int)]))) D m rs (fun j => if j = k then R j ++ [c] else R j) :=
  ⟨by rw [upd_ne (Ne.symm (h.ne k hk))]; exact h.d, fun j hj => by
    try dsimp only
    by_cases e : j = k
    · subst e
      rw [upd_same, if_pos rfl, nV_append]
      rfl
    · rw [upd_ne (fun z => e (h.inj j hj k hk z)), if_neg e]
      exact h.r j hj, h.inj, h.ne⟩
theorem dist_perm {R : Nat → List Nat} {c k : Nat} : ∀ {m : Nat}, k < m → (((List.range m).map fun j => if j = k then R j ++ [c] else R j).flatten).Perm (((List.range m).map R).flatten ++ [c])
  | 0, h => by omega
  | m + 1, h => by
    rw [List.range_succ, List.map_append, List.map_append, List.flatten_append, List.flatten_append]
    by_cases e : k = m
    · subst e
      have e1 : (List.range k).map (fun j => if j = k then R j ++ [c] else R j) = (List.range k).map R := List.map_congr_left fun j hj => by
        have := List.mem_range.mp hj
        rw [if_neg (by omega)]
      rw [e1]
      simp
    · have ih := dist_perm (R := R) (c := c) (k := k) (m := m) (by omega)
      have e2 : (if m = k then R m ++ [c] else R m) = R m := if_neg (Ne.symm e)
      have e3 : [m].map (fun j => if j = k then R j ++ [c] else R j) = [R m] := by
        show [if m = k then R m ++ [c] else R m] = _
        rw [e2]
      rw [e3]
      refine (ih.append_right _).trans ?_
      rw [List.append_assoc, List.append_assoc]
      refine List.Perm.append_left _ ?_
      show ([c] ++ [R m].flatten).Perm ([R m].flatten ++ [c])
      exact List.perm_append_comm
theorem flat_ne (L : List (List Nat)) : (L.filter fun l => !l.isEmpty).flatten = L.flatten := by
  induction L with
  | nil => rfl
  | cons l L ih =>
    rw [List.filter_cons]
    cases l with
    | nil => simpa using ih
    | cons a l => simp [ih]
/-- the blocks: lists of tuples -/
def LBlk (H : Hp) (p : Addr) (bs : List (List Nat)) : Prop := ∃ ys, H p = some (.lst ys) ∧ ItemsAt H ys bs
theorem LBlk.keep {H H' : Hp} {p : Addr} {bs : List (List Nat)} (h : LBlk H p bs) (s : Same H H') : LBlk H' p bs := by
  obtain ⟨ys, h1, h2⟩ := h
  exact ⟨ys, s _ _ h1, h2.keep s⟩
def spLBlk (K : PySem.W.Frag) : Sp := fun vs H Q _ => ∃ (a b : Addr) (ns : List Int) (names : List Nat), vs = [.ref a, .ref b] ∧ H a = some (.lst (ns.map V.int)) ∧ ns.length ≤ 100000 ∧ H b = some (.lst (nV names)) ∧ b ≠ a ∧ 1 ≤ names.length ∧ names.length ≤ 6 ∧
  ∀ p bs (ns' : List Int) H', (∀ b ∈ bs, b ≠ []) → bs.flatten.Perm names → (∀ b ∈ bs, b.Sublist names) → ns'.length ≤ ns.length → H' a = some (.lst (ns'.map V.int)) → SameBut a H H' → H p = none → LBlk H' p bs → Q (.ref p) H'
def spSome : Sp := fun vs H Q _ => ∃ (a : Addr) (ns : List Int) (n : Nat), vs = [.ref a, .int (n : Int)] ∧ H a = some (.lst (ns.map V.int)) ∧ ns.length ≤ 100000 ∧ 1 ≤ n ∧ n ≤ 6 ∧
  ∀ p l (ns' : List Int) H', l ≠ [] → l.Sublist (List.range n) → ns'.length ≤ ns.length → H' a = some (.lst (ns'.map V.int)) → SameBut a H H' → H p = none → H' p = some (.lst (nV l)) → Q (.ref p) H'
theorem SameBut.trans {a : Addr} {H H1 H2 : Hp} (s : SameBut a H H1) (t : SameBut a H1 H2) : SameBut a H H2 := fun b o n z => t b o n (s b o n z)
theorem SameBut.of {a : Addr} {H H1 : Hp} (s : Same H H1) : SameBut a H H1 := fun b o _ z => s b o z
theorem SameBut.mut {a p : Addr} {H H' : Hp} {o : HO} (s : SameBut a H H') (h : H p = none) : SameBut a H (upd H' p o) := fun b u n z => by
  rw [upd_ne (ne_of_none z h)]
  exact s b u n z
theorem SameBut.none_ {a : Addr} {H H' : Hp} {p : Addr} (s : SameBut a H H') (h : H' p = none) (n : p ≠ a) : H p = none := by
  cases e : H p with
  | none => rfl
  | some o => rw [s p o n e] at h; cases h
section
variable {P : Program} {w : World} {K : PySem.W.Frag} {mg : Str → Option Value} {base : Heap} {CN CB CL CR : Addr}
theorem scSome : FnScope ["_law_found", "_law_size", "_law_row", "_law_name"] ["_law_found", "_law_size"] (defScope sSome) := ⟨rfl, rfl, rfl, by decide +kernel, rfl, by decide +kernel, by decide +kernel⟩
theorem ok_some {f : Addr} {fd : FuncData} (F : Fun K "_law_some" "_law_some" sSome f fd) (m_len : mg "len" = none) (m_range : mg "range" = none) (D_take : Fok P w K mg base 1 "_law_take" ["_law_found", "_law_many"] spTake) :
    FnOk P w K mg base (L2.CX P w) 2 f fd ["_law_found", "_law_size"] spSome := by
  refine F.okX scSome (fun vs H Q E h => ?_) (fun cdv A outer s H vs Q E hr h => ?_)
  · obtain ⟨a, ns, n, rfl, _⟩ := h
    rfl
  obtain ⟨a, ns, n, rfl, ha, hl, n1, n6, k⟩ := h
  have sc := scSome
  refine ⟨_, (pss_cons (ps_setLc (i := 2) (own := [("_law_name", 3)]) (g := gName 3)  (by rfl) sc.nd rfl rfl (sw_true rfl rfl rfl (by decide +kernel)) (pi_range1 (by rfl) m_range (pa_cons (pv 1) pa_nil)) (blkOk_by (own := [("_law_name", 3)]) (N := ["_law_found", "_law_size", "_law_row", "_law_name"]) (sc := defScope sSome) (by decide +kernel)) (fun _ _ _ _ _ => pg_name (i := 3) sc.nd rfl (Or.inl rfl)) (fun _ _ _ _ _ => (pts_one (pt_cmpR op_lt (pe_f D_take (hr.mono (by decide)) (pa_cons (pv 0) (pa_cons pe_int pa_nil))) pe_int (nomark _)))) (fun _ _ _ _ _ => (pv 3)))
      (pss_cons (ps_if (pt_cmpR op_eq (pe_callB c_len (by rfl) m_len PySem.boot_len (pa_cons (pv 2) pa_nil)) pe_int (nomark _)) (pss_one (ps_ret (pe_lst (pa_cons (pe_f D_take (hr.mono (by decide)) (pa_cons (pv 0) (pa_cons (pv 1) pa_nil))) pa_nil)))) pss_nil)
      (pss_one (ps_ret (pv 2))))), ?_⟩
  walk_at "go"
  refine r_rngK n (by omega) (by omega) ?_
  intro D hD
  have hDa : D ≠ a := fun z => by rw [z, ha] at hD; cases hD
  refine lc_range (fun i H' => SameBut a H H' ∧ (∃ ns' : List Int, H' a = some (.lst (ns'.map V.int)) ∧ ns'.length ≤ ns.length) ∧ ∃ l : List Nat, H' D = some (.lst (nV l)) ∧ l.Sublist (List.range i))
    ⟨fun b o _ z => (same_new hD) b o z, ⟨ns, by rw [upd_ne (Ne.symm hDa)]; exact ha, Nat.le_refl _⟩, [], upd_same, List.nil_sublist _⟩ (fun i H1 hi p => ?_) fun H1 p => ?_
  · obtain ⟨s1, ⟨ns1, h1, l1⟩, l, hl1, sub⟩ := p
    rw [Int.zero_add]
    refine ⟨rfl, ?_⟩
    walk_at "go"
    refine ⟨a, ns1, 4, rfl, h1, by omega, by decide, fun r ns2 H2 r0 r4 l2 h2 s2 => ?_⟩
    walk_at "go"
    have s12 := s1.trans s2
    have hlD := s2 _ _ hDa hl1
    refine iteB (fun e => ?_) fun e => ?_
    · walk_at "go"
      refine ⟨_, hlD, ?_, ?_, ⟨ns2, by rw [upd_ne (Ne.symm hDa)]; exact h2, by omega⟩, l ++ [i], by rw [upd_same, nV_append]; rfl, ?_⟩
      · have := sub.length_le
        rw [List.length_range] at this
        rw [nV_len]
        exact Nat.lt_of_le_of_lt (m := 6) (by omega) (by decide)
      · exact s12.mut hD
      · rw [List.range_succ]
        exact sub.append (List.Sublist.refl _)
    · exact ⟨s12, ⟨ns2, h2, by omega⟩, l, hlD, by rw [List.range_succ]; exact sub.trans (List.sublist_append_left _ _)⟩
  · obtain ⟨s1, ⟨ns1, h1, l1⟩, l, hl1, sub⟩ := p
    walk_at "go"
    refine r_lenL (SqL.of hl1) ?_
    rw [nV_len]
    walk_at "go"
    refine iteB (fun e => ?_) fun e => ?_
    · walk_at "go"
      refine ⟨a, ns1, n, rfl, h1, by omega, by omega, fun r ns2 H2 r0 rn l2 h2 s2 => ?_⟩
      walk_at "go"
      refine ⟨by show 1 ≤ sizeLine; decide, fun q hq => ?_⟩
      have qa : q ≠ a := fun z => by rw [z, h2] at hq; cases hq
      obtain ⟨r', rfl⟩ : ∃ r' : Nat, r = (r' : Int) := ⟨r.toNat, by omega⟩
      refine k q [r'] ns2 _ (by simp) (by rw [List.singleton_sublist]; exact List.mem_range.mpr (by omega)) (by omega) (by rw [upd_ne (Ne.symm qa)]; exact h2) (((s1.trans s2)).trans (SameBut.of (same_new hq))) ((s1.trans s2).none_ hq qa) upd_same
    · walk_at "go"
      refine k D l ns1 H1 (fun z => ?_) sub l1 h1 s1 hD hl1
      have e := of_decide_eq_false e
      rw [z] at e
      exact e rfl
theorem scLBlk : FnScope ["_law_found", "_law_names", "_law_rows", "_law_name", "_law_row"] ["_law_found", "_law_names"] (defScope sLBlocks) := ⟨rfl, rfl, rfl, by decide +kernel, rfl, by decide +kernel, by decide +kernel⟩
theorem ok_lblocks {f : Addr} {fd : FuncData} (F : Fun K "_law_blocks" "_law_blocks" sLBlocks f fd) (m_len : mg "len" = none) (m_tuple : mg "tuple" = none) (D_take : Fok P w K mg base 1 "_law_take" ["_law_found", "_law_many"] spTake) :
    FnOk P w K mg base (L2.CX P w) 2 f fd ["_law_found", "_law_names"] (spLBlk K) := by
  refine F.okX scLBlk (fun vs H Q E h => ?_) (fun cdv A outer s H vs Q E hr h => ?_)
  · obtain ⟨a, b, ns, names, rfl, _⟩ := h
    rfl
  obtain ⟨a, b, ns, names, rfl, ha, hl, hb, hba, n1, n6, k⟩ := h
  have sc := scLBlk
  refine ⟨_, (pss_cons (ps_setLc (i := 2) (own := [("_law_name", 3)]) (g := gName 3) (tt := tYes) (by rfl) sc.nd rfl rfl (sw_true rfl rfl rfl (by decide +kernel)) (pi_list (pv 1)) (blkOk_by (own := [("_law_name", 3)]) (N := ["_law_found", "_law_names", "_law_rows", "_law_name", "_law_row"]) (sc := defScope sLBlocks) (by decide +kernel)) (fun _ _ _ _ _ => pg_name (i := 3) sc.nd rfl (Or.inl rfl)) (fun _ _ _ _ _ => pts_nil) (fun _ _ _ _ _ => (pe_lst pa_nil)))
      (pss_cons (ps_for (passes_of rfl) rfl (pi_list (pv 1)) (pg_name (i := 3) sc.nd rfl (Or.inl rfl)) (pss_one (ps_expr (pe_bm PySem.F.plainAttrs_list PySem.F.slot_list_append PySem.F.type_list_append mt_append (pe_ix ix_list (pv 2) (pe_f D_take (hr.mono (by decide)) (pa_cons (pv 0) (pa_cons (pe_callB c_len (by rfl) m_len PySem.boot_len (pa_cons (pv 1) pa_nil)) pa_nil))) (fun _ _ => rfl)) (pa_cons (pv 3) pa_nil)))))
      (pss_one (ps_ret (pe_lc (own := [("_law_row", 4)]) (g := gName 4)  rfl sc.nd (pi_list (pv 2)) (blkOk_by (own := [("_law_row", 4)]) (N := ["_law_found", "_law_names", "_law_rows", "_law_name", "_law_row"]) (sc := defScope sLBlocks) (by decide +kernel)) (fun _ _ _ _ _ => pg_name (i := 4) sc.nd rfl (Or.inl rfl)) (fun _ _ _ _ _ => (pts_one (pt_cmpR op_gt (pe_callB (lenK K) (by rfl) m_len PySem.boot_len (pa_cons (pv 4) pa_nil)) pe_int (nomark _)))) (fun _ _ _ _ _ => (pe_callTy (tupOK K) (by rfl) m_tuple (by decide +kernel) (pa_cons (pv 4) pa_nil)))))))), ?_⟩
  walk_at "go"
  refine r_lstK (SqL.of hb) ?_
  intro D hD
  have hDa : D ≠ a := fun z => by rw [z, ha] at hD; cases hD
  have hDb : D ≠ b := fun z => by rw [z, hb] at hD; cases hD
  refine lc_list (xs := nV names) (fun i H' => Same H H' ∧ ∃ rs : Nat → Addr, RowsAt H' D i rs (fun _ => []) ∧ ∀ j, j < i → H (rs j) = none)
    ⟨same_new hD, fun _ => 0, ⟨upd_same, fun j hj => by omega, fun i hi => by omega, fun j hj => by omega⟩, fun j hj => by omega⟩ (fun i H' _ p => p.1.seq (SqL.of hb)) (fun i x H1 hi p => ?_) fun H1 p => ?_
  · obtain ⟨s1, rs, h1, f1⟩ := p
    have hin : i < names.length := by rw [← nV_len]; exact (List.getElem?_eq_some_iff.mp hi).1
    refine ⟨rfl, ?_⟩
    refine r_tYes ?_
    refine iteT ?_
    walk_at "go"
    refine ⟨by show 0 ≤ sizeLine; decide, fun r hr1 => ?_⟩
    have s2 := same_new (o := .lst []) hr1
    have rD : r ≠ D := fun z => by rw [z, h1.d] at hr1; cases hr1
    refine ⟨_, s2 _ _ h1.d, by rw [row_len]; exact Nat.lt_of_le_of_lt (m := 6) (by omega) (by decide), Same.upd2 (s1.trans s2) hD, fun j => if j = i then r else rs j, ⟨?_, fun j hj => ?_, fun j hj m hm e => ?_, fun j hj => ?_⟩, fun j hj => ?_⟩
    · rw [upd_same, row_succ]
      try dsimp only
      rw [if_pos rfl]
      congr 3
      refine row_congr fun j hj => ?_
      rw [if_neg (by omega)]
    · try dsimp only
      by_cases e : j = i
      · subst e
        rw [if_pos rfl, upd_ne rD, upd_same]
        rfl
      · rw [if_neg e, upd_ne (h1.ne j (by omega))]
        exact s2 _ _ (h1.r j (by omega))
    · have nr : ∀ j, j < i → rs j ≠ r := fun j hj z => by
        have := h1.r j hj
        rw [z, hr1] at this
        cases this
      try dsimp only at e
      by_cases e1 : j = i
      · by_cases e2 : m = i
        · omega
        · rw [if_pos e1, if_neg e2] at e
          exact absurd e.symm (nr m (by omega))
      · by_cases e2 : m = i
        · rw [if_neg e1, if_pos e2] at e
          exact absurd e (nr j (by omega))
        · rw [if_neg e1, if_neg e2] at e
          exact h1.inj j (by omega) m (by omega) e
    · try dsimp only
      by_cases e : j = i
      · rw [if_pos e]; exact rD
      · rw [if_neg e]; exact h1.ne j (by omega)
    · try dsimp only
      by_cases e : j = i
      · rw [if_pos e]; exact none_of_same s1 hr1
      · rw [if_neg e]; exact f1 j (by omega)
  · obtain ⟨s1, rs, h1, f1⟩ := p
    rw [nV_len] at h1 f1
    have hra : ∀ j, j < names.length → rs j ≠ a := fun j hj z => by
      have := f1 j hj
      rw [z, ha] at this
      cases this
    have hrb : ∀ j, j < names.length → rs j ≠ b := fun j hj z => by
      have := f1 j hj
      rw [z, hb] at this
      cases this
    walk_at "go"
    refine r_lstK (SqL.of (s1 _ _ hb)) ?_
    refine r_forL (xs := nV names) (fun i σ H' => ∃ v3, σ = [some (.ref a), some (.ref b), some (.ref D), v3, none] ∧ SameBut a H H' ∧ (∃ ns' : List Int, H' a = some (.lst (ns'.map V.int)) ∧ ns'.length ≤ ns.length) ∧ ∃ R : Nat → List Nat, RowsAt H' D names.length rs R ∧ (∀ j, (R j).Sublist (names.take i)) ∧ (((List.range names.length).map R).flatten).Perm (names.take i))
      ⟨none, rfl, SameBut.of s1, ⟨ns, s1 _ _ ha, Nat.le_refl _⟩, _, h1, fun j => List.nil_sublist _, by rw [List.take_zero]; simp⟩ (fun i σ H' hi p => SqL.of (p.choose_spec.2.1 _ _ hba hb)) ?_ ?_
    · rintro i x σ H2 hx ⟨v3, rfl, s2, ⟨ns2, h2, l2⟩, R, hR, sub, pm⟩
      obtain ⟨c, hc, rfl⟩ := nV_at hx
      have etk : names.take (i + 1) = names.take i ++ [c] := by rw [List.take_add_one, hc]; rfl
      walk_at "go"
      refine r_lenL (SqL.of (s2 _ _ hba hb)) ?_
      rw [nV_len]
      walk_at "go"
      refine ⟨a, ns2, names.length, rfl, h2, by omega, by omega, fun r ns3 H3 r0 rn l3 h3 s3 => ?_⟩
      obtain ⟨r', rfl⟩ : ∃ r' : Nat, r = (r' : Int) := ⟨r.toNat, by omega⟩
      have hr' : r' < names.length := by omega
      have hR3 := hR.but s3 hDa hra
      refine r_ixL (v := .ref (rs r')) (SqL.of hR3.d) (atI_nat (row_at _ hr')) ?_
      refine r_tyL (SqL.of (hR3.r r' hr')) ?_
      walk_at "go"
      have hlen : (R r').length ≤ 6 := by
        have := (sub r').length_le
        rw [List.length_take] at this
        omega
      refine r_app (hR3.r r' hr') (Nat.lt_of_le_of_lt (m := 6) (by rw [nV_len]; exact hlen) (by decide)) ?_
      refine ⟨_, rfl, (s2.trans s3).mut (f1 r' hr'), ⟨ns3, by rw [upd_ne (Ne.symm (hra r' hr'))]; exact h3, by omega⟩, _, hR3.app hr', fun j => ?_, ?_⟩
      · rw [etk]
        try dsimp only
        by_cases e : j = r'
        · rw [if_pos e]
          exact (sub j).append (List.Sublist.refl _)
        · rw [if_neg e]
          exact (sub j).trans (List.sublist_append_left _ _)
      · rw [etk]
        exact (dist_perm hr').trans (pm.append_right _)
    · rintro σ H2 ⟨v3, rfl, s2, ⟨ns2, h2, l2⟩, R, hR, sub, pm⟩
      rw [nV_len, List.take_length] at sub pm
      walk_at "go"
      refine r_lstK (SqL.of hR.d) ?_
      intro E9 hE
      have hEa : E9 ≠ a := fun z => by rw [z, h2] at hE; cases hE
      refine lc_list (xs := row names.length fun j => V.ref (rs j)) (fun i H' => Same H2 H' ∧ ∃ ys, H' E9 = some (.lst ys) ∧ ItemsAt H' ys (((List.range i).map R).filter fun l => !l.isEmpty))
        ⟨same_new hE, [], upd_same, rfl, fun i y b hy => by simp at hy⟩ (fun i H' _ p => p.1.seq (SqL.of hR.d)) (fun i x H3 hx p => ?_) fun H3 p => ?_
      · obtain ⟨s3, ys, hys, hI⟩ := p
        have hin : i < names.length := by have := (List.getElem?_eq_some_iff.mp hx).1; rwa [row_len] at this
        rw [row_at _ hin] at hx
        cases hx
        have hri := s3 _ _ (hR.r i hin)
        have esucc : (List.range (i + 1)).map R = (List.range i).map R ++ [R i] := by rw [List.range_succ, List.map_append]; rfl
        refine ⟨rfl, ?_⟩
        walk_at "go"
        refine r_lenL (SqL.of hri) ?_
        rw [nV_len]
        walk_at "go"
        have hle : ys.length ≤ names.length := by
          rw [hI.1]
          refine Nat.le_trans (List.length_filter_le _ _) ?_
          rw [List.length_map, List.length_range]
          omega
        refine iteB (fun e => ?_) fun e => ?_
        · have e := of_decide_eq_true e
          have hne : (R i).isEmpty = false := by
            cases h : R i with
            | nil => rw [h] at e; simp at e
            | cons => rfl
          walk_at "go"
          refine r_tupL (SqL.of hri) fun t ht => ?_
          have s4 := same_new (o := .tup (nV (R i))) ht
          have tE : t ≠ E9 := fun z => by rw [z, hys] at ht; cases ht
          refine ⟨ys, s4 _ _ hys, Nat.lt_of_le_of_lt (m := 6) (by omega) (by decide), Same.upd2 (s3.trans s4) hE, ys ++ [.ref t], upd_same, ?_⟩
          rw [esucc, List.filter_append]
          have ef : [R i].filter (fun l => !l.isEmpty) = [R i] := by simp [hne]
          rw [ef]
          refine ItemsAt.snoc ?_ (by rw [upd_ne tE]; exact upd_same)
          exact (hI.keep s4).but (s4 _ _ hys) fun b u nb z => by rw [upd_ne nb]; exact z
        · have e := of_decide_eq_false e
          have hne : R i = [] := by
            cases h : R i with
            | nil => rfl
            | cons => rw [h] at e; simp at e
          refine ⟨s3, ys, hys, ?_⟩
          rw [esucc, List.filter_append, hne]
          simpa using hI
      · obtain ⟨s3, ys, hys, hI⟩ := p
        rw [row_len] at hI
        have hE0 : H E9 = none := s2.none_ hE hEa
        refine k E9 _ ns2 H3 (fun b hb z => ?_) ?_ (fun b hb => ?_) l2 (s3 _ _ h2) (s2.trans (SameBut.of s3)) hE0 ⟨ys, hys, hI⟩
        · have := (List.mem_filter.mp hb).2
          rw [z] at this
          cases this
        · rw [flat_ne]
          exact pm
        · obtain ⟨j, _, rfl⟩ := List.mem_map.mp (List.mem_filter.mp hb).1
          exact sub j
end
end K8
namespace K8
open PySem L2 Er K7M
/-- one step of a plain reading -/
local macro_rules | `(tactic| walk_at "step") => `(tactic| first
  | with_reducible refine r_seq ?_ | with_reducible refine r_nx ?_ | with_reducible refine r_asgN ?_ | with_reducible refine r_asgS ?_ | with_reducible refine r_asgT ?_ | with_reducible refine r_ifS ?_
  | with_reducible refine r_ret ?_ | with_reducible refine r_retN ?_ | with_reducible refine r_drop ?_ | with_reducible refine r_test ?_ | with_reducible refine r_B ?_ | with_reducible refine r_not ?_
  | with_reducible refine r_and ?_ | with_reducible refine r_or ?_ | with_reducible refine r_andV ?_ | with_reducible refine r_orV ?_ | with_reducible refine r_notV ?_
  | ((with_reducible refine' r_var ?e ?_); (case e => exact rfl)) | with_reducible refine r_c ?_ | with_reducible refine r_op ?_ | with_reducible refine r_un ?_
  | with_reducible refine r_I0 ?_ | with_reducible refine r_eqI ?_ | with_reducible refine r_neI ?_ | with_reducible refine r_bl ?_ | with_reducible refine r_nil ?_ | with_reducible refine r_cons ?_
  | with_reducible refine r_cb ?_ | with_reducible refine r_call ?_ | with_reducible refine r_tup ?_ | with_reducible refine r_lst ?_ | with_reducible refine r_fld ?_ | with_reducible refine r_bm ?_ | with_reducible refine r_bm0 ?_
  | with_reducible refine r_for ?_ | with_reducible refine r_rng ?_ | with_reducible refine r_rng2 ?_ | with_reducible refine r_lstI ?_ | with_reducible refine r_tupI ?_ | with_reducible refine r_lc ?_
  | with_reducible refine r_augS ?_ | with_reducible refine r_ipI ?_
  | with_reducible refine r_meth ?_ | with_reducible refine r_prop ?_ | with_reducible refine r_make ?_ | with_reducible refine r_din ?_ | with_reducible refine r_dnin ?_ | with_reducible refine r_dput ?_ | with_reducible refine r_dget ?_
  | with_reducible refine r_gN ?_ | with_reducible refine r_tsl ?_ | with_reducible refine r_noP ?_ | with_reducible refine r_part ?_ | with_reducible refine r_pI ?_ | with_reducible refine r_tif ?_ | with_reducible refine r_SL ?_ | with_reducible refine r_gC ?_ | with_reducible refine r_U ?_ | with_reducible refine r_sfld ?_ | with_reducible refine r_dnew ?_ | with_reducible refine r_keys ?_
  | with_reducible refine r_mkE ?_ | with_reducible refine iteT ?_ | with_reducible refine iteF ?_
  | with_reducible refine r_int ?_ | with_reducible refine r_min2 ?_ | with_reducible refine r_isN ?_ | with_reducible refine r_notN ?_)
/-- as far as it goes by itself -/
local macro_rules | `(tactic| walk_at "go") => `(tactic| ((repeat walk_at "step"); (try dsimp only)))

abbrev sLDue : Stmt := top 28
theorem due_snoc (n : Nat) : ∀ (bs : List (List Nat)) (D b : List Nat), dueOf n D (bs ++ [b]) = dueOf n D bs ++ b.map fun c => (c, both n (D ++ bs.flatten) b)
  | [], D, b => by simp [dueOf]
  | d :: bs, D, b => by
    show _ ++ dueOf n (D ++ d) (bs ++ [b]) = (_ ++ dueOf n (D ++ d) bs) ++ _
    rw [due_snoc n bs (D ++ d) b]
    simp only [List.append_assoc, List.flatten_cons]
theorem due_fst (n : Nat) : ∀ (bs : List (List Nat)) (D : List Nat), (dueOf n D bs).map (·.1) = bs.flatten
  | [], _ => rfl
  | b :: bs, D => by
    show (_ ++ dueOf n (D ++ b) bs).map _ = _
    rw [List.map_append, due_fst n bs, List.map_map, List.flatten_cons]
    congr 1
    show b.map (fun c => c) = b
    exact List.map_id' b
theorem both_order {n : Nat} {D b : List Nat} : both n D b = inOrder n (D ++ b) := List.filter_congr fun j _ => decide_eq_decide.mpr List.mem_append.symm
theorem PairsAt.snoc {H : Hp} {ys : List V} {ls : List (Nat × List Nat)} {y : V} {il : Nat × List Nat} (h : PairsAt H ys ls) (hy : PairAt H y il) : PairsAt H (ys ++ [y]) (ls ++ [il]) := by
  refine ⟨by rw [List.length_append, List.length_append, h.1]; rfl, fun i z c h1 h2 => ?_⟩
  rcases Nat.lt_or_ge i ys.length with hi | hi
  · rw [List.getElem?_append_left hi] at h1
    rw [List.getElem?_append_left (by rw [← h.1]; exact hi)] at h2
    exact h.2 i z c h1 h2
  · rw [List.getElem?_append_right hi] at h1
    rw [List.getElem?_append_right (by rw [← h.1]; exact hi)] at h2
    rw [h.1] at h1
    rcases Nat.eq_zero_or_pos (i - ls.length) with w | w
    · rw [w] at h1 h2
      cases h1
      cases h2
      exact hy
    · rw [List.getElem?_eq_none (by show 1 ≤ _; omega)] at h1
      cases h1
theorem PairsAt.keep {H H' : Hp} {ys : List V} {ls : List (Nat × List Nat)} (h : PairsAt H ys ls) (s : Same H H') : PairsAt H' ys ls := ⟨h.1, fun i y il h1 h2 => (h.2 i y il h1 h2).keep s⟩
theorem PairsAt.but {H H' : Hp} {ys : List V} {ls : List (Nat × List Nat)} {D : Addr} {zs : List V} (hD : H D = some (.lst zs)) (s : ∀ b u, b ≠ D → H b = some u → H' b = some u) (h : PairsAt H ys ls) : PairsAt H' ys ls := ⟨h.1, fun i y il h1 h2 => (h.2 i y il h1 h2).but hD s⟩
abbrev unNP (t : NP) : Nat × List Nat := (t.c, t.l)
theorem np_of {H : Hp} : ∀ {ys : List V} {ls : List (Nat × List Nat)}, PairsAt H ys ls → ∃ ts : List NP, refsN ts = ys ∧ ts.map unNP = ls ∧ ∀ t ∈ ts, PairAt H (.ref t.p) (unNP t)
  | [], [], _ => ⟨[], rfl, rfl, fun t h => by cases h⟩
  | [], _ :: _, h => by cases h.1
  | _ :: _, [], h => by cases h.1
  | y :: ys, (c, l) :: ls, h => by
    obtain ⟨p, r, rfl, a1, a2⟩ := h.2 0 y (c, l) rfl rfl
    obtain ⟨ts, e1, e2, h3⟩ := np_of (ys := ys) (ls := ls) ⟨Nat.succ.inj h.1, fun i y' il h1 h2 => h.2 (i + 1) y' il h1 h2⟩
    refine ⟨⟨p, c, l⟩ :: ts, by unfold refsN at e1 ⊢; rw [List.map_cons, e1], by rw [List.map_cons, e2], fun t ht => ?_⟩
    rcases List.mem_cons.mp ht with rfl | ht
    · exact ⟨p, r, rfl, a1, a2⟩
    · exact h3 t ht
theorem np_dp {K : PySem.W.Frag} {H : Hp} {t : NP} (h : PairAt H (.ref t.p) (unNP t)) : Dp K H (.ref t.p) t.enc := by
  obtain ⟨p, r, e, h1, h2⟩ := h
  cases e
  exact .tup (SqT.of h1) (.cons (.int _) (.cons (dp_tupN (SqT.of h2)) .nil))
theorem np_pairs {H : Hp} : ∀ {ts : List NP}, (∀ t ∈ ts, PairAt H (.ref t.p) (unNP t)) → PairsAt H (refsN ts) (ts.map unNP) := fun {ts} h => by
  refine ⟨by unfold refsN; rw [List.length_map, List.length_map], fun i y il h1 h2 => ?_⟩
  unfold refsN at h1
  rw [List.getElem?_map] at h1 h2
  cases e : ts[i]? with
  | none => rw [e] at h1; cases h1
  | some t =>
    rw [e] at h1 h2
    cases h1
    cases h2
    exact h t (List.mem_of_getElem? e)
/-- a tuple of pairs -/
def PairsT (H : Hp) (t : Addr) (ls : List (Nat × List Nat)) : Prop := ∃ ys, H t = some (.tup ys) ∧ PairsAt H ys ls
theorem PairsT.keep {H H' : Hp} {t : Addr} {ls : List (Nat × List Nat)} (h : PairsT H t ls) (s : Same H H') : PairsT H' t ls := by
  obtain ⟨ys, h1, h2⟩ := h
  exact ⟨ys, s _ _ h1, h2.keep s⟩
theorem PairsT.but {H H' : Hp} {t a : Addr} {ls : List (Nat × List Nat)} {zs : List V} (h : PairsT H t ls) (s : SameBut a H H') (ha : H a = some (.lst zs)) : PairsT H' t ls := by
  obtain ⟨ys, h1, h2⟩ := h
  exact ⟨ys, s _ _ (ne_of h1 ha (by intro z; cases z)) h1, h2.but ha fun b u nb z => s b u nb z⟩
def spLDue (K : PySem.W.Frag) : Sp := fun vs H Q _ => ∃ (p : Addr) (bs : List (List Nat)) (n : Nat), vs = [.ref p] ∧ LBlk H p bs ∧ Told n [] bs ∧ n ≤ 6 ∧
  ∀ t ls H', ls.Perm (dueOf n [] bs) → ls.Pairwise (fun x y => x.1 ≤ y.1) → Same H H' → PairsT H' t ls → Q (.ref t) H'
theorem told_len {n : Nat} {bs : List (List Nat)} (T : Told n [] bs) : bs.flatten.length ≤ n := small_flat (by simpa using T.nd) fun c hc => by
  obtain ⟨b, hb, hc⟩ := List.mem_flatten.mp hc
  exact T.sub b hb c hc
section
variable {P : Program} {w : World} {K : PySem.W.Frag} {mg : Str → Option Value} {base : Heap} {CN CB CL CR : Addr}
theorem scLDue : FnScope ["_law_blocks_here", "_law_seen", "_law_pairs", "_law_block", "_law_name"] ["_law_blocks_here"] (defScope sLDue) := ⟨rfl, rfl, rfl, by decide +kernel, rfl, by decide +kernel, by decide +kernel⟩
theorem ok_due {f : Addr} {fd : FuncData} (F : Fun K "_law_due" "_law_due" sLDue f fd) (m_list : mg "list" = none) (m_tuple : mg "tuple" = none) (m_sorted : mg "sorted" = none) : FnOk P w K mg base (L2.CX P w) 1 f fd ["_law_blocks_here"] (spLDue K) := by
  refine F.okX scLDue (fun vs H Q E h => ?_) (fun cdv A outer s H vs Q E hr h => ?_)
  · obtain ⟨p, bs, n, rfl, _⟩ := h
    rfl
  obtain ⟨p, bs, n, rfl, ⟨xs, hp, hI⟩, T, n6, k⟩ := h
  have sc := scLDue
  have hu := hu_of hr
  refine ⟨_, (pss_cons (ps_set (i := 1) sc.nd rfl (Or.inl rfl) (pe_lst pa_nil))
      (pss_cons (ps_set (i := 2) sc.nd rfl (Or.inl rfl) (pe_lst pa_nil))
      (pss_cons (ps_for (passes_of rfl) rfl (pi_list (pv 0)) (pg_name (i := 3) sc.nd rfl (Or.inl rfl)) (pss_cons (ps_set (i := 1) sc.nd rfl (Or.inl rfl) (pe_op op_cat (pv 1) (pe_callTy c_list (by rfl) m_list (by decide +kernel) (pa_cons (pv 3) pa_nil))))
      (pss_one (ps_for (passes_of rfl) rfl (pi_tup (pv 3)) (pg_name (i := 4) sc.nd rfl (Or.inl rfl)) (pss_one (ps_expr (pe_bm PySem.F.plainAttrs_list PySem.F.slot_list_append PySem.F.type_list_append mt_append (pv 2) (pa_cons (pe_tup (pa_cons (pv 4) (pa_cons (pe_callTy c_tuple (by rfl) m_tuple (by decide +kernel) (pa_cons (pe_callB cr_sorted (by rfl) m_sorted (by decide +kernel) (pa_cons (pv 1) pa_nil)) pa_nil)) pa_nil))) pa_nil))))))))
      (pss_one (ps_ret (pe_callTy c_tuple (by rfl) m_tuple (by decide +kernel) (pa_cons (pe_callB (c_sortNP hr.units) (by rfl) m_sorted (by decide +kernel) (pa_cons (pv 2) pa_nil)) pa_nil))))))), ?_⟩
  have hf6 := told_len T
  have hT : bs.flatten.Nodup := by simpa using T.nd
  have hne : ∀ b ∈ bs, b ≠ [] := fun b hb z => by
    have := T.ne b hb
    rw [z] at this
    simp at this
  have hn6 := len_flat bs hne
  walk_at "go"
  refine ⟨by show 0 ≤ sizeLine; decide, fun p1 hp1 => ?_⟩
  have s1 := same_new (o := .lst []) hp1
  walk_at "go"
  refine ⟨by show 0 ≤ sizeLine; decide, fun D hD => ?_⟩
  have hD0 : H D = none := none_of_same s1 hD
  have s2 := s1.trans (same_new (o := .lst []) hD)
  have h1 : (upd (upd H p1 (.lst [])) D (.lst [])) p1 = some (.lst (nV [])) := (same_new hD) _ _ upd_same
  have h2 : (upd (upd H p1 (.lst [])) D (.lst [])) D = some (.lst []) := upd_same
  generalize upd (upd H p1 (.lst [])) D (.lst []) = H2 at s2 h1 h2 ⊢
  walk_at "go"
  refine r_lstK (SqL.of (s2 _ _ hp)) ?_
  refine r_forL (xs := xs) (fun i σ H' => ∃ p1 v3 v4 ys, σ = [some (.ref p), some (.ref p1), some (.ref D), v3, v4] ∧ Same H H' ∧ H' p1 = some (.lst (nV (bs.take i).flatten)) ∧ H' D = some (.lst ys) ∧ PairsAt H' ys (dueOf n [] (bs.take i)))
    ⟨p1, none, none, [], rfl, s2, h1, h2, rfl, fun i y il hy => by simp at hy⟩ (fun i σ H' hi q => SqL.of (q.choose_spec.choose_spec.choose_spec.choose_spec.2.1 _ _ hp)) ?_ ?_
  · rintro i x σ H3 hx ⟨p1, v3, v4, ys, rfl, s3, hp1, hD3, hP⟩
    have hib : i < bs.length := by rw [← hI.1]; exact (List.getElem?_eq_some_iff.mp hx).1
    obtain ⟨b, hbi⟩ : ∃ b, bs[i]? = some b := ⟨bs[i], List.getElem?_eq_getElem hib⟩
    obtain ⟨r, rfl, hr0⟩ := hI.2 i x b hx hbi
    have etk : bs.take (i + 1) = bs.take i ++ [b] := by rw [List.take_add_one, hbi]; rfl
    have hfl2 : (bs.take (i + 1)).flatten = (bs.take i).flatten ++ b := by rw [etk, List.flatten_append]; simp
    have hsub := take_flat bs (i + 1)
    have hle := hsub.length_le
    have hnd1 := hsub.nodup hT
    have hlt1 : ∀ c ∈ (bs.take (i + 1)).flatten, c < n := fun c hc => by
      obtain ⟨b', hb', hc⟩ := List.mem_flatten.mp hc
      exact T.sub b' (List.mem_of_mem_take hb') c hc
    have hdue : dueOf n [] (bs.take (i + 1)) = dueOf n [] (bs.take i) ++ b.map fun c => (c, both n (bs.take i).flatten b) := by rw [etk, due_snoc, List.nil_append]
    rw [hfl2] at hle hnd1 hlt1
    have hle2 := hle
    rw [List.length_append] at hle2
    walk_at "go"
    refine r_listO (.inr (SqT.of (s3 _ _ hr0))) fun lb hlb => ?_
    walk_at "go"
    refine r_catL ((same_new hlb) _ _ hp1) upd_same (by rw [nV_len, nV_len]; omega) fun q1 hq1 => ?_
    rw [← nV_append]
    have lbD : lb ≠ D := fun z => by rw [z, hD3] at hlb; cases hlb
    have hq1' := none_of_upd hq1
    have q1D : q1 ≠ D := fun z => by rw [z, hD3] at hq1'; cases hq1'
    have s4 := (same_new (o := .lst (nV b)) hlb).trans (same_new (o := .lst (nV ((bs.take i).flatten ++ b))) hq1)
    have hD4 := s4 _ _ hD3
    have hP4 := hP.keep s4
    have hq4 : (upd (upd H3 lb (.lst (nV b))) q1 (.lst (nV ((bs.take i).flatten ++ b)))) q1 = some (.lst (nV ((bs.take i).flatten ++ b))) := upd_same
    have s04 := s3.trans s4
    generalize upd (upd H3 lb (.lst (nV b))) q1 (.lst (nV ((bs.take i).flatten ++ b))) = H4 at hD4 hP4 hq4 s04 ⊢
    clear s4
    walk_at "go"
    refine r_tupK (SqT.of (s04 _ _ hr0)) ?_
    have lenD : ∀ j, (dueOf n [] (bs.take j)).length ≤ 6 := fun j => by
      have e := congrArg List.length (due_fst n (bs.take j) [])
      rw [List.length_map] at e
      rw [e]
      have := (take_flat bs j).length_le
      omega
    refine r_forT (xs := nV b) (fun m σ H' => ∃ v4 ys, σ = [some (.ref p), some (.ref q1), some (.ref D), some (.ref r), v4] ∧ Same H H' ∧ H' q1 = some (.lst (nV ((bs.take i).flatten ++ b))) ∧ H' D = some (.lst ys) ∧ PairsAt H' ys (dueOf n [] (bs.take i) ++ (b.take m).map fun c => (c, both n (bs.take i).flatten b)))
      ⟨v4, ys, rfl, s04, hq4, hD4, by simpa using hP4⟩ (fun m σ H' hm q => SqT.of (q.choose_spec.choose_spec.2.1 _ _ hr0)) ?_ ?_
    · rintro m y σ H5 hy ⟨v4, ys, rfl, s5, hq5, hD5, hP5⟩
      obtain ⟨c, hc, rfl⟩ := nV_at hy
      have hm : m < b.length := (List.getElem?_eq_some_iff.mp hc).1
      have et2 : b.take (m + 1) = b.take m ++ [c] := by rw [List.take_add_one, hc]; rfl
      walk_at "go"
      refine r_tyL (SqL.of hD5) ?_
      walk_at "go"
      have pm := perm_inOrder hnd1 hlt1
      rw [ints_nV] at hq5
      refine r_sorted (ks := ((bs.take i).flatten ++ b).map fun (i : Nat) => (i : Int)) (ss := (inOrder n ((bs.take i).flatten ++ b)).map fun (i : Nat) => (i : Int)) (SqL.of hq5) ?_ (pm.map _) (range_up _ _) fun p5 hp5 => ?_
      · rw [List.length_map]
        omega
      rw [← ints_nV] at hq5 ⊢
      walk_at "go"
      refine r_tupL (SqL.of upd_same) fun t6 ht6 => ?_
      walk_at "go"
      refine ⟨by show 2 ≤ sizeLine; decide, fun t7 ht7 => ?_⟩
      walk_at "go"
      have s6 := (same_new (o := .lst (nV (inOrder n ((bs.take i).flatten ++ b)))) hp5).trans (same_new (o := .tup (nV (inOrder n ((bs.take i).flatten ++ b)))) ht6)
      have s7 := s6.trans (same_new (o := .tup [.int (c : Int), .ref t6]) ht7)
      have hy7 : PairAt (upd (upd (upd H5 p5 (.lst (nV (inOrder n ((bs.take i).flatten ++ b))))) t6 (.tup (nV (inOrder n ((bs.take i).flatten ++ b))))) t7 (.tup [.int (c : Int), .ref t6])) (.ref t7) (c, both n (bs.take i).flatten b) :=
        ⟨t7, t6, rfl, upd_same, by rw [both_order]; exact (same_new ht7) _ _ upd_same⟩
      have hD7 := s7 _ _ hD5
      have hq7 := s7 _ _ hq5
      have hP7 := (hP5.keep s7).snoc hy7
      have s57 := s5.trans s7
      generalize upd (upd (upd H5 p5 _) t6 _) t7 _ = H7 at hy7 hD7 hq7 hP7 s57 ⊢
      have hyl : ys.length ≤ 12 := by
        rw [hP5.1, List.length_append, List.length_map, List.length_take]
        have := lenD i
        omega
      refine r_app hD7 (Nat.lt_of_le_of_lt (m := 12) hyl (by decide)) ?_
      refine ⟨_, ys ++ [.ref t7], rfl, Same.upd2 s57 hD0, ?_, upd_same, ?_⟩
      · rw [upd_ne (fun z => q1D z)]
        exact hq7
      · rw [et2, List.map_append, ← List.append_assoc]
        exact hP7.but hD7 fun b u nb z => by rw [upd_ne nb]; exact z
    · rintro σ H5 ⟨v4, ys, rfl, s5, hq5, hD5, hP5⟩
      rw [nV_len, List.take_length] at hP5
      exact ⟨q1, _, _, ys, rfl, s5, by rw [hfl2]; exact hq5, hD5, by rw [hdue]; exact hP5⟩
  · rintro σ H3 ⟨p1, v3, v4, ys, rfl, s3, hp1, hD3, hP⟩
    rw [hI.1, List.take_length] at hP
    walk_at "go"
    obtain ⟨ts, rfl, ets, hts⟩ := np_of hP
    have hlen : ts.length ≤ 1000 := by
      have e := congrArg List.length ets
      have e2 := congrArg List.length (due_fst n bs [])
      rw [List.length_map] at e e2
      omega
    refine ⟨D, ts, rfl, SqL.of hD3, fun t ht => np_dp (hts t ht), hlen, fun q ts' pm up hq => ?_⟩
    walk_at "go"
    refine r_tupL (SqL.of upd_same) fun t ht => ?_
    have s4 := (same_new (o := .lst (refsN ts')) hq).trans (same_new (o := .tup (refsN ts')) ht)
    refine k t (ts'.map unNP) _ ?_ ?_ (s3.trans s4) ⟨_, upd_same, np_pairs fun t' ht' => (hts t' (pm.mem_iff.mp ht')).keep s4⟩
    · rw [← ets]
      exact pm.map _
    · exact List.pairwise_map.mpr up
end
end K8
namespace K8
open PySem L2 Er K7M
/-- one step of a plain reading -/
local macro_rules | `(tactic| walk_at "step") => `(tactic| first
  | with_reducible refine r_seq ?_ | with_reducible refine r_nx ?_ | with_reducible refine r_asgN ?_ | with_reducible refine r_asgS ?_ | with_reducible refine r_asgT ?_ | with_reducible refine r_ifS ?_
  | with_reducible refine r_ret ?_ | with_reducible refine r_retN ?_ | with_reducible refine r_drop ?_ | with_reducible refine r_test ?_ | with_reducible refine r_B ?_ | with_reducible refine r_not ?_
  | with_reducible refine r_and ?_ | with_reducible refine r_or ?_ | with_reducible refine r_andV ?_ | with_reducible refine r_orV ?_ | with_reducible refine r_notV ?_
  | ((with_reducible refine' r_var ?e ?_); (case e => exact rfl)) | with_reducible refine r_c ?_ | with_reducible refine r_op ?_ | with_reducible refine r_un ?_
  | with_reducible refine r_I0 ?_ | with_reducible refine r_eqI ?_ | with_reducible refine r_neI ?_ | with_reducible refine r_bl ?_ | with_reducible refine r_nil ?_ | with_reducible refine r_cons ?_
  | with_reducible refine r_cb ?_ | with_reducible refine r_call ?_ | with_reducible refine r_tup ?_ | with_reducible refine r_lst ?_ | with_reducible refine r_fld ?_ | with_reducible refine r_bm ?_ | with_reducible refine r_bm0 ?_
  | with_reducible refine r_for ?_ | with_reducible refine r_rng ?_ | with_reducible refine r_rng2 ?_ | with_reducible refine r_lstI ?_ | with_reducible refine r_tupI ?_ | with_reducible refine r_lc ?_
  | with_reducible refine r_augS ?_ | with_reducible refine r_ipI ?_
  | with_reducible refine r_meth ?_ | with_reducible refine r_prop ?_ | with_reducible refine r_make ?_ | with_reducible refine r_din ?_ | with_reducible refine r_dnin ?_ | with_reducible refine r_dput ?_ | with_reducible refine r_dget ?_
  | with_reducible refine r_gN ?_ | with_reducible refine r_tsl ?_ | with_reducible refine r_noP ?_ | with_reducible refine r_part ?_ | with_reducible refine r_pI ?_ | with_reducible refine r_tif ?_ | with_reducible refine r_SL ?_ | with_reducible refine r_gC ?_ | with_reducible refine r_U ?_ | with_reducible refine r_sfld ?_ | with_reducible refine r_dnew ?_ | with_reducible refine r_keys ?_
  | with_reducible refine r_mkE ?_ | with_reducible refine iteT ?_ | with_reducible refine iteF ?_
  | with_reducible refine r_int ?_ | with_reducible refine r_min2 ?_ | with_reducible refine r_isN ?_ | with_reducible refine r_notN ?_)
/-- as far as it goes by itself -/
local macro_rules | `(tactic| walk_at "go") => `(tactic| ((repeat walk_at "step"); (try dsimp only)))

abbrev sOwn : Stmt := top 29
/-- the law's own run, under way -/
structure OwnI (H0 : Hp) (B : LS) (cl d : Addr) (n : Nat) (S : Sys) (g : List Nat) (H : Hp) : Prop where
  st : StAt H B n S
  ncl : cl ∉ B.foot n
  new : ∀ b ∈ B.foot n, H0 b = none
  ce : H cl = some (.lst (cellsOf n S))
  dk : DictAt H d g fun j => (S j).rd
  same : Same H0 H
theorem OwnI.dno {H0 H : Hp} {B : LS} {cl d n : Nat} {S : Sys} {g : List Nat} (R : OwnI H0 B cl d n S g H) : d ∉ cl :: B.foot n := fun z => by
  obtain ⟨ls, h1, _⟩ := R.dk
  rcases List.mem_cons.mp z with rfl | z
  · rw [R.ce] at h1; cases h1
  · obtain ⟨xs, hx⟩ := R.st.some_ z
    rw [hx] at h1; cases h1
theorem OwnI.notup {H0 H : Hp} {B : LS} {cl d n : Nat} {S : Sys} {g : List Nat} (R : OwnI H0 B cl d n S g H) : ∀ b ∈ cl :: B.foot n, ∀ xs, H b ≠ some (.tup xs) := fun b hb xs e => by
  rcases List.mem_cons.mp hb with rfl | hb
  · rw [R.ce] at e; cases e
  · obtain ⟨ys, hy⟩ := R.st.some_ hb
    rw [hy] at e; cases e
theorem OwnI.step {H0 H H' : Hp} {B B' : LS} {cl d n c : Nat} {S : Sys} {g : List Nat} {x : NS} (R : OwnI H0 B cl d n S g H) (hcl : H0 cl = none) (hg : c ∉ g) (st : StAt H' B' n (K7M.put S c x)) (ce : H' cl = some (.lst (cellsOf n (K7M.put S c x))))
    (k : Kept (cl :: B.foot n) H H') (fr : ∀ b ∈ B'.foot n, b ∈ B.foot n ∨ H b = none) : OwnI H0 B' cl d n (K7M.put S c x) g H' := by
  refine ⟨st, fun z => ?_, fun b hb => ?_, ce, R.dk.kept k R.dno R.notup fun j hj => ?_, k.same (fun b hb => ?_) R.same⟩
  · rcases fr _ z with z | z
    · exact R.ncl z
    · rw [R.ce] at z; cases z
  · rcases fr _ hb with z | z
    · exact R.new _ z
    · exact none_of_same R.same z
  · have h : j ≠ c := fun z => hg (z ▸ hj)
    show (K7M.put S c x j).rd = (S j).rd
    rw [put_ne S _ h]
  · rcases List.mem_cons.mp hb with rfl | hb
    · exact hcl
    · exact R.new _ hb
theorem OwnI.leave {H0 H : Hp} {B : LS} {cl d n c : Nat} {S : Sys} {g : List Nat} {ls : Nat → Addr} {t : Addr} (R : OwnI H0 B cl d n S g H) (hd0 : H0 d = none) (hg : c ∉ g) (h1 : H d = some (.dK (kvOf g ls))) (h2 : ∀ j ∈ g, H (ls j) = some (.tup (nV (S j).rd))) (ht : H t = some (.tup (nV (S c).rd))) :
    OwnI H0 B cl d n S (g ++ [c]) (upd H d (.dK (kvOf g ls ++ [(Sum.inl (c : Int), V.ref t)]))) := by
  have nd := R.dno
  refine ⟨R.st.kept (F := [d]) ((Kept.refl _ _).mut (by simp)) fun b hb z => nd (by rw [← List.mem_singleton.mp z]; exact List.mem_cons_of_mem _ hb), R.ncl, R.new, ?_, dict_put h1 h2 hg ht, Same.upd2 R.same hd0⟩
  rw [upd_ne fun z => nd (by rw [← z]; exact List.mem_cons_self ..)]
  exact R.ce
theorem OwnI.more {H0 H H' : Hp} {B : LS} {cl d n : Nat} {S : Sys} {g : List Nat} (R : OwnI H0 B cl d n S g H) (s : Same H H') : OwnI H0 B cl d n S g H' := by
  obtain ⟨ls, h1, h2⟩ := R.dk
  exact ⟨R.st.keep s, R.ncl, R.new, s _ _ R.ce, ⟨ls, s _ _ h1, fun j hj => s _ _ (h2 j hj)⟩, R.same.trans s⟩
/-- [name, look, steps] -/
def LeftAt (H : Hp) (z : V) (c : Nat) (x : NS) : Prop := ∃ q r, z = .ref q ∧ H q = some (.lst [.int (c : Int), .ref r, .int (x.cnt : Int)]) ∧ H r = some (.tup (nV x.rd))
theorem LeftAt.keep {H H' : Hp} {z : V} {c : Nat} {x : NS} (h : LeftAt H z c x) (s : Same H H') : LeftAt H' z c x := by
  obtain ⟨q, r, e, h1, h2⟩ := h
  exact ⟨q, r, e, s _ _ h1, s _ _ h2⟩
def LeftsAt (H : Hp) (p : Addr) (n : Nat) (S : Sys) (g : List Nat) : Prop := ∃ zs, H p = some (.lst zs) ∧ zs.length = (inOrder n g).length ∧ ∀ (i : Nat) (z : V) (c : Nat), zs[i]? = some z → (inOrder n g)[i]? = some c → LeftAt H z c (S c)
def spOwn (K : PySem.W.Frag) : Sp := fun vs H Q _ => ∃ (n : Nat) (a : Addr) (ks : List Nat), vs = [.int (n : Int), .ref a] ∧ 1 ≤ n ∧ n ≤ 6 ∧ SqT K H a (nV ks) ∧ (∀ c ∈ ks, c < n) ∧
  ∀ p H', Same H H' → LeftsAt H' p n (runN n ks).1 (runN n ks).2 → Q (.ref p) H'
section
variable {P : Program} {w : World} {K : PySem.W.Frag} {mg : Str → Option Value} {base : Heap} {CN CB CL CR : Addr}
theorem scOwn : FnScope ["_law_size", "_law_schedule", "_law_state", "_law_name", "_law_cells", "_law_looks", "_law_held", "_law_at"] ["_law_size", "_law_schedule"] (defScope sOwn) := ⟨rfl, rfl, rfl, by decide +kernel, rfl, by decide +kernel, by decide +kernel⟩
theorem ok_own {f : Addr} {fd : FuncData} (F : Fun K "_law_own_run" "_law_own_run" sOwn f fd) (m_len : mg "len" = none) (m_range : mg "range" = none) (m_list : mg "list" = none) (m_tuple : mg "tuple" = none) (m_sorted : mg "sorted" = none) :
    FnOk P w K mg base (L2.CX P w) 1 f fd ["_law_size", "_law_schedule"] (spOwn K) := by
  refine F.okX scOwn (fun vs H Q E h => ?_) (fun cdv A outer s H vs Q E hr h => ?_)
  · obtain ⟨n, a, ks, rfl, _⟩ := h
    rfl
  obtain ⟨n, a, ks, rfl, n1, n6, hq, hks, k⟩ := h
  have sc := scOwn
  have hu := hu_of hr
  refine ⟨_, (pss_cons (ps_set (i := 2) sc.nd rfl (Or.inr rfl) (pe_lc (own := [("_law_name", 3)]) (g := gName 3) (tt := tYes) rfl sc.nd (pi_range1 (by rfl) m_range (pa_cons (pv 0) pa_nil)) (blkOk_by (own := [("_law_name", 3)]) (N := ["_law_size", "_law_schedule", "_law_state", "_law_name", "_law_cells", "_law_looks", "_law_held", "_law_at"]) (sc := defScope sOwn) (by decide +kernel)) (fun _ _ _ _ _ => pg_name (i := 3) sc.nd rfl (Or.inl rfl)) (fun _ _ _ _ _ => pts_nil) (fun _ _ _ _ _ => (pe_lst (pa_cons (pe_op op_add (pv 0) pe_int) (pa_cons pe_int (pa_cons (pe_lst pa_nil) pa_nil)))))))
      (pss_cons (ps_setLc (i := 4) (own := [("_law_name", 3)]) (g := gName 3) (tt := tYes) (by rfl) sc.nd rfl rfl (sw_true rfl rfl rfl (by decide +kernel)) (pi_range1 (by rfl) m_range (pa_cons (pv 0) pa_nil)) (blkOk_by (own := [("_law_name", 3)]) (N := ["_law_size", "_law_schedule", "_law_state", "_law_name", "_law_cells", "_law_looks", "_law_held", "_law_at"]) (sc := defScope sOwn) (by decide +kernel)) (fun _ _ _ _ _ => pg_name (i := 3) sc.nd rfl (Or.inl rfl)) (fun _ _ _ _ _ => pts_nil) (fun _ _ _ _ _ => (pe_op op_add (pv 0) pe_int)))
      (pss_cons (ps_set (i := 5) sc.nd rfl (Or.inr rfl) pe_dnewK)
      (pss_cons (ps_for (passes_of rfl) rfl (pi_tup (pv 1)) (pg_name (i := 3) sc.nd rfl (Or.inl rfl)) (pss_cons (ps_set (i := 6) sc.nd rfl (Or.inl rfl) (pe_ix ix_list (pv 2) (pv 3) (fun _ _ => rfl)))
      (pss_cons (ps_set (i := 7) sc.nd rfl (Or.inl rfl) (pe_op op_mod (pe_ix ix_list (pv 6) pe_int (fun _ _ => rfl)) (pe_op op_add (pv 0) pe_int)))
      (pss_one (ps_if (pt_cmp (pc_dnotin hu (pv 3) (pv 5))) (pss_cons (ps_asg (pe_op op_add (pe_ix ix_list (pv 6) pe_int (fun _ _ => rfl)) pe_int) (pg_sub (pv 6) pe_int set_list))
      (Evl.pss_cut (ps_if (pt_cmpR op_eq (pv 7) pe_int (nomark _)) (pss_cons (ps_asg (pe_op op_sub (pe_ix ix_list (pv 6) pe_int (fun _ _ => rfl)) pe_int) (pg_sub (pv 6) pe_int set_list))
      (pss_cons (ps_asg (pe_ix ix_list (pv 6) pe_int (fun _ _ => rfl)) (pg_sub (pv 4) (pv 3) set_list))
      (pss_one (ps_asg (pe_lst pa_nil) (pg_sub (pv 6) pe_int set_list))))) (pss_one (ps_if (pt_cmpR op_le (pe_ix ix_list (pv 4) (pe_op op_sub (pv 7) pe_int) (fun _ _ => rfl)) (pe_ix ix_list (pv 6) pe_int (fun _ _ => rfl)) (nomark _)) (pss_one (ps_expr (pe_bm PySem.F.plainAttrs_list PySem.F.slot_list_append PySem.F.type_list_append mt_append (pe_ix ix_list (pv 6) pe_int (fun _ _ => rfl)) (pa_cons (pe_op op_sub (pv 7) pe_int) pa_nil)))) pss_nil)))
      (pss_one (ps_if (PW.pt (pw_and (pt_cmpR op_eq (pv 7) (pv 0) (nomark _)) (pw_and1 (pt_cmpR op_ge (pe_callB c_len (by rfl) m_len PySem.boot_len (pa_cons (pe_ix ix_list (pv 6) pe_int (fun _ _ => rfl)) pa_nil)) (pe_ix ix_list (pv 6) pe_int (fun _ _ => rfl)) (nomark _))))) (pss_one (ps_dput hu (pv 5) (pv 3) (pe_callTy c_tuple (by rfl) m_tuple (by decide +kernel) (pa_cons (pe_ix ix_list (pv 6) pe_int (fun _ _ => rfl)) pa_nil)) rfl)) pss_nil)))) pss_nil)))))
      (pss_one (ps_ret (pe_lc (own := [("_law_name", 3)]) (g := gName 3) (tt := tYes) rfl sc.nd (pi_list (pe_callB cr_sorted (by rfl) m_sorted (by decide +kernel) (pa_cons (pe_callTy (c_listD rfl) (by rfl) m_list (by decide +kernel) (pa_cons (pv 5) pa_nil)) pa_nil))) (blkOk_by (own := [("_law_name", 3)]) (N := ["_law_size", "_law_schedule", "_law_state", "_law_name", "_law_cells", "_law_looks", "_law_held", "_law_at"]) (sc := defScope sOwn) (by decide +kernel)) (fun _ _ _ _ _ => pg_name (i := 3) sc.nd rfl (Or.inl rfl)) (fun _ _ _ _ _ => pts_nil) (fun _ _ _ _ _ => (pe_lst (pa_cons (pv 3) (pa_cons (pe_dget hu (pv 5) (pv 3) (fun _ _ => rfl)) (pa_cons (pe_ix (ixL K) (pe_ix (ixL K) (pv 2) (pv 3) (fun _ _ => rfl)) pe_int (fun _ _ => rfl)) pa_nil)))))))))))), ?_⟩
  walk_at "go"
  refine r_rngK n (by omega) (by omega) ?_
  intro D hD
  refine lc_range (fun i H' => Same H H' ∧ ∃ hs rs : Nat → Addr, H' D = some (.lst (row i fun j => .ref (hs j))) ∧ (∀ j, j < i → H' (hs j) = some (.lst [.int ((n : Int) + 1), .int 0, .ref (rs j)]) ∧ H' (rs j) = some (.lst []) ∧ hs j ≠ D ∧ rs j ≠ D ∧ H (hs j) = none ∧ H (rs j) = none) ∧
      (∀ j, j < i → ∀ m, m < i → (hs j = hs m → j = m) ∧ (rs j = rs m → j = m)))
    ⟨same_new hD, fun _ => 0, fun _ => 0, upd_same, (fun j hj => absurd hj (Nat.not_lt_zero _)), fun j hj => absurd hj (Nat.not_lt_zero _)⟩ (fun i H1 hi p => ?_) fun H1 p => ?_
  · obtain ⟨s1, hs, rs, h1, hf, hinj⟩ := p
    rw [Int.zero_add]
    refine ⟨rfl, ?_⟩
    refine r_tYes ?_
    refine iteT ?_
    walk_at "go"
    refine ⟨by show 0 ≤ sizeLine; decide, fun r hr1 => ?_⟩
    walk_at "go"
    refine ⟨by show 3 ≤ sizeLine; decide, fun q hq => ?_⟩
    have s2 := same_new (o := .lst []) hr1
    have s3 := same_new (o := .lst [.int ((n : Int) + 1), .int 0, .ref r]) hq
    have qr : q ≠ r := fun z => by rw [z, upd_same] at hq; cases hq
    have hq1 : H1 q = none := none_of_upd hq
    have rD : r ≠ D := fun z => by rw [z, h1] at hr1; cases hr1
    have qD : q ≠ D := fun z => by rw [z, h1] at hq1; cases hq1
    refine ⟨_, s3 _ _ (s2 _ _ h1), by rw [row_len]; exact Nat.lt_of_le_of_lt (m := 6) (by omega) (by decide), ?_, fun j => if j = i then q else hs j, fun j => if j = i then r else rs j, ?_, fun j hj => ?_, fun j hj m hm => ?_⟩
    · exact Same.upd2 ((s1.trans s2).trans s3) hD
    · rw [upd_same, row_succ]
      dsimp only
      rw [if_pos rfl]
      congr 3
      refine row_congr fun j hj => ?_
      rw [if_neg (by omega)]
    · have keep : ∀ b u, b ≠ D → H1 b = some u → upd (upd (upd H1 r (.lst [])) q (.lst [.int ((n : Int) + 1), .int 0, .ref r])) D (.lst (row i (fun j => V.ref (hs j)) ++ [.ref q])) b = some u := fun b u nb z => by
        rw [upd_ne nb]
        exact s3 _ _ (s2 _ _ z)
      dsimp only
      by_cases e : j = i
      · subst e
        rw [if_pos rfl, if_pos rfl]
        refine ⟨?_, ?_, qD, rD, none_of_same s1 hq1, none_of_same s1 hr1⟩
        · rw [upd_ne qD, upd_same]
        · rw [upd_ne rD, upd_ne (Ne.symm qr), upd_same]
      · rw [if_neg e, if_neg e]
        obtain ⟨a1, a2, a3, a4, a5, a6⟩ := hf j (by omega)
        exact ⟨keep _ _ a3 a1, keep _ _ a4 a2, a3, a4, a5, a6⟩
    · have nq : ∀ j, j < i → hs j ≠ q := fun j hj z => by
        have := (hf j hj).1
        rw [z, hq1] at this
        cases this
      have nr : ∀ j, j < i → rs j ≠ r := fun j hj z => by
        have := (hf j hj).2.1
        rw [z, hr1] at this
        cases this
      dsimp only
      by_cases e1 : j = i
      · by_cases e2 : m = i
        · exact ⟨fun _ => by omega, fun _ => by omega⟩
        · rw [if_pos e1, if_pos e1, if_neg e2, if_neg e2]
          exact ⟨fun z => absurd z.symm (nq m (by omega)), fun z => absurd z.symm (nr m (by omega))⟩
      · by_cases e2 : m = i
        · rw [if_neg e1, if_neg e1, if_pos e2, if_pos e2]
          exact ⟨fun z => absurd z (nq j (by omega)), fun z => absurd z (nr j (by omega))⟩
        · rw [if_neg e1, if_neg e1, if_neg e2, if_neg e2]
          exact hinj j (by omega) m (by omega)
  obtain ⟨s1, hs, rs, h1, hf, hinj⟩ := p
  have st1 : StAt H1 ⟨D, hs, rs⟩ n (K7M.init n) := ⟨h1, fun i hi => (hf i hi).1, fun i hi => (hf i hi).2.1, fun i hi j hj => (hinj i hi j hj).1, fun i hi j hj => (hinj i hi j hj).2⟩
  have new1 : ∀ b ∈ (LS.mk D hs rs).foot n, H b = none := fun b hb => by
    rcases foot_cases hb with rfl | ⟨j, hj, rfl⟩ | ⟨j, hj, rfl⟩
    · exact hD
    · exact (hf j hj).2.2.2.2.1
    · exact (hf j hj).2.2.2.2.2
  clear h1 hf hinj
  walk_at "go"
  refine r_rngK n (by omega) (by omega) ?_
  refine r_lcR (fun _ => true) (fun i => .int ((n : Int) + 1)) (by omega) (fun _ => rfl) (fun i H1 hi s1 QT q => q H1 (Same.refl _)) (fun i H2 hi _ s2 Q q => ?_) fun cl H2 hcl s2 h2 => ?_
  · walk_at "go"
    exact q H2 (Same.refl _)
  rw [row_all] at h2
  walk_at "go"
  intro d hd
  have hcl0 : H cl = none := none_of_same s1 hcl
  have hd0 : H d = none := none_of_same (s1.trans s2) hd
  have ncl : cl ∉ (LS.mk D hs rs).foot n := fun z => by
    obtain ⟨xs, hx⟩ := st1.some_ z
    rw [hcl] at hx; cases hx
  have s3 := same_new (o := .dK []) hd
  have R0 : OwnI H ⟨D, hs, rs⟩ cl d n (K7M.init n) [] (upd H2 d (.dK [])) := ⟨(st1.keep s2).keep s3, ncl, new1, s3 _ _ h2, ⟨fun _ => 0, upd_same, fun j hj => by cases hj⟩, (s1.trans s2).trans s3⟩
  generalize upd H2 d (.dK []) = H3 at R0 ⊢
  clear s3 s2 s1 st1 new1 ncl h2
  walk_at "go"
  have hq0 : ∀ H', Same H H' → SqT K H' a (nV ks) := fun H' s => same_tup s hq
  refine r_tupK (hq0 _ R0.same) ?_
  refine r_forT (xs := nV ks) (fun i σ H' => ∃ v3 v6 v7 B, σ = [some (.int (n : Int)), some (.ref a), some (.ref D), v3, some (.ref cl), some (.ref d), v6, v7] ∧ B.st = D ∧ OwnI H B cl d n (runN n (ks.take i)).1 (runN n (ks.take i)).2 H')
    ⟨none, none, none, ⟨D, hs, rs⟩, rfl, rfl, R0⟩ (fun i σ H' hi p => hq0 _ p.choose_spec.choose_spec.choose_spec.choose_spec.2.2.same) ?_ ?_
  · rintro i x σ H4 hx ⟨v3, v6, v7, B, rfl, eD, R⟩
    obtain ⟨c, hc, rfl⟩ := nV_at hx
    have hi : c < n := hks c (List.mem_of_getElem? hc)
    rw [runN_take hc]
    have G := good_take n1 hks i
    generalize hS : (runN n (ks.take i)).1 = S at R G ⊢
    generalize hgg : (runN n (ks.take i)).2 = g at R G ⊢
    have erun : runS n (runN n (ks.take i)) c = runS n (S, g) c := by rw [← hS, ← hgg]
    rw [erun]
    clear erun
    obtain ⟨ls, hd1, hd2⟩ := R.dk
    have L := R.st
    have hcS := L.st
    rw [eD] at hcS
    have hi0 := L.hs c hi
    have hr0 := L.rs c hi
    walk_at "go"
    refine r_ixL (SqL.of hcS) (atI_nat (row_at _ hi)) ?_
    walk_at "go"
    refine r_ixL (v := .int ((S c).cnt : Int)) (SqL.of hi0) rfl ?_
    walk_at "go"
    refine r_I (by omega) ?_
    have et : (((S c).cnt : Int) % ((n : Int) + 1)) = (((S c).cnt % (n + 1) : Nat) : Int) := by rw [Int.natCast_emod]; rfl
    rw [et]
    walk_at "go"
    refine r_dninK (.inl hd1) ?_
    walk_at "go"
    by_cases hcg : c ∈ g
    · refine ite_no (by rw [val_in hcg]; rfl) ?_
      walk_at "go"
      have er : runS n (S, g) c = (S, g) := if_pos hcg
      rw [er]
      exact ⟨_, _, _, B, rfl, eD, R⟩
    refine ite_yes (by rw [val_out hcg]; rfl) ?_
    have er : runS n (S, g) c = (K7M.put S c (stp n S c), if lvs n S c = true then g ++ [c] else g) := if_neg hcg
    rw [er]
    have hcl := R.ce
    have ncl := R.ncl
    have hz : (S c).rd.length ≤ 1000 := by have := G.len hi; omega
    have hclS : B.st ≠ cl := fun z => ncl (by rw [← z]; exact List.mem_cons_self ..)
    have hclH : B.hs c ≠ cl := fun z => ncl (by rw [← z]; exact mem_hs hi)
    have hclR : B.rs c ≠ cl := fun z => ncl (by rw [← z]; exact mem_rs hi)
    have hHR := L.hr hi hi
    have sub3 : ∀ b ∈ [B.hs c, cl, B.rs c], b ∈ cl :: B.foot n := fun b hb => by
      rcases List.mem_cons.mp hb with rfl | hb
      · exact List.mem_cons_of_mem _ (mem_hs hi)
      rcases List.mem_cons.mp hb with rfl | hb
      · exact List.mem_cons_self ..
      rcases List.mem_cons.mp hb with rfl | hb
      · exact List.mem_cons_of_mem _ (mem_rs hi)
      cases hb
    walk_at "go"
    refine r_ixL (v := .int ((S c).cnt : Int)) (SqL.of hi0) rfl ?_
    walk_at "go"
    refine r_setL (j := 1) hi0 rfl ?_
    have ec : V.int (((S c).cnt : Int) + 1) = V.int (((S c).cnt + 1 : Nat) : Int) := by rw [Int.natCast_add]; rfl
    rw [ec]
    have h1h : (upd H4 (B.hs c) (.lst [.int (S c).lev, .int (((S c).cnt + 1 : Nat) : Int), .ref (B.rs c)])) (B.hs c) = some (.lst [.int (S c).lev, .int (((S c).cnt + 1 : Nat) : Int), .ref (B.rs c)]) := upd_same
    have k1 : Kept [B.hs c, cl, B.rs c] H4 (upd H4 (B.hs c) (.lst [.int (S c).lev, .int (((S c).cnt + 1 : Nat) : Int), .ref (B.rs c)])) := (Kept.refl _ _).mut (by simp)
    have h1c : (upd H4 (B.hs c) (.lst [.int (S c).lev, .int (((S c).cnt + 1 : Nat) : Int), .ref (B.rs c)])) cl = some (.lst (cellsOf n S)) := by rw [upd_ne (Ne.symm hclH)]; exact hcl
    have h1r : (upd H4 (B.hs c) (.lst [.int (S c).lev, .int (((S c).cnt + 1 : Nat) : Int), .ref (B.rs c)])) (B.rs c) = some (.lst (nV (S c).rd)) := by rw [upd_ne (Ne.symm hHR)]; exact hr0
    show Evl.tCut _ _ _ _ (upd H4 (B.hs c) (.lst [.int (S c).lev, .int (((S c).cnt + 1 : Nat) : Int), .ref (B.rs c)]))
    generalize upd H4 (B.hs c) (.lst [.int (S c).lev, .int (((S c).cnt + 1 : Nat) : Int), .ref (B.rs c)]) = H1 at h1h k1 h1c h1r ⊢
    have hn0 : (S c).cnt % (n + 1) < n + 1 := Nat.mod_lt _ (Nat.succ_pos n)
    refine r_cut (Mid := fun σ H' => ∃ B', σ = [some (.int (n : Int)), some (.ref a), some (.ref D), some (.int (c : Int)), some (.ref cl), some (.ref d), some (.ref (B'.hs c)), some (.int (((S c).cnt % (n + 1) : Nat) : Int))] ∧ B'.st = D ∧ OwnI H B' cl d n (K7M.put S c (stp n S c)) g H') ?_ ?_
    · walk_at "go"
      refine ite2 (fun h0 => ?_) fun h0 => ?_
      · have h0 : (S c).cnt % (n + 1) = 0 := by have := of_decide_eq_true h0; omega
        have es : stp n S c = ⟨(S c).lev - 1, (S c).cnt + 1, []⟩ := if_pos h0
        walk_at "go"
        refine r_ixL (v := .int (S c).lev) (SqL.of h1h) rfl ?_
        walk_at "go"
        refine r_setL (j := 0) h1h rfl ?_
        have h2h : (upd H1 (B.hs c) (.lst [.int ((S c).lev - 1), .int (((S c).cnt + 1 : Nat) : Int), .ref (B.rs c)])) (B.hs c) = some (.lst [.int ((S c).lev - 1), .int (((S c).cnt + 1 : Nat) : Int), .ref (B.rs c)]) := upd_same
        have k2 : Kept [B.hs c, cl, B.rs c] H4 (upd H1 (B.hs c) (.lst [.int ((S c).lev - 1), .int (((S c).cnt + 1 : Nat) : Int), .ref (B.rs c)])) := k1.mut (by simp)
        have h2c : (upd H1 (B.hs c) (.lst [.int ((S c).lev - 1), .int (((S c).cnt + 1 : Nat) : Int), .ref (B.rs c)])) cl = some (.lst (cellsOf n S)) := by rw [upd_ne (Ne.symm hclH)]; exact h1c
        have h2r : (upd H1 (B.hs c) (.lst [.int ((S c).lev - 1), .int (((S c).cnt + 1 : Nat) : Int), .ref (B.rs c)])) (B.rs c) = some (.lst (nV (S c).rd)) := by rw [upd_ne (Ne.symm hHR)]; exact h1r
        show tSeq _ _ _ _ (upd H1 (B.hs c) (.lst [.int ((S c).lev - 1), .int (((S c).cnt + 1 : Nat) : Int), .ref (B.rs c)]))
        generalize upd H1 (B.hs c) (.lst [.int ((S c).lev - 1), .int (((S c).cnt + 1 : Nat) : Int), .ref (B.rs c)]) = H2 at h2h k2 h2c h2r ⊢
        walk_at "go"
        refine r_ixL (v := .int ((S c).lev - 1)) (SqL.of h2h) rfl ?_
        walk_at "go"
        refine r_setL (j := c) h2c (by unfold cellsOf; rw [row_len]; exact ix_nat hi) ?_
        have h3h : (upd H2 cl (.lst ((cellsOf n S).set c (.int ((S c).lev - 1))))) (B.hs c) = some (.lst [.int ((S c).lev - 1), .int (((S c).cnt + 1 : Nat) : Int), .ref (B.rs c)]) := by rw [upd_ne hclH]; exact h2h
        have k3 : Kept [B.hs c, cl, B.rs c] H4 (upd H2 cl (.lst ((cellsOf n S).set c (.int ((S c).lev - 1))))) := k2.mut (by simp)
        have h3c : (upd H2 cl (.lst ((cellsOf n S).set c (.int ((S c).lev - 1))))) cl = some (.lst ((cellsOf n S).set c (.int ((S c).lev - 1)))) := upd_same
        have h3r : (upd H2 cl (.lst ((cellsOf n S).set c (.int ((S c).lev - 1))))) (B.rs c) = some (.lst (nV (S c).rd)) := by rw [upd_ne hclR]; exact h2r
        generalize upd H2 cl _ = H3 at h3h k3 h3c h3r ⊢
        walk_at "go"
        refine ⟨by show 0 ≤ sizeLine; decide, fun r hr3 => ?_⟩
        have hrh : r ≠ B.hs c := fun z => by rw [z, h3h] at hr3; cases hr3
        have hrc : r ≠ cl := fun z => by rw [z, h3c] at hr3; cases hr3
        have hrn : H4 r = none := by
          cases e : H4 r with
          | none => rfl
          | some o =>
            by_cases er : r = B.rs c
            · rw [er, h3r] at hr3
              cases hr3
            · rw [k3 _ _ e (by simp [hrh, hrc, er])] at hr3
              cases hr3
        walk_at "go"
        refine r_setL (j := 2) (by rw [upd_ne (Ne.symm hrh)]; exact h3h) rfl ?_
        have k4 : Kept [B.hs c, cl, B.rs c] H4 (upd (upd H3 r (.lst [])) (B.hs c) (.lst [.int ((S c).lev - 1), .int (((S c).cnt + 1 : Nat) : Int), .ref r])) := (k3.new hrn).mut (by simp)
        refine ⟨⟨B.st, B.hs, fun j => if j = c then r else B.rs j⟩, rfl, eD, R.step hcl0 hcg ?_ ?_ (k4.mono sub3) fun b hb => ?_⟩
        · rw [es]
          exact L.put hi upd_same (by show upd (upd H3 r (.lst [])) (B.hs c) _ r = _; rw [upd_ne hrh, upd_same]; rfl) ncl k4 (.inr hrn)
        · show upd (upd H3 r (.lst [])) (B.hs c) _ cl = _
          rw [upd_ne (Ne.symm hclH), upd_ne (Ne.symm hrc), h3c, es]
          unfold cellsOf
          rw [row_set]
          congr 2
          refine row_congr fun j _ => ?_
          by_cases e : j = c
          · subst e; rw [put_same, if_pos rfl]
          · rw [put_ne _ _ e, if_neg e]
        · rcases foot_put hb with hb | rfl
          · exact .inl hb
          · exact .inr hrn
      · have h0 : ¬ (S c).cnt % (n + 1) = 0 := fun z => h0 (decide_eq_true (by omega))
        obtain ⟨m, hm⟩ : ∃ m, (S c).cnt % (n + 1) = m + 1 := ⟨(S c).cnt % (n + 1) - 1, by omega⟩
        have hmn : m < n := by omega
        have es : stp n S c = ⟨(S c).lev, (S c).cnt + 1, if (S m).lev ≤ (S c).lev then (S c).rd ++ [m] else (S c).rd⟩ := by
          unfold stp
          rw [if_neg h0, hm]
          rfl
        have e1 : (stp n S c).lev = (S c).lev := by rw [es]
        have e2 : (stp n S c).cnt = (S c).cnt + 1 := by rw [es]
        have fin : ∀ H3, H3 (B.hs c) = some (.lst [.int (S c).lev, .int (((S c).cnt + 1 : Nat) : Int), .ref (B.rs c)]) → H3 (B.rs c) = some (.lst (nV (stp n S c).rd)) → Kept [B.hs c, cl, B.rs c] H4 H3 → H3 cl = some (.lst (cellsOf n S)) →
            OwnI H ⟨B.st, B.hs, fun j => if j = c then B.rs c else B.rs j⟩ cl d n (K7M.put S c (stp n S c)) g H3 := fun H3 h2h h2r k2 h2c => by
          refine R.step hcl0 hcg (L.put hi (by rw [e1, e2]; exact h2h) h2r ncl k2 (.inl rfl)) ?_ (k2.mono sub3) fun b hb => ?_
          · rw [h2c]
            unfold cellsOf
            congr 2
            refine row_congr fun j _ => ?_
            by_cases e : j = c
            · subst e; rw [put_same, e1]
            · rw [put_ne _ _ e]
          · rcases foot_put hb with hb | rfl
            · exact .inl hb
            · exact .inl (mem_rs hi)
        rw [hm]
        have ec1 : ((m + 1 : Nat) : Int) - 1 = (m : Int) := by omega
        walk_at "go"
        rw [ec1]
        refine r_ixL (v := .int (S m).lev) (SqL.of h1c) (atI_nat (row_at _ hmn)) ?_
        walk_at "go"
        refine r_ixL (v := .int (S c).lev) (SqL.of h1h) rfl ?_
        walk_at "go"
        refine ite2 (fun h2 => ?_) fun h2 => ?_
        · have h2 : (S m).lev ≤ (S c).lev := of_decide_eq_true h2
          walk_at "go"
          refine r_ixL (v := .ref (B.rs c)) (SqL.of h1h) rfl ?_
          refine r_tyL (SqL.of h1r) ?_
          walk_at "go"
          rw [ec1]
          refine r_app h1r (Nat.lt_of_le_of_lt (m := 1000) (by rw [nV_len]; exact hz) (by decide)) ?_
          refine ⟨⟨B.st, B.hs, fun j => if j = c then B.rs c else B.rs j⟩, rfl, eD, fin _ (by rw [upd_ne hHR]; exact h1h) ?_ (k1.mut (by simp)) (by rw [upd_ne (Ne.symm hclR)]; exact h1c)⟩
          rw [upd_same, es]
          show some (HO.lst (nV (S c).rd ++ [.int (m : Int)])) = some (.lst (nV (if (S m).lev ≤ (S c).lev then (S c).rd ++ [m] else (S c).rd)))
          rw [if_pos h2, nV_append]
          rfl
        · have h2 : ¬ (S m).lev ≤ (S c).lev := fun z => h2 (decide_eq_true z)
          walk_at "go"
          refine ⟨⟨B.st, B.hs, fun j => if j = c then B.rs c else B.rs j⟩, rfl, eD, fin _ h1h ?_ k1 h1c⟩
          rw [es]
          show H1 (B.rs c) = some (.lst (nV (if (S m).lev ≤ (S c).lev then (S c).rd ++ [m] else (S c).rd)))
          rw [if_neg h2]
          exact h1r
    · rintro σ H2 ⟨B2, rfl, eD2, R2⟩
      obtain ⟨ls2, hd1', hd2'⟩ := R2.dk
      have hh := R2.st.hs c hi
      have hrr := R2.st.rs c hi
      rw [put_same] at hh hrr
      have hlv : lvs n S c = (decide ((((S c).cnt % (n + 1) : Nat) : Int) = (n : Int)) && decide ((stp n S c).lev ≤ ((stp n S c).rd.length : Int))) := by
        unfold lvs
        by_cases h1 : (S c).cnt % (n + 1) = n
        · rw [decide_eq_true (show (((S c).cnt % (n + 1) : Nat) : Int) = (n : Int) by omega), Bool.true_and]
          exact decide_eq_decide.mpr ⟨fun z => z.2, fun z => ⟨h1, z⟩⟩
        · rw [decide_eq_false (show ¬ (((S c).cnt % (n + 1) : Nat) : Int) = (n : Int) by omega), Bool.false_and]
          exact decide_eq_false fun z => h1 z.1
      have no : lvs n S c = false → ∃ v3 v6 v7 B', [some (V.int (n : Int)), some (V.ref a), some (.ref D), some (.int (c : Int)), some (.ref cl), some (.ref d), some (.ref (B2.hs c)), some (.int (((S c).cnt % (n + 1) : Nat) : Int))] = [some (V.int (n : Int)), some (V.ref a), some (.ref D), v3, some (.ref cl), some (.ref d), v6, v7] ∧ B'.st = D ∧ OwnI H B' cl d n (K7M.put S c (stp n S c)) (if lvs n S c = true then g ++ [c] else g) H2 := fun hv => by
        rw [hv, if_neg Bool.false_ne_true]
        exact ⟨_, _, _, B2, rfl, eD2, R2⟩
      walk_at "go"
      refine iteB (fun h3 => ?_) fun h3 => ?_
      · walk_at "go"
        refine r_ixL (v := .ref (B2.rs c)) (SqL.of hh) rfl ?_
        walk_at "go"
        refine r_lenL (SqL.of hrr) ?_
        rw [nV_len]
        walk_at "go"
        refine r_ixL (v := .int (stp n S c).lev) (SqL.of hh) rfl ?_
        walk_at "go"
        refine iteB (fun h4 => ?_) fun h4 => ?_
        · have hv : lvs n S c = true := by rw [hlv, h3, Bool.true_and]; exact h4
          walk_at "go"
          refine r_ixL (v := .ref (B2.rs c)) (SqL.of hh) rfl ?_
          walk_at "go"
          refine r_tupL (SqL.of hrr) fun t ht => ?_
          have s5 := same_new (o := .tup (nV (stp n S c).rd)) ht
          have R5 := R2.more s5
          have hd5 := s5 _ _ hd1'
          walk_at "go"
          refine r_dputK hd5 (Nat.lt_of_le_of_lt (m := 6) (by
            have := G.lenG
            rw [List.length_map]
            omega) (by decide)) ?_
          rw [putK_new _ (val_out hcg), hv, if_pos rfl]
          exact ⟨_, _, _, B2, rfl, eD2, R5.leave hd0 hcg hd5 (fun j hj => s5 _ _ (hd2' j hj)) (by rw [put_same]; exact upd_same)⟩
        · exact no (by rw [hlv, h3, Bool.true_and]; exact h4)
      · exact no (by rw [hlv, h3, Bool.false_and])
  · rintro σ H4 ⟨v3, v6, v7, B, rfl, eD, R⟩
    rw [nV_len, List.take_length] at R
    have G := good_run n1 hks
    generalize (runN n ks).1 = S at R G k ⊢
    generalize (runN n ks).2 = g at R G k ⊢
    obtain ⟨ls, hd1, hd2⟩ := R.dk
    have hcS := R.st.st
    rw [eD] at hcS
    have hb : ∀ j ∈ g, j < n := fun j hj => (G.gon j hj).1
    walk_at "go"
    refine r_listDK (.inl hd1) fun pl hpl => ?_
    have el : (kvOf g ls).map (fun kv => kV kv.1) = (g.map fun (i : Nat) => (i : Int)).map V.int := by
      rw [List.map_map, List.map_map]
      rfl
    rw [el]
    have pm := perm_inOrder G.nd hb
    walk_at "go"
    refine r_sorted (ks := g.map fun (i : Nat) => (i : Int)) (ss := (inOrder n g).map fun (i : Nat) => (i : Int)) (SqL.of upd_same) ?_ (pm.map _) (range_up _ _) fun p5 hp5 => ?_
    · have := pm.length_eq
      have := len_inOrder n g
      rw [List.length_map]
      omega
    rw [← ints_nV, ← ints_nV]
    have s5 := (same_new (o := .lst (nV g)) hpl).trans (same_new (o := .lst (nV (inOrder n g))) (by rw [ints_nV]; exact hp5))
    have h5 : (upd (upd H4 pl (.lst (nV g))) p5 (.lst (nV (inOrder n g)))) p5 = some (.lst (nV (inOrder n g))) := upd_same
    generalize upd (upd H4 pl (.lst (nV g))) p5 (.lst (nV (inOrder n g))) = H5 at s5 h5 ⊢
    have R5 := R.more s5
    have hd5 := s5 _ _ hd1
    refine r_lstK (SqL.of h5) ?_
    intro D9 hD9
    refine lc_list (xs := nV (inOrder n g)) (fun i H' => Same H5 H' ∧ ∃ zs, H' D9 = some (.lst zs) ∧ zs.length = i ∧ ∀ (j : Nat) (z : V) (c : Nat), zs[j]? = some z → (inOrder n g)[j]? = some c → LeftAt H' z c (S c) ∧ z ≠ .ref D9)
      ⟨same_new hD9, [], upd_same, rfl, fun j z c hz => by simp at hz⟩ (fun i H' _ p => p.1.seq (SqL.of h5)) (fun i x H6 hx p => ?_) fun H6 p => ?_
    · obtain ⟨s6, zs, hzs, lz, hz⟩ := p
      obtain ⟨c, hc, rfl⟩ := nV_at hx
      have hcg : c ∈ g := by
        have := (List.mem_filter.mp (List.mem_of_getElem? hc)).2
        exact of_decide_eq_true this
      have hcn := hb c hcg
      have hin : i < n := by
        have h1 := (List.getElem?_eq_some_iff.mp hc).1
        have := len_inOrder n g
        omega
      refine ⟨rfl, ?_⟩
      refine r_tYes ?_
      refine iteT ?_
      walk_at "go"
      refine r_dgetK (.inl (s6 _ _ hd5)) (val_in hcg) ?_
      walk_at "go"
      refine r_ixL (SqL.of (s6 _ _ (s5 _ _ hcS))) (atI_nat (row_at _ hcn)) ?_
      walk_at "go"
      refine r_ixL (v := .int ((S c).cnt : Int)) (SqL.of (s6 _ _ (R5.st.hs c hcn))) rfl ?_
      walk_at "go"
      refine ⟨by show 3 ≤ sizeLine; decide, fun q hq9 => ?_⟩
      have s7 := same_new (o := .lst [.int (c : Int), .ref (ls c), .int ((S c).cnt : Int)]) hq9
      have qD : q ≠ D9 := fun z => by rw [z, hzs] at hq9; cases hq9
      have keep : ∀ b u, b ≠ D9 → (upd H6 q (.lst [.int (c : Int), .ref (ls c), .int ((S c).cnt : Int)])) b = some u → upd (upd H6 q (.lst [.int (c : Int), .ref (ls c), .int ((S c).cnt : Int)])) D9 (.lst (zs ++ [.ref q])) b = some u := fun b u nb z => by rw [upd_ne nb]; exact z
      have lD : ∀ {r : Addr} {xs : List V}, (upd H6 q (.lst [.int (c : Int), .ref (ls c), .int ((S c).cnt : Int)])) r = some (.tup xs) → r ≠ D9 := fun h => ne_of h (s7 _ _ hzs) (by intro z; cases z)
      refine ⟨zs, s7 _ _ hzs, by rw [lz]; exact Nat.lt_of_le_of_lt (m := 6) (by omega) (by decide), Same.upd2 (s6.trans s7) hD9, zs ++ [.ref q], upd_same, by rw [List.length_append, lz]; rfl, fun j z c' h1 h2 => ?_⟩
      rcases Nat.lt_or_ge j zs.length with h | h
      · rw [List.getElem?_append_left h] at h1
        obtain ⟨⟨q', r', rfl, a1, a2⟩, nz⟩ := hz j z c' h1 h2
        have nq : q' ≠ D9 := fun z => nz (by rw [z])
        exact ⟨⟨q', r', rfl, keep _ _ nq (s7 _ _ a1), keep _ _ (lD (s7 _ _ a2)) (s7 _ _ a2)⟩, nz⟩
      · rw [List.getElem?_append_right h] at h1
        rcases Nat.eq_zero_or_pos (j - zs.length) with e0 | e0
        · rw [e0] at h1
          cases h1
          have ej : j = i := by omega
          subst ej
          rw [hc] at h2
          cases h2
          have hl7 := s7 _ _ (s6 _ _ (s5 _ _ (hd2 c hcg)))
          exact ⟨⟨q, ls c, rfl, keep _ _ qD upd_same, keep _ _ (lD hl7) hl7⟩, fun z => qD (V.ref.inj z)⟩
        · rw [List.getElem?_eq_none (by show 1 ≤ _; omega)] at h1
          cases h1
    · obtain ⟨s6, zs, hzs, lz, hz⟩ := p
      rw [nV_len] at lz
      exact k D9 H6 (R5.same.trans s6) ⟨zs, hzs, lz, fun i z c h1 h2 => (hz i z c h1 h2).1⟩
end
end K8
namespace K8
open PySem L2 Er K7M
/-- one step of a plain reading -/
local macro_rules | `(tactic| walk_at "step") => `(tactic| first
  | with_reducible refine r_seq ?_ | with_reducible refine r_nx ?_ | with_reducible refine r_asgN ?_ | with_reducible refine r_asgS ?_ | with_reducible refine r_asgT ?_ | with_reducible refine r_ifS ?_
  | with_reducible refine r_ret ?_ | with_reducible refine r_retN ?_ | with_reducible refine r_drop ?_ | with_reducible refine r_test ?_ | with_reducible refine r_B ?_ | with_reducible refine r_not ?_
  | with_reducible refine r_and ?_ | with_reducible refine r_or ?_ | with_reducible refine r_andV ?_ | with_reducible refine r_orV ?_ | with_reducible refine r_notV ?_
  | ((with_reducible refine' r_var ?e ?_); (case e => exact rfl)) | with_reducible refine r_c ?_ | with_reducible refine r_op ?_ | with_reducible refine r_un ?_
  | with_reducible refine r_I0 ?_ | with_reducible refine r_eqI ?_ | with_reducible refine r_neI ?_ | with_reducible refine r_bl ?_ | with_reducible refine r_nil ?_ | with_reducible refine r_cons ?_
  | with_reducible refine r_cb ?_ | with_reducible refine r_call ?_ | with_reducible refine r_tup ?_ | with_reducible refine r_lst ?_ | with_reducible refine r_fld ?_ | with_reducible refine r_bm ?_ | with_reducible refine r_bm0 ?_
  | with_reducible refine r_for ?_ | with_reducible refine r_rng ?_ | with_reducible refine r_rng2 ?_ | with_reducible refine r_lstI ?_ | with_reducible refine r_tupI ?_ | with_reducible refine r_lc ?_
  | with_reducible refine r_augS ?_ | with_reducible refine r_ipI ?_
  | with_reducible refine r_meth ?_ | with_reducible refine r_prop ?_ | with_reducible refine r_make ?_ | with_reducible refine r_din ?_ | with_reducible refine r_dnin ?_ | with_reducible refine r_dput ?_ | with_reducible refine r_dget ?_
  | with_reducible refine r_gN ?_ | with_reducible refine r_tsl ?_ | with_reducible refine r_noP ?_ | with_reducible refine r_part ?_ | with_reducible refine r_pI ?_ | with_reducible refine r_tif ?_ | with_reducible refine r_SL ?_ | with_reducible refine r_gC ?_ | with_reducible refine r_U ?_ | with_reducible refine r_sfld ?_ | with_reducible refine r_dnew ?_ | with_reducible refine r_keys ?_
  | with_reducible refine r_mkE ?_ | with_reducible refine iteT ?_ | with_reducible refine iteF ?_
  | with_reducible refine r_int ?_ | with_reducible refine r_min2 ?_ | with_reducible refine r_isN ?_ | with_reducible refine r_notN ?_)
/-- as far as it goes by itself -/
local macro_rules | `(tactic| walk_at "go") => `(tactic| ((repeat walk_at "step"); (try dsimp only)))

abbrev sWoven : Stmt := top 30
def cnts (n : Nat) (f : Nat → Nat) : List V := row n fun c => .int (f c : Int)
theorem cnts_set {n c z : Nat} (f : Nat → Nat) : (cnts n f).set c (.int (z : Int)) = cnts n fun j => if j = c then z else f j := by
  unfold cnts
  rw [row_set]
  refine row_congr fun j _ => ?_
  by_cases e : j = c <;> simp [e]
theorem cnts_congr {n : Nat} {f g : Nat → Nat} (h : ∀ i, i < n → f i = g i) : cnts n f = cnts n g := row_congr fun i hi => by rw [h i hi]
/-- what is due, told by the run -/
def DueOk (n : Nat) (ks : List Nat) (ls : List (Nat × List Nat)) : Prop := ∀ il ∈ ls, il.1 < n ∧ il.1 ∈ (runN n ks).2 ∧ il.2.length ≤ n ∧ ((runN n ks).1 il.1).cnt = (n + 1 - il.2.length) * (n + 1)
def spWoven (K : PySem.W.Frag) : Sp := fun vs H Q _ => ∃ (a t u : Addr) (ns : List Int) (n : Nat) (ks : List Nat) (ls : List (Nat × List Nat)), vs = [.ref a, .ref t, .ref u, .int (n : Int)] ∧ H a = some (.lst (ns.map V.int)) ∧ ns.length ≤ 100000 ∧ n ≤ 6 ∧ H t = some (.tup (nV ks)) ∧ (∀ c ∈ ks, c < n) ∧ ks.length ≤ 40000 ∧
  PairsT H u ls ∧ 1 ≤ ls.length ∧ ls.length ≤ 1000 ∧ DueOk n ks ls ∧
  ∀ q ws (ns' : List Int) H', Wov n ws ks → (∀ c ∈ ws, c < n) → ns'.length ≤ ns.length → H' a = some (.lst (ns'.map V.int)) → SameBut a H H' → H q = none → H' q = some (.lst (nV ws)) → Q (.ref q) H'
section
variable {P : Program} {w : World} {K : PySem.W.Frag} {mg : Str → Option Value} {base : Heap} {CN CB CL CR : Addr}
theorem scWoven : FnScope ["_law_found", "_law_schedule", "_law_due_here", "_law_size", "_law_counts", "_law_name", "_law_goal", "_law_look", "_law_row", "_law_other"] ["_law_found", "_law_schedule", "_law_due_here", "_law_size"] (defScope sWoven) := ⟨rfl, rfl, rfl, by decide +kernel, rfl, by decide +kernel, by decide +kernel⟩
theorem ok_woven {f : Addr} {fd : FuncData} (F : Fun K "_law_woven" "_law_woven" sWoven f fd) (m_len : mg "len" = none) (m_range : mg "range" = none) (D_take : Fok P w K mg base 1 "_law_take" ["_law_found", "_law_many"] spTake) :
    FnOk P w K mg base (L2.CX P w) 2 f fd ["_law_found", "_law_schedule", "_law_due_here", "_law_size"] (spWoven K) := by
  refine F.okX scWoven (fun vs H Q E h => ?_) (fun cdv A outer s H vs Q E hr h => ?_)
  · obtain ⟨a, t, u, ns, n, ks, ls, rfl, _⟩ := h
    rfl
  obtain ⟨a, t, u, ns, n, ks, ls, rfl, ha, hl, n6, ht, hks, hkl, hP, hl1, hl1000, due, k⟩ := h
  have sc := scWoven
  refine ⟨_, (pss_cons (ps_setLc (i := 4) (own := [("_law_name", 5)]) (g := gName 5) (tt := tYes) (by rfl) sc.nd rfl rfl (sw_true rfl rfl rfl (by decide +kernel)) (pi_range1 (by rfl) m_range (pa_cons (pv 3) pa_nil)) (blkOk_by (own := [("_law_name", 5)]) (N := ["_law_found", "_law_schedule", "_law_due_here", "_law_size", "_law_counts", "_law_name", "_law_goal", "_law_look", "_law_row", "_law_other"]) (sc := defScope sWoven) (by decide +kernel)) (fun _ _ _ _ _ => pg_name (i := 5) sc.nd rfl (Or.inl rfl)) (fun _ _ _ _ _ => pts_nil) (fun _ _ _ _ _ => pe_int))
      (pss_cons (ps_setLc (i := 6) (own := [("_law_name", 5)]) (g := gName 5) (tt := tYes) (by rfl) sc.nd rfl rfl (sw_true rfl rfl rfl (by decide +kernel)) (pi_range1 (by rfl) m_range (pa_cons (pv 3) pa_nil)) (blkOk_by (own := [("_law_name", 5)]) (N := ["_law_found", "_law_schedule", "_law_due_here", "_law_size", "_law_counts", "_law_name", "_law_goal", "_law_look", "_law_row", "_law_other"]) (sc := defScope sWoven) (by decide +kernel)) (fun _ _ _ _ _ => pg_name (i := 5) sc.nd rfl (Or.inl rfl)) (fun _ _ _ _ _ => pts_nil) (fun _ _ _ _ _ => pe_int))
      (pss_cons (ps_for (passes_of rfl) rfl (pi_tup (pv 2)) (pg_tup (by rfl) (pgs_cons (pg_name (i := 5) sc.nd rfl (Or.inl rfl)) (pgs_cons (pg_name (i := 7) sc.nd rfl (Or.inl rfl)) pgs_nil))) (pss_one (ps_asg (pe_op op_mul (pe_op op_sub (pe_op op_add (pv 3) pe_int) (pe_callB c_len (by rfl) m_len PySem.boot_len (pa_cons (pv 7) pa_nil))) (pe_op op_add (pv 3) pe_int)) (pg_sub (pv 6) (pv 5) set_list))))
      (pss_cons (ps_set (i := 8) sc.nd rfl (Or.inl rfl) (pe_lst pa_nil))
      (pss_cons (ps_for (passes_of rfl) rfl (pi_tup (pv 1)) (pg_name (i := 5) sc.nd rfl (Or.inl rfl)) (pss_cons (ps_expr (pe_bm PySem.F.plainAttrs_list PySem.F.slot_list_append PySem.F.type_list_append mt_append (pv 8) (pa_cons (pv 5) pa_nil)))
      (pss_cons (ps_asg (pe_op op_add (pe_ix ix_list (pv 4) (pv 5) (fun _ _ => rfl)) pe_int) (pg_sub (pv 4) (pv 5) set_list))
      (pss_cons (ps_set (i := 9) sc.nd rfl (Or.inl rfl) (pe_ix ix_tup (pe_ix ix_tup (pv 2) (pe_f D_take (hr.mono (by decide)) (pa_cons (pv 0) (pa_cons (pe_callB c_len (by rfl) m_len PySem.boot_len (pa_cons (pv 2) pa_nil)) pa_nil))) (fun _ _ => rfl)) pe_int (fun _ _ => rfl)))
      (pss_one (ps_if (pt_cmpR op_ge (pe_ix ix_list (pv 4) (pv 9) (fun _ _ => rfl)) (pe_ix ix_list (pv 6) (pv 9) (fun _ _ => rfl)) (nomark _)) (pss_one (ps_expr (pe_bm PySem.F.plainAttrs_list PySem.F.slot_list_append PySem.F.type_list_append mt_append (pv 8) (pa_cons (pv 9) pa_nil)))) pss_nil))))))
      (pss_one (ps_ret (pv 8)))))))), ?_⟩
  walk_at "go"
  refine r_rngK n (by omega) (by omega) ?_
  refine r_lcR (fun _ => true) (fun i => .int 0) (by omega) (fun _ => rfl) (fun i H1 hi s1 QT q => q H1 (Same.refl _)) (fun i H2 hi _ s2 Q q => ?_) fun C H1 hC s1 h1 => ?_
  · walk_at "go"
    exact q H2 (Same.refl _)
  rw [row_all] at h1
  have h1 : H1 C = some (.lst (cnts n fun _ => 0)) := h1
  walk_at "go"
  refine r_rngK n (by omega) (by omega) ?_
  refine r_lcR (fun _ => true) (fun i => .int 0) (by omega) (fun _ => rfl) (fun i H1 hi s1 QT q => q H1 (Same.refl _)) (fun i H2 hi _ s2 Q q => ?_) fun G H2 hG s2 h2 => ?_
  · walk_at "go"
    exact q H2 (Same.refl _)
  rw [row_all] at h2
  have h2 : H2 G = some (.lst (cnts n fun _ => 0)) := h2
  have GC : G ≠ C := fun z => by rw [z, h1] at hG; cases hG
  have hG0 : H G = none := none_of_same s1 hG
  have Ga : G ≠ a := fun z => by rw [z, ha] at hG0; cases hG0
  have Ca : C ≠ a := fun z => by rw [z, ha] at hC; cases hC
  have h1 := s2 _ _ h1
  have s12 := s1.trans s2
  clear s1 s2 hG
  walk_at "go"
  obtain ⟨ys, hu1, hu2⟩ := hP
  refine r_tupK (SqT.of (s12 _ _ hu1)) ?_
  refine r_forT (xs := ys) (fun i σ H' => ∃ v5 v7, σ = [some (.ref a), some (.ref t), some (.ref u), some (.int (n : Int)), some (.ref C), v5, some (.ref G), v7, none, none] ∧ Same H H' ∧ H' C = some (.lst (cnts n fun _ => 0)) ∧ H' G = some (.lst (cnts n fun c => if c ∈ (ls.take i).map (·.1) then ((runN n ks).1 c).cnt else 0)))
    ⟨none, none, rfl, s12, h1, by simpa using h2⟩ (fun i σ H' hi p => SqT.of (p.choose_spec.choose_spec.2.1 _ _ hu1)) ?_ ?_
  · rintro i x σ H3 hx ⟨v5, v7, rfl, s3, h3C, h3G⟩
    have hil : i < ls.length := by rw [← hu2.1]; exact (List.getElem?_eq_some_iff.mp hx).1
    obtain ⟨il, hil⟩ : ∃ il, ls[i]? = some il := ⟨ls[i], List.getElem?_eq_getElem hil⟩
    obtain ⟨p, r, rfl, hp, hr9⟩ := hu2.2 i x il hx hil
    obtain ⟨hcn, hcg, hxn, hcnt⟩ := due il (List.mem_of_getElem? hil)
    have etk : ls.take (i + 1) = ls.take i ++ [il] := by rw [List.take_add_one, hil]; rfl
    refine r_gT (SqT.of (s3 _ _ hp)) rfl ?_
    walk_at "go"
    refine ⟨rfl, ?_⟩
    walk_at "go"
    refine r_lenT (SqT.of (s3 _ _ hr9)) ?_
    rw [nV_len]
    walk_at "go"
    refine r_I (.inl ⟨by omega, by omega⟩) ?_
    have e : (((n : Int) + 1 - (il.2.length : Int)) * ((n : Int) + 1)) = (((runN n ks).1 il.1).cnt : Int) := by
      rw [hcnt, Int.natCast_mul]
      congr 1
      omega
    rw [e]
    walk_at "go"
    refine r_setL (j := il.1) h3G (by unfold cnts; rw [row_len]; exact ix_nat hcn) ?_
    rw [cnts_set]
    refine ⟨_, _, rfl, Same.upd2 s3 hG0, by rw [upd_ne (Ne.symm GC)]; exact h3C, ?_⟩
    rw [upd_same, etk]
    congr 2
    refine cnts_congr fun j _ => ?_
    rw [List.map_append]
    by_cases e : j = il.1
    · rw [if_pos e, if_pos (List.mem_append_right _ (by rw [e]; simp)), e]
    · rw [if_neg e]
      by_cases e2 : j ∈ (ls.take i).map (·.1)
      · rw [if_pos e2, if_pos (List.mem_append_left _ e2)]
      · rw [if_neg e2, if_neg fun z => ?_]
        rcases List.mem_append.mp z with z | z
        · exact e2 z
        · exact e (by simpa using z)
  · rintro σ H3 ⟨v5, v7, rfl, s3, h3C, h3G⟩
    rw [hu2.1, List.take_length] at h3G
    walk_at "go"
    refine ⟨by show 0 ≤ sizeLine; decide, fun q hq => ?_⟩
    have hq0 : H q = none := none_of_same s3 hq
    have qa : q ≠ a := fun z => by rw [z, ha] at hq0; cases hq0
    have qC : q ≠ C := fun z => by rw [z, h3C] at hq; cases hq
    have qG : q ≠ G := fun z => by rw [z, h3G] at hq; cases hq
    have s4 := same_new (o := .lst []) hq
    have h4q : (upd H3 q (.lst [])) q = some (.lst (nV [])) := upd_same
    have h4C := s4 _ _ h3C
    have h4G := s4 _ _ h3G
    have s04 := s3.trans s4
    generalize upd H3 q (.lst []) = H4 at h4q h4C h4G s04 ⊢
    clear s4 h3C h3G s3 hq
    have hta : t ≠ a := ne_of ht ha (by intro z; cases z)
    have hua : u ≠ a := ne_of hu1 ha (by intro z; cases z)
    walk_at "go"
    refine r_tupK (SqT.of (s04 _ _ ht)) ?_
    refine r_forT (xs := nV ks) (fun i σ H' => ∃ v5 v7 v9, σ = [some (.ref a), some (.ref t), some (.ref u), some (.int (n : Int)), some (.ref C), v5, some (.ref G), v7, some (.ref q), v9] ∧ SameBut a H H' ∧ (∃ ns' : List Int, H' a = some (.lst (ns'.map V.int)) ∧ ns'.length ≤ ns.length) ∧
        H' C = some (.lst (cnts n fun c => (ks.take i).count c)) ∧ H' G = some (.lst (cnts n fun c => if c ∈ ls.map (·.1) then ((runN n ks).1 c).cnt else 0)) ∧ ∃ ws, H' q = some (.lst (nV ws)) ∧ Wov n ws (ks.take i) ∧ (∀ c ∈ ws, c < n) ∧ ws.length ≤ 2 * i)
      ⟨v5, v7, none, rfl, SameBut.of s04, ⟨ns, s04 _ _ ha, Nat.le_refl _⟩, by simpa using h4C, h4G, [], h4q, by rw [List.take_zero]; exact .nil, fun c h => (by cases h), Nat.le_refl _⟩ (fun i σ H' hi p => SqT.of (p.choose_spec.choose_spec.choose_spec.2.1 _ _ hta ht)) ?_ ?_
    · rintro i x σ H5 hx ⟨v5, v7, v9, rfl, s5, ⟨ns5, h5a, l5⟩, h5C, h5G, ws, h5q, W, hws, lws⟩
      obtain ⟨c, hc, rfl⟩ := nV_at hx
      have hi : c < n := hks c (List.mem_of_getElem? hc)
      have hik : i < ks.length := (List.getElem?_eq_some_iff.mp hc).1
      have etk : ks.take (i + 1) = ks.take i ++ [c] := by rw [List.take_add_one, hc]; rfl
      walk_at "go"
      refine r_tyL (SqL.of h5q) ?_
      walk_at "go"
      refine r_app h5q (Nat.lt_of_le_of_lt (m := 100000) (by rw [nV_len]; omega) (by decide)) ?_
      have e1 : nV ws ++ [V.int (c : Int)] = nV (ws ++ [c]) := by rw [nV_append]; rfl
      rw [e1]
      have s6 : SameBut a H (upd H5 q (.lst (nV (ws ++ [c])))) := s5.mut hq0
      have h6a : (upd H5 q (.lst (nV (ws ++ [c])))) a = some (.lst (ns5.map V.int)) := by rw [upd_ne (Ne.symm qa)]; exact h5a
      have h6C : (upd H5 q (.lst (nV (ws ++ [c])))) C = some (.lst (cnts n fun c => (ks.take i).count c)) := by rw [upd_ne (Ne.symm qC)]; exact h5C
      have h6G : (upd H5 q (.lst (nV (ws ++ [c])))) G = some (.lst (cnts n fun c => if c ∈ ls.map (·.1) then ((runN n ks).1 c).cnt else 0)) := by rw [upd_ne (Ne.symm qG)]; exact h5G
      have h6q : (upd H5 q (.lst (nV (ws ++ [c])))) q = some (.lst (nV (ws ++ [c]))) := upd_same
      generalize upd H5 q (.lst (nV (ws ++ [c]))) = H6 at s6 h6a h6C h6G h6q ⊢
      walk_at "go"
      refine r_ixL (v := .int (((ks.take i).count c : Nat) : Int)) (SqL.of h6C) (atI_nat (row_at _ hi)) ?_
      walk_at "go"
      refine r_setL (j := c) h6C (by unfold cnts; rw [row_len]; exact ix_nat hi) ?_
      have e2 : V.int ((((ks.take i).count c : Nat) : Int) + 1) = V.int ((((ks.take i).count c + 1 : Nat)) : Int) := by rw [Int.natCast_add]; rfl
      rw [e2, cnts_set]
      have e3 : cnts n (fun j => if j = c then (ks.take i).count c + 1 else (ks.take i).count j) = cnts n fun j => (ks.take (i + 1)).count j := cnts_congr fun j _ => by
        rw [etk, List.count_append]
        by_cases e : j = c
        · subst e
          rw [if_pos rfl]
          simp
        · have e' : (c == j) = false := by simpa using Ne.symm e
          rw [if_neg e, List.count_cons, e']
          simp
      rw [e3]
      have s7 : SameBut a H (upd H6 C (.lst (cnts n fun j => (ks.take (i + 1)).count j))) := s6.mut hC
      have h7a : (upd H6 C (.lst (cnts n fun j => (ks.take (i + 1)).count j))) a = some (.lst (ns5.map V.int)) := by rw [upd_ne (Ne.symm Ca)]; exact h6a
      have h7C : (upd H6 C (.lst (cnts n fun j => (ks.take (i + 1)).count j))) C = some (.lst (cnts n fun j => (ks.take (i + 1)).count j)) := upd_same
      have h7G : (upd H6 C (.lst (cnts n fun j => (ks.take (i + 1)).count j))) G = some (.lst (cnts n fun c => if c ∈ ls.map (·.1) then ((runN n ks).1 c).cnt else 0)) := by rw [upd_ne GC]; exact h6G
      have h7q : (upd H6 C (.lst (cnts n fun j => (ks.take (i + 1)).count j))) q = some (.lst (nV (ws ++ [c]))) := by rw [upd_ne qC]; exact h6q
      generalize upd H6 C (.lst (cnts n fun j => (ks.take (i + 1)).count j)) = H7 at s7 h7a h7C h7G h7q ⊢
      walk_at "go"
      refine r_lenT (SqT.of (s7 _ _ hua hu1)) ?_
      walk_at "go"
      have hyl : ys.length = ls.length := hu2.1
      refine ⟨a, ns5, ys.length, rfl, h7a, by omega, by omega, fun r ns6 H8 r0 rn l6 h8a s8 => ?_⟩
      have s08 := s7.trans s8
      obtain ⟨r', rfl⟩ : ∃ r' : Nat, r = (r' : Int) := ⟨r.toNat, by omega⟩
      have hr' : r' < ys.length := by omega
      obtain ⟨il, hil⟩ : ∃ il, ls[r']? = some il := ⟨ls[r']'(by omega), List.getElem?_eq_getElem (by omega)⟩
      obtain ⟨p, rr, ey, hp, hrr⟩ := hu2.2 r' ys[r'] il (List.getElem?_eq_getElem hr') hil
      obtain ⟨hcn, hcg, hxn, hcnt⟩ := due il (List.mem_of_getElem? hil)
      refine r_ixT (v := .ref p) (SqT.of (s08 _ _ hua hu1)) (atI_nat (by rw [List.getElem?_eq_getElem hr', ey])) ?_
      walk_at "go"
      refine r_ixT (v := .int (il.1 : Int)) (SqT.of (s08 _ _ (ne_of hp ha (by intro z; cases z)) hp)) rfl ?_
      walk_at "go"
      refine r_ixL (v := .int (((ks.take (i + 1)).count il.1 : Nat) : Int)) (SqL.of (s8 _ _ Ca h7C)) (atI_nat (row_at _ hcn)) ?_
      walk_at "go"
      refine r_ixL (v := .int ((((runN n ks).1 il.1).cnt : Nat) : Int)) (SqL.of (s8 _ _ Ga h7G)) (atI_nat (by
        show (row n _)[il.1]? = _
        rw [row_at _ hcn]
        dsimp only
        rw [if_pos (List.mem_map.mpr ⟨il, List.mem_of_getElem? hil, rfl⟩)])) ?_
      walk_at "go"
      have W1 : Wov n (ws ++ [c]) (ks.take (i + 1)) := by rw [etk]; exact .step W
      have hws1 : ∀ d ∈ ws ++ [c], d < n := fun d hd => by
        rcases List.mem_append.mp hd with hd | hd
        · exact hws d hd
        · rw [List.mem_singleton.mp hd]; exact hi
      refine ite2 (fun h => ?_) fun h => ?_
      · have h := of_decide_eq_true h
        walk_at "go"
        refine r_tyL (SqL.of (s8 _ _ qa h7q)) ?_
        walk_at "go"
        refine r_app (s8 _ _ qa h7q) (Nat.lt_of_le_of_lt (m := 100000) (by rw [nV_len, List.length_append, List.length_singleton]; omega) (by decide)) ?_
        have e4 : nV (ws ++ [c]) ++ [V.int (il.1 : Int)] = nV ((ws ++ [c]) ++ [il.1]) := by rw [nV_append (ws ++ [c])]; rfl
        rw [e4]
        refine ⟨_, _, _, rfl, s08.mut hq0, ⟨ns6, by rw [upd_ne (Ne.symm qa)]; exact h8a, by omega⟩, by rw [upd_ne (Ne.symm qC)]; exact s8 _ _ Ca h7C, by rw [upd_ne (Ne.symm qG)]; exact s8 _ _ Ga h7G, _, upd_same, .more W1 (gone_by_count hcg (by omega)), fun d hd => ?_, ?_⟩
        · rcases List.mem_append.mp hd with hd | hd
          · exact hws1 d hd
          · rw [List.mem_singleton.mp hd]; exact hcn
        · rw [List.length_append, List.length_append, List.length_singleton, List.length_singleton]
          omega
      · walk_at "go"
        exact ⟨_, _, _, rfl, s08, ⟨ns6, h8a, by omega⟩, s8 _ _ Ca h7C, s8 _ _ Ga h7G, _, s8 _ _ qa h7q, W1, hws1, by rw [List.length_append, List.length_singleton]; omega⟩
    · rintro σ H5 ⟨v5, v7, v9, rfl, s5, ⟨ns5, h5a, l5⟩, h5C, h5G, ws, h5q, W, hws, lws⟩
      rw [nV_len, List.take_length] at W
      walk_at "go"
      exact k q ws ns5 H5 W hws l5 h5a s5 hq0 h5q
end
end K8
namespace K8
open PySem L2 Er K7M
/-- one step of a plain reading -/
local macro_rules | `(tactic| walk_at "step") => `(tactic| first
  | with_reducible refine r_seq ?_ | with_reducible refine r_nx ?_ | with_reducible refine r_asgN ?_ | with_reducible refine r_asgS ?_ | with_reducible refine r_asgT ?_ | with_reducible refine r_ifS ?_
  | with_reducible refine r_ret ?_ | with_reducible refine r_retN ?_ | with_reducible refine r_drop ?_ | with_reducible refine r_test ?_ | with_reducible refine r_B ?_ | with_reducible refine r_not ?_
  | with_reducible refine r_and ?_ | with_reducible refine r_or ?_ | with_reducible refine r_andV ?_ | with_reducible refine r_orV ?_ | with_reducible refine r_notV ?_
  | ((with_reducible refine' r_var ?e ?_); (case e => exact rfl)) | with_reducible refine r_c ?_ | with_reducible refine r_op ?_ | with_reducible refine r_un ?_
  | with_reducible refine r_I0 ?_ | with_reducible refine r_eqI ?_ | with_reducible refine r_neI ?_ | with_reducible refine r_bl ?_ | with_reducible refine r_nil ?_ | with_reducible refine r_cons ?_
  | with_reducible refine r_cb ?_ | with_reducible refine r_call ?_ | with_reducible refine r_tup ?_ | with_reducible refine r_lst ?_ | with_reducible refine r_fld ?_ | with_reducible refine r_bm ?_ | with_reducible refine r_bm0 ?_
  | with_reducible refine r_for ?_ | with_reducible refine r_rng ?_ | with_reducible refine r_rng2 ?_ | with_reducible refine r_lstI ?_ | with_reducible refine r_tupI ?_ | with_reducible refine r_lc ?_
  | with_reducible refine r_augS ?_ | with_reducible refine r_ipI ?_
  | with_reducible refine r_meth ?_ | with_reducible refine r_prop ?_ | with_reducible refine r_make ?_ | with_reducible refine r_din ?_ | with_reducible refine r_dnin ?_ | with_reducible refine r_dput ?_ | with_reducible refine r_dget ?_
  | with_reducible refine r_gN ?_ | with_reducible refine r_tsl ?_ | with_reducible refine r_noP ?_ | with_reducible refine r_part ?_ | with_reducible refine r_pI ?_ | with_reducible refine r_tif ?_ | with_reducible refine r_SL ?_ | with_reducible refine r_gC ?_ | with_reducible refine r_U ?_ | with_reducible refine r_sfld ?_ | with_reducible refine r_dnew ?_ | with_reducible refine r_keys ?_
  | with_reducible refine r_mkE ?_ | with_reducible refine iteT ?_ | with_reducible refine iteF ?_
  | with_reducible refine r_int ?_ | with_reducible refine r_min2 ?_ | with_reducible refine r_isN ?_ | with_reducible refine r_notN ?_)
/-- as far as it goes by itself -/
local macro_rules | `(tactic| walk_at "go") => `(tactic| ((repeat walk_at "step"); (try dsimp only)))

abbrev sRefused : Stmt := top 26
/-- what the clauses need of BadRound -/
structure ErrsR (K : PySem.W.Frag) (CN CB CR : Addr) : Prop where
  rn : PySem.W.exmOne K (.ref CR) (.ref CN) = some false
  rb : PySem.W.exmOne K (.ref CR) (.ref CB) = some false
  rr : PySem.W.exmOne K (.ref CR) (.ref CR) = some true
  xr : XfC K CR
  fr : PySem.W.findIn K (.ref CR) "place" = some none
/-- what check_blocks refuses, and the place told -/
def ChkB (K : PySem.W.Frag) (H : Hp) (bv : V) (pl : Int) : Prop :=
  (((∃ tn, Sm K H bv tn ∧ (tn == "list" || tn == "tuple") = false) ∨ ∃ a, bv = .ref a ∧ SqA K H a []) ∧ pl = -1) ∨
  ∃ (a : Addr) (xs : List V) (bs : List (List Nat)) (x : V) (rest : List V), bv = .ref a ∧ SqL K H a (xs ++ x :: rest) ∧ BlkAt K H xs bs ∧ RowBad K H bs.flatten x ∧ pl = (xs.length : Int)
theorem ChkB.keep {K : PySem.W.Frag} {H H' : Hp} {bv : V} {pl : Int} (h : ChkB K H bv pl) (s : Same H H') : ChkB K H' bv pl := by
  rcases h with ⟨h, e⟩ | ⟨a, xs, bs, x, rest, rfl, h1, h2, h3, e⟩
  · refine .inl ⟨?_, e⟩
    rcases h with ⟨tn, h1, h2⟩ | ⟨a, e2, q⟩
    · exact .inl ⟨tn, sm_ext s h1, h2⟩
    · exact .inr ⟨a, e2, q.keep s⟩
  · exact .inr ⟨a, xs, bs, x, rest, rfl, s.seq h1, h2.keep s, h3.keep s, e⟩
theorem ChkB.bad {K : PySem.W.Frag} {CR : Addr} {H : Hp} {bv : V} {pl : Int} {E : XK} (h : ChkB K H bv pl) (r : rsd CR "place" (.int pl) H E) : ChkBad K CR H bv E := by
  rcases h with ⟨h, rfl⟩ | ⟨a, xs, bs, x, rest, rfl, h1, h2, h3, rfl⟩
  · exact .inl ⟨h, r⟩
  · exact .inr ⟨a, xs, bs, x, rest, rfl, h1, h2, h3, r⟩
/-- which calls are refused, and how: (tag, value) -/
inductive Fail (K : PySem.W.Frag) (H : Hp) : Str → V → V → Str → V → Prop
  | osize {a b : V} {tn : String} (h : Sm K H a tn) (h2 : okSize a = false) : Fail K H "of" a b "number" (.str "size")
  | oblk {n : Nat} {b : V} {pl : Int} (n1 : 1 ≤ n) (n6 : n ≤ 6) (h : ChkB K H b pl) : Fail K H "of" (.int (n : Int)) b "round" (.int pl)
  | oname {n c i : Nat} {a : Addr} {xs : List V} {bs : List (List Nat)} {pre rest : List Nat} (n1 : 1 ≤ n) (n6 : n ≤ 6) (h : SqL K H a xs) (hp : 0 < xs.length) (hb : BlkAt K H xs bs) (h1 : bs[i]? = some (pre ++ c :: rest)) (h2 : ∀ b ∈ bs.take i, ∀ d ∈ b, d < n) (h3 : ∀ d ∈ pre, d < n) (h4 : n ≤ c) :
      Fail K H "of" (.int (n : Int)) (.ref a) "name" (.int (c : Int))
  | fsize {a b : V} {tn tm : String} (h : Sm K H a tn) (h2 : okSize a = false) (h3 : Sm K H b tm) : Fail K H "for" a b "number" (.str "size")
  | fseen {n : Nat} {b : V} {tn : String} (n1 : 1 ≤ n) (n6 : n ≤ 6) (h : Sm K H b tn) (h2 : okSeen n b = false) : Fail K H "for" (.int (n : Int)) b "number" (.str "seen")
def spRefused (K : PySem.W.Frag) : Sp := fun vs H Q _ => ∃ (w : Str) (a b : V) (tag : Str) (v : V), vs = [.str w, a, b] ∧ Fail K H w a b tag v ∧ ∀ t H', Same H H' → H t = none → H' t = some (.tup [.str tag, v]) → Q (.ref t) H'
section
variable {P : Program} {w : World} {K : PySem.W.Frag} {mg : Str → Option Value} {base : Heap} {CN CB CL CT CR : Addr}
theorem scRefused : FnScope ["_law_word", "_law_one", "_law_other", "_law_got", "caught"] ["_law_word", "_law_one", "_law_other"] (defScope sRefused) := ⟨rfl, rfl, rfl, by decide +kernel, rfl, by decide +kernel, by decide +kernel⟩
theorem ok_refused {f : Addr} {fd : FuncData} (F : Fun K "_law_refused" "_law_refused" sRefused f fd) (T : Errs P w K mg CN CB) (T3 : ErrR P w K mg CR) (TX : ErrsX K mg CN CB CT) (TR : ErrsR K CN CB CR)
    (D_of : Fok P w K mg base 4 "schedule_of" ["size", "blocks"] (spOf K CN CB CR)) (D_for : Fok P w K mg base 4 "steps_for" ["size", "seen"] (spFor K CB)) :
    FnOk P w K mg base (L2.CX P w) 5 f fd ["_law_word", "_law_one", "_law_other"] (spRefused K) := by
  refine F.okX scRefused (fun vs H Q E h => ?_) (fun cdv A outer s H vs Q E hr h => ?_)
  · obtain ⟨w, a, b, tag, v, rfl, _⟩ := h
    rfl
  obtain ⟨w, a, b, tag, v, rfl, h, k⟩ := h
  have sc := scRefused
  refine ⟨_, (pss_cons (ps_set (i := 3) sc.nd rfl (Or.inl rfl) (pe_tup (pa_cons pe_str pa_nil)))
    (pss_cons (ps_try_ch (Wout := fun c d _ H => E c d H) rfl rfl sc.nd (takes_of rfl rfl rfl rfl)
      (fun W pn xe tk po => (pss_cons (ps_if (pt_cmpR op_eq (pv 0) pe_str (nomark _)) (pss_one (ps_expr (pe_fT D_of (hr.mono (by decide)) 5 tk (pa_cons (pv 1) (pa_cons (pv 2) pa_nil))))) pss_nil)
      (pss_one (ps_if (pt_cmpR op_eq (pv 0) pe_str (nomark _)) (pss_one (ps_expr (pe_fT D_for (hr.mono (by decide)) 5 tk (pa_cons (pv 1) (pa_cons (pv 2) pa_nil))))) pss_nil))))
      (.named (i := 4) (c := .ref CN) ⟨rfl, by decide, .inl T.gN⟩ rfl rfl (fun a oe cls d pn hz hf => pss_one (ps_set (i := 3) sc.nd rfl (Or.inl rfl) (pe_tup (pa_cons pe_str (pa_cons (pe_xf (C := CN) TX.xn TX.fn hz hf (pv 4)) pa_nil)))))
      (.named (i := 4) (c := .ref CB) ⟨rfl, by decide, .inl T.gB⟩ rfl rfl (fun a oe cls d pn hz hf => pss_one (ps_set (i := 3) sc.nd rfl (Or.inl rfl) (pe_tup (pa_cons pe_str (pa_cons (pe_xf (C := CB) TX.xb TX.fb hz hf (pv 4)) pa_nil)))))
      (.named (i := 4) (c := .ref CR) ⟨rfl, by decide, .inl T3.gR⟩ rfl rfl (fun a oe cls d pn hz hf => pss_one (ps_set (i := 3) sc.nd rfl (Or.inl rfl) (pe_tup (pa_cons pe_str (pa_cons (pe_xf (C := CR) TR.xr TR.fr hz hf (pv 4)) pa_nil)))))
      (.plain (c := .ref CT) ⟨rfl, by decide, .inl TX.gT⟩ (fun a oe cls d pn hz hf => pss_one (ps_set (i := 3) sc.nd rfl (Or.inl rfl) (pe_tup (pa_cons pe_str pa_nil)))) .nil)))))
    (pss_one (ps_ret (pv 3))))), ?_⟩
  walk_at "go"
  refine ⟨by show 1 ≤ sizeLine; decide, fun p0 hp0 => ?_⟩
  walk_at "go"
  have s0 := same_new (o := .tup [.str "none"]) hp0
  generalize upd H p0 _ = H0 at s0 ⊢
  cases h with
  | @osize a b tn hS hv =>
    refine r_eqV ?_
    walk_at "go"
    refine ite_yes (by decide +kernel) ?_
    walk_at "go"
    refine ⟨a, b, rfl, .inl ⟨tn, sm_ext s0 hS, hv, ?_⟩⟩
    intro d H9 s9 hd9 σ9 hσ9
    obtain ⟨x0, x1, x2, x3, x4, rfl⟩ := five hσ9
    refine ⟨false, TX.bn, fun z => (by cases z), fun _ => ⟨true, TX.bb, fun _ a9 ha9 => ?_, fun z => by cases z⟩⟩
    walk_at "go"
    refine ⟨.ref a9, rfl, rfl, rfl, d, _, _, rfl, hd9, rfl, ?_⟩
    walk_at "go"
    refine ⟨by show 2 ≤ sizeLine; decide, fun t ht => ?_⟩
    show tRet (tVar 3) _ _ _
    walk_at "go"
    exact k t _ ((s0.trans s9).trans (same_new ht)) (none_of_same (s0.trans s9) ht) upd_same
  | @oblk n b pl n1 n6 hB =>
    refine r_eqV ?_
    walk_at "go"
    refine ite_yes (by decide +kernel) ?_
    walk_at "go"
    refine ⟨.int (n : Int), b, rfl, .inr ⟨n, rfl, n1, n6, .inl ((hB.keep s0).bad ?_)⟩⟩
    intro d H9 s9 hd9 σ9 hσ9
    obtain ⟨x0, x1, x2, x3, x4, rfl⟩ := five hσ9
    refine ⟨false, TR.rn, fun z => (by cases z), fun _ => ⟨false, TR.rb, fun z => (by cases z), fun _ => ⟨true, TR.rr, fun _ a9 ha9 => ?_, fun z => by cases z⟩⟩⟩
    walk_at "go"
    refine ⟨.ref a9, rfl, rfl, rfl, d, _, _, rfl, hd9, rfl, ?_⟩
    walk_at "go"
    refine ⟨by show 2 ≤ sizeLine; decide, fun t ht => ?_⟩
    show tRet (tVar 3) _ _ _
    walk_at "go"
    exact k t _ ((s0.trans s9).trans (same_new ht)) (none_of_same (s0.trans s9) ht) upd_same
  | @oname n c i a xs bs pre rest n1 n6 hq hp hb h1 h2 h3 h4 =>
    refine r_eqV ?_
    walk_at "go"
    refine ite_yes (by decide +kernel) ?_
    walk_at "go"
    refine ⟨.int (n : Int), .ref a, rfl, .inr ⟨n, rfl, n1, n6, .inr ⟨a, xs, bs, rfl, s0.seq hq, hp, hb.keep s0, .inl ⟨i, _, pre, c, rest, h1, h2, rfl, h3, h4, ?_⟩⟩⟩⟩
    intro d H9 s9 hd9 σ9 hσ9
    obtain ⟨x0, x1, x2, x3, x4, rfl⟩ := five hσ9
    refine ⟨true, TX.nn, fun _ a9 ha9 => ?_, fun z => by cases z⟩
    walk_at "go"
    refine ⟨.ref a9, rfl, rfl, rfl, d, _, _, rfl, hd9, rfl, ?_⟩
    walk_at "go"
    refine ⟨by show 2 ≤ sizeLine; decide, fun t ht => ?_⟩
    show tRet (tVar 3) _ _ _
    walk_at "go"
    exact k t _ ((s0.trans s9).trans (same_new ht)) (none_of_same (s0.trans s9) ht) upd_same
  | @fsize a b tn tm hS hv hT =>
    refine r_eqV ?_
    walk_at "go"
    refine ite_no (by decide +kernel) ?_
    walk_at "go"
    refine r_eqV ?_
    walk_at "go"
    refine ite_yes (by decide +kernel) ?_
    walk_at "go"
    refine ⟨a, b, tn, tm, rfl, sm_ext s0 hS, sm_ext s0 hT, .inl ⟨hv, ?_⟩⟩
    intro d H9 s9 hd9 σ9 hσ9
    obtain ⟨x0, x1, x2, x3, x4, rfl⟩ := five hσ9
    refine ⟨false, TX.bn, fun z => (by cases z), fun _ => ⟨true, TX.bb, fun _ a9 ha9 => ?_, fun z => by cases z⟩⟩
    walk_at "go"
    refine ⟨.ref a9, rfl, rfl, rfl, d, _, _, rfl, hd9, rfl, ?_⟩
    walk_at "go"
    refine ⟨by show 2 ≤ sizeLine; decide, fun t ht => ?_⟩
    show tRet (tVar 3) _ _ _
    walk_at "go"
    exact k t _ ((s0.trans s9).trans (same_new ht)) (none_of_same (s0.trans s9) ht) upd_same
  | @fseen n b tn n1 n6 hS hv =>
    refine r_eqV ?_
    walk_at "go"
    refine ite_no (by decide +kernel) ?_
    walk_at "go"
    refine r_eqV ?_
    walk_at "go"
    refine ite_yes (by decide +kernel) ?_
    walk_at "go"
    refine ⟨.int (n : Int), b, "int", tn, rfl, .int _, sm_ext s0 hS, .inr ⟨n, rfl, n1, n6, .inl ⟨hv, ?_⟩⟩⟩
    intro d H9 s9 hd9 σ9 hσ9
    obtain ⟨x0, x1, x2, x3, x4, rfl⟩ := five hσ9
    refine ⟨false, TX.bn, fun z => (by cases z), fun _ => ⟨true, TX.bb, fun _ a9 ha9 => ?_, fun z => by cases z⟩⟩
    walk_at "go"
    refine ⟨.ref a9, rfl, rfl, rfl, d, _, _, rfl, hd9, rfl, ?_⟩
    walk_at "go"
    refine ⟨by show 2 ≤ sizeLine; decide, fun t ht => ?_⟩
    show tRet (tVar 3) _ _ _
    walk_at "go"
    exact k t _ ((s0.trans s9).trans (same_new ht)) (none_of_same (s0.trans s9) ht) upd_same
end
end K8
namespace K8
open PySem L2 Er K7M
theorem good_chain {n : Nat} {S : Sys} {g : List Nat} (G : Good n S g) {L : List (List Nat)} (h : ∀ l ∈ L, ∃ c ∈ g, (S c).rd = l) : Chain L where
  nd := fun l hl => by
    obtain ⟨c, hc, rfl⟩ := h l hl
    obtain ⟨_, _, e, _⟩ := G.look hc
    rw [e]
    exact List.nodup_range.filter _
  pos := fun l hl => by
    obtain ⟨c, hc, rfl⟩ := h l hl
    have := (G.look hc).2.2.2.2.2.1
    omega
  sub := fun l hl m hm hle => by
    obtain ⟨c, hc, rfl⟩ := h l hl
    obtain ⟨d, hd, rfl⟩ := h m hm
    exact G.sub hc hd hle
  eq := fun l hl m hm hle => by
    obtain ⟨c, hc, rfl⟩ := h l hl
    obtain ⟨d, hd, rfl⟩ := h m hm
    exact G.eq_len hc hd hle
theorem mem_sorted {n : Nat} {S : Sys} {g : List Nat} (G : Good n S g) (l : List Nat) : l ∈ sortedLooks n S g ↔ ∃ c ∈ g, (S c).rd = l := by
  unfold sortedLooks looksOf
  rw [List.mem_mergeSort, List.map_map, List.mem_map]
  have pm := perm_inOrder G.nd fun i hi => (G.gon i hi).1
  constructor
  · rintro ⟨c, hc, rfl⟩
    exact ⟨c, pm.mem_iff.mp hc, rfl⟩
  · rintro ⟨c, hc, rfl⟩
    exact ⟨c, pm.mem_iff.mpr hc, rfl⟩
theorem up_sorted (n : Nat) (S : Sys) (g : List Nat) : (sortedLooks n S g).Pairwise fun x y => x.length ≤ y.length := by
  unfold sortedLooks
  refine (List.pairwise_mergeSort (le := lenLeN) (fun a b c h1 h2 => ?_) (fun a b => ?_) _).imp fun {a b} h => of_decide_eq_true h
  · have h1 := of_decide_eq_true h1
    have h2 := of_decide_eq_true h2
    exact decide_eq_true (by omega)
  · unfold lenLeN
    rcases Nat.le_total a.length b.length with h | h
    · rw [decide_eq_true h]; rfl
    · rw [decide_eq_true h]; simp
/-- the same blocks, each in some order -/
inductive PermsB : List (List Nat) → List (List Nat) → Prop
  | nil : PermsB [] []
  | cons {x y : List Nat} {xs ys : List (List Nat)} : x.Perm y → PermsB xs ys → PermsB (x :: xs) (y :: ys)
theorem PermsB.snoc {xs ys : List (List Nat)} {x y : List Nat} (h : PermsB xs ys) (p : x.Perm y) : PermsB (xs ++ [x]) (ys ++ [y]) := by
  induction h with
  | nil => exact .cons p .nil
  | cons q _ ih => exact .cons q ih
theorem PermsB.flat {xs ys : List (List Nat)} (h : PermsB xs ys) : xs.flatten.Perm ys.flatten := by
  induction h with
  | nil => exact .nil
  | cons q _ ih => rw [List.flatten_cons, List.flatten_cons]; exact q.append ih
theorem PermsB.len {xs ys : List (List Nat)} (h : PermsB xs ys) : xs.length = ys.length := by
  induction h with
  | nil => rfl
  | cons _ _ ih => rw [List.length_cons, List.length_cons, ih]
theorem PermsB.mem {xs ys : List (List Nat)} (h : PermsB xs ys) : ∀ b ∈ xs, ∃ b' ∈ ys, b.Perm b' := by
  induction h with
  | nil => intro b hb; cases hb
  | @cons x y xs ys q _ ih =>
    intro b hb
    rcases List.mem_cons.mp hb with rfl | hb
    · exact ⟨y, List.mem_cons_self .., q⟩
    · obtain ⟨b', h1, h2⟩ := ih b hb
      exact ⟨b', List.mem_cons_of_mem _ h1, h2⟩
theorem PermsB.told {n : Nat} {D : List Nat} {xs ys : List (List Nat)} (h : PermsB xs ys) (T : Told n D ys) : Told n D xs := by
  refine ⟨fun b hb => ?_, fun b hb c hc => ?_, ?_⟩
  · obtain ⟨b', h1, h2⟩ := h.mem b hb
    rw [h2.length_eq]
    exact T.ne b' h1
  · obtain ⟨b', h1, h2⟩ := h.mem b hb
    exact T.sub b' h1 c (h2.mem_iff.mp hc)
  · exact ((h.flat.append_left D).nodup_iff).mpr T.nd
theorem due_congr {n : Nat} {hs bs : List (List Nat)} (h : PermsB hs bs) : ∀ (D' D : List Nat), (∀ c, c ∈ D' ↔ c ∈ D) → ∀ c x, (c, x) ∈ dueOf n D bs → (c, x) ∈ dueOf n D' hs := by
  induction h with
  | nil => intro D' D _ c x h; exact h
  | @cons y b hs bs q _ ih =>
    intro D' D e c x h
    have eb : both n D' y = both n D b := List.filter_congr fun j _ => decide_eq_decide.mpr (by rw [e j, q.mem_iff])
    rcases List.mem_append.mp h with h | h
    · refine List.mem_append_left _ ?_
      obtain ⟨d, hd, ed⟩ := List.mem_map.mp h
      refine List.mem_map.mpr ⟨d, q.mem_iff.mpr hd, ?_⟩
      rw [eb]
      exact ed
    · refine List.mem_append_right _ (ih (D' ++ y) (D ++ b) (fun j => ?_) c x h)
      rw [List.mem_append, List.mem_append, e j, q.mem_iff]
theorem order_up (n : Nat) (g : List Nat) : (inOrder n g).Pairwise (· ≤ ·) := (List.pairwise_lt_range.imp fun h => Nat.le_of_lt h).filter _
theorem looks_eq {n : Nat} {S : Sys} {g : List Nat} {bs : List (List Nat)} {ls : List (Nat × List Nat)} (hb : ∀ c ∈ g, c < n) (nd : g.Nodup) (pg : g.Perm bs.flatten) (pl : ls.Perm (dueOf n [] bs)) (up : ls.Pairwise fun x y => x.1 ≤ y.1) (hS : ∀ il ∈ ls, (S il.1).rd = il.2) : ls = looksOf n S g := by
  have e1 : ls.map (·.1) = inOrder n g := by
    refine List.Perm.eq_of_pairwise (fun _ _ _ _ a b => Nat.le_antisymm a b) (List.pairwise_map.mpr up) (order_up n g) ?_
    have h1 := pl.map (·.1)
    rw [due_fst] at h1
    exact (h1.trans pg.symm).trans (perm_inOrder nd hb).symm
  unfold looksOf
  rw [← e1, List.map_map]
  conv => lhs; rw [← List.map_id ls]
  refine List.map_congr_left fun il hil => ?_
  show il = (il.1, (S il.1).rd)
  rw [hS il hil]
/-- the names of the blocks so far, one row a block -/
def unis (n : Nat) : List Nat → List (List Nat) → List (List Nat)
  | _, [] => []
  | D, b :: bs => both n D b :: unis n (D ++ b) bs
theorem mem_both {n : Nat} {D b : List Nat} (h1 : ∀ c ∈ D, c < n) (h2 : ∀ c ∈ b, c < n) (c : Nat) : c ∈ both n D b ↔ c ∈ D ++ b := by
  unfold both
  rw [List.mem_filter, List.mem_range, decide_eq_true_iff, List.mem_append]
  exact ⟨fun z => z.2, fun z => ⟨z.elim (h1 c) (h2 c), z⟩⟩
theorem blk_unis {n : Nat} : ∀ (bs : List (List Nat)) (D seen : List Nat), (∀ c, c ∈ seen ↔ c ∈ D) → (∀ c ∈ D, c < n) → Told n D bs → (∀ b ∈ bs, b.Sublist (List.range n)) → blkL seen (unis n D bs) = bs ∧ ∀ c, c ∈ lastL seen (unis n D bs) ↔ c ∈ D ++ bs.flatten
  | [], D, seen, e, _, _, _ => ⟨rfl, fun c => by show c ∈ seen ↔ _; rw [e c]; simp⟩
  | b :: bs, D, seen, e, hD, T, sub => by
    obtain ⟨nd, dj⟩ := T.head
    have hb := T.sub b (List.mem_cons_self ..)
    have hD2 : ∀ c ∈ D ++ b, c < n := fun c hc => (List.mem_append.mp hc).elim (hD c) (hb c)
    obtain ⟨r1, r2⟩ := blk_unis bs (D ++ b) (both n D b) (mem_both hD hb) hD2 T.tail fun x hx => sub x (List.mem_cons_of_mem _ hx)
    have ef : K7M.fresh (both n D b) seen = b := by
      have h1 := sub_self (sub b (List.mem_cons_self ..)) List.nodup_range
      conv => rhs; rw [← h1]
      unfold K7M.fresh both
      rw [List.filter_filter]
      refine List.filter_congr fun j _ => ?_
      have hj := dj j
      have ej := e j
      by_cases j1 : j ∈ b
      · have j2 : j ∉ seen := fun z => hj j1 (ej.mp z)
        simp [j1, j2]
      · by_cases j3 : j ∈ seen
        · simp [j1, j3]
        · have j4 : j ∉ D := fun z => j3 (ej.mpr z)
          simp [j1, j3, j4]
    refine ⟨?_, fun c => ?_⟩
    · show K7M.fresh (both n D b) seen :: blkL (both n D b) (unis n (D ++ b) bs) = _
      rw [ef, r1]
    · show c ∈ lastL (both n D b) (unis n (D ++ b) bs) ↔ _
      rw [r2 c, List.flatten_cons, List.append_assoc]
theorem unis_up {n : Nat} : ∀ (bs : List (List Nat)) (D : List Nat), (∀ c ∈ D, c < n) → D.Nodup → Told n D bs → (unis n D bs).Pairwise (fun x y => x.length < y.length) ∧ ∀ l ∈ unis n D bs, D.length < l.length
  | [], D, _, _, _ => ⟨.nil, fun l h => by cases h⟩
  | b :: bs, D, hD, ndD, T => by
    obtain ⟨nd, dj⟩ := T.head
    have hb := T.sub b (List.mem_cons_self ..)
    have hm := T.ne b (List.mem_cons_self ..)
    have hD2 : ∀ c ∈ D ++ b, c < n := fun c hc => (List.mem_append.mp hc).elim (hD c) (hb c)
    obtain ⟨r1, r2⟩ := unis_up bs (D ++ b) hD2 (List.nodup_append.mp T.tail.nd).1 T.tail
    have hl := len_both hD hb ndD nd dj
    refine ⟨List.pairwise_cons.mpr ⟨fun l h => ?_, r1⟩, fun l h => ?_⟩
    · have := r2 l h
      rw [List.length_append] at this
      omega
    · rcases List.mem_cons.mp h with rfl | h
      · omega
      · have := r2 l h
        rw [List.length_append] at this
        omega
theorem unis_mem {n : Nat} : ∀ (bs : List (List Nat)) (D : List Nat), Told n D bs → ∀ x, x ∈ unis n D bs ↔ ∃ c, (c, x) ∈ dueOf n D bs
  | [], D, _, x => ⟨fun h => (by cases h), fun ⟨c, h⟩ => (by cases h)⟩
  | b :: bs, D, T, x => by
    have ih := unis_mem bs (D ++ b) T.tail x
    show x ∈ both n D b :: unis n (D ++ b) bs ↔ ∃ c, (c, x) ∈ b.map (fun c => (c, both n D b)) ++ dueOf n (D ++ b) bs
    rw [List.mem_cons, ih]
    constructor
    · rintro (rfl | ⟨c, h⟩)
      · obtain ⟨c, hc⟩ : ∃ c, c ∈ b := List.exists_mem_of_length_pos (T.ne b (List.mem_cons_self ..))
        exact ⟨c, List.mem_append_left _ (List.mem_map.mpr ⟨c, hc, rfl⟩)⟩
      · exact ⟨c, List.mem_append_right _ h⟩
    · rintro ⟨c, h⟩
      rcases List.mem_append.mp h with h | h
      · obtain ⟨d, _, e⟩ := List.mem_map.mp h
        exact .inl (Prod.mk.inj e).2.symm
      · exact .inr ⟨c, h⟩
/-- the blocks shown by a run in which what is due was seen -/
theorem blocks_told {n : Nat} {S : Sys} {g : List Nat} {bs : List (List Nat)} {ws : List Nat} (G : Good n S g) (T : Told n [] bs) (sub : ∀ b ∈ bs, b.Sublist (List.range n)) (hg : ∀ c, c ∈ g ↔ c ∈ bs.flatten) (hS : ∀ c x, (c, x) ∈ dueOf n [] bs → (S c).rd = x) (hws : ∀ c ∈ ws, c ∈ bs.flatten) :
    blocksP (sortedLooks n S g) ws = bs := by
  have no : ∀ c ∈ ([] : List Nat), c < n := fun c h => by cases h
  obtain ⟨r1, r2⟩ := blk_unis bs [] [] (fun c => Iff.rfl) no T sub
  have hup := (unis_up bs [] no List.nodup_nil T).1
  have hmem : ∀ x, x ∈ unis n [] bs ↔ ∃ c ∈ g, (S c).rd = x := fun x => by
    rw [unis_mem bs [] T x]
    constructor
    · rintro ⟨c, h⟩
      refine ⟨c, (hg c).mpr ?_, hS c x h⟩
      rw [← due_fst n bs []]
      exact List.mem_map.mpr ⟨_, h, rfl⟩
    · rintro ⟨c, hc, e⟩
      have hc := (hg c).mp hc
      rw [← due_fst n bs []] at hc
      obtain ⟨⟨c', y⟩, h, rfl⟩ := List.mem_map.mp hc
      rw [← e, hS c' y h]
      exact ⟨c', h⟩
  rw [blocks_eq (good_chain G fun l hl => (mem_sorted G l).mp hl) (up_sorted n S g) hup fun x => by rw [hmem, mem_sorted G]]
  unfold blocksL
  rw [fresh_nil fun c hc => (r2 c).mpr (by simpa using hws c hc), if_pos rfl]
  exact r1
theorem told_sub {n : Nat} : ∀ (bs : List (List Nat)) (s0 c : Nat), c ∈ told n s0 bs → c ∈ bs.flatten
  | [], _, _, h => by cases h
  | b :: bs, s0, c, h => by
    rw [List.flatten_cons]
    rcases List.mem_append.mp h with h | h
    · refine List.mem_append_left _ ?_
      obtain ⟨l, hl, hc⟩ := List.mem_flatten.mp h
      rw [List.eq_of_mem_replicate hl] at hc
      unfold turnOf at hc
      rcases List.mem_append.mp hc with hc | hc
      · exact hc
      · obtain ⟨d, hd, hc⟩ := List.mem_flatMap.mp hc
        rw [List.eq_of_mem_replicate hc]
        exact hd
    · exact List.mem_append_right _ (told_sub bs _ c h)
theorem told_length {n : Nat} (n6 : n ≤ 6) : ∀ (bs : List (List Nat)) (s0 : Nat), (∀ b ∈ bs, b.length ≤ 6) → (told n s0 bs).length ≤ bs.length * 294
  | [], _, _ => Nat.le_refl _
  | b :: bs, s0, h => by
    have ih := told_length n6 bs (s0 + b.length) fun x hx => h x (List.mem_cons_of_mem _ hx)
    have hb := h b (List.mem_cons_self ..)
    have e : ((List.replicate (n + 1 - (s0 + b.length)) (turnOf n b)).flatten).length = (n + 1 - (s0 + b.length)) * (turnOf n b).length := by
      rw [List.length_flatten, List.map_replicate, List.sum_replicate_nat]
    show ((List.replicate (n + 1 - (s0 + b.length)) (turnOf n b)).flatten ++ told n (s0 + b.length) bs).length ≤ _
    rw [List.length_append, e, len_turn, List.length_cons]
    have h1 : b.length * n ≤ 36 := Nat.mul_le_mul hb n6
    have h2 : (n + 1 - (s0 + b.length)) * (b.length + b.length * n) ≤ 7 * 42 := Nat.mul_le_mul (by omega) (by omega)
    omega
theorem wrote_told {n : Nat} {S : Sys} {g l : List Nat} (G : Good n S g) (hg : ∀ c, c ∈ g ↔ c ∈ l) (hout : ∀ c, c ∉ l → (S c).cnt = 0) (sub : l.Sublist (List.range n)) : wroteOf n S = l := by
  have h1 := sub_self sub List.nodup_range
  conv => rhs; rw [← h1]
  refine List.filter_congr fun j _ => decide_eq_decide.mpr ⟨fun h => ?_, fun h => ?_⟩
  · by_cases e : j ∈ l
    · exact e
    · have := hout j e
      omega
  · exact (G.gon j ((hg j).mpr h)).2.2.1
theorem dp_pairs {K : PySem.W.Frag} {H : Hp} {t : Addr} {ls : List (Nat × List Nat)} (h : PairsT H t ls) : Dp K H (.ref t) (.tuple (ls.map pairD)) := by
  obtain ⟨ys, h3, hl, hp⟩ := h
  refine .tup (SqT.of h3) (dpAll_of pairD hl fun i y il e1 e2 => ?_)
  obtain ⟨p, r, rfl, a1, a2⟩ := hp i y il e1 e2
  exact .tup (SqT.of a1) (.cons (.int _) (.cons (dp_tupN (SqT.of a2)) .nil))
theorem okd_pairs (ls : List (Nat × List Nat)) : Okd 3 (.tuple (ls.map pairD)) := okd_tup (k := 2) fun e he => by
  obtain ⟨il, _, rfl⟩ := List.mem_map.mp he
  refine okd_tup (k := 1) fun z hz => ?_
  rcases List.mem_cons.mp hz with rfl | hz
  · exact (okd_int _).up (by decide)
  rcases List.mem_cons.mp hz with rfl | hz
  · exact okd_names _
  cases hz
/-- lists of names in a list -/
def RowsL (H : Hp) (p : Addr) (hs : List (List Nat)) : Prop := ∃ xs, H p = some (.lst xs) ∧ xs.length = hs.length ∧ ∀ (i : Nat) (x : V) (b : List Nat), xs[i]? = some x → hs[i]? = some b → ∃ r, x = .ref r ∧ H r = some (.lst (nV b))
theorem RowsL.keep {H H' : Hp} {p : Addr} {hs : List (List Nat)} (h : RowsL H p hs) (s : Same H H') : RowsL H' p hs := by
  obtain ⟨xs, h1, h2, h3⟩ := h
  refine ⟨xs, s _ _ h1, h2, fun i x b e1 e2 => ?_⟩
  obtain ⟨r, e, hr⟩ := h3 i x b e1 e2
  exact ⟨r, e, s _ _ hr⟩
def namesL (l : List Nat) : PyData := .list ((l.map fun (c : Nat) => (c : Int)).map PyData.int)
theorem dp_rows {K : PySem.W.Frag} {H : Hp} {p : Addr} {hs : List (List Nat)} (h : RowsL H p hs) : Dp K H (.ref p) (.list (hs.map namesL)) := by
  obtain ⟨xs, h1, hl, hp⟩ := h
  refine .lst (SqL.of h1) (dpAll_of namesL hl fun i y b e1 e2 => ?_)
  obtain ⟨r, rfl, hr⟩ := hp i y b e1 e2
  exact dp_lstN (SqL.of hr)
theorem okd_rows (hs : List (List Nat)) : Okd 2 (.list (hs.map namesL)) := okd_lst fun d hd => by
  obtain ⟨b, _, rfl⟩ := List.mem_map.mp hd
  exact okd_lstN b
theorem RowsL.blk {K : PySem.W.Frag} {H : Hp} {p : Addr} {hs : List (List Nat)} {n : Nat} (h : RowsL H p hs) (T : Told n [] hs) (n6 : n ≤ 6) : ∃ xs, SqL K H p xs ∧ xs.length = hs.length ∧ BlkAt K H xs hs := by
  obtain ⟨xs, h1, hl, hp⟩ := h
  refine ⟨xs, SqL.of h1, hl, hl, fun i x b e1 e2 => ?_, by simpa using T.nd, by have := told_len T; omega⟩
  obtain ⟨r, rfl, hr⟩ := hp i x b e1 e2
  refine ⟨⟨r, rfl, .inl (SqL.of hr)⟩, fun z => ?_⟩
  have := T.ne b (List.mem_of_getElem? e2)
  rw [z] at this
  simp at this
end K8
namespace K8
open PySem L2 Er K7M
/-- one step of a plain reading -/
local macro_rules | `(tactic| walk_at "step") => `(tactic| first
  | with_reducible refine r_seq ?_ | with_reducible refine r_nx ?_ | with_reducible refine r_asgN ?_ | with_reducible refine r_asgS ?_ | with_reducible refine r_asgT ?_ | with_reducible refine r_ifS ?_
  | with_reducible refine r_ret ?_ | with_reducible refine r_retN ?_ | with_reducible refine r_drop ?_ | with_reducible refine r_test ?_ | with_reducible refine r_B ?_ | with_reducible refine r_not ?_
  | with_reducible refine r_and ?_ | with_reducible refine r_or ?_ | with_reducible refine r_andV ?_ | with_reducible refine r_orV ?_ | with_reducible refine r_notV ?_
  | ((with_reducible refine' r_var ?e ?_); (case e => exact rfl)) | with_reducible refine r_c ?_ | with_reducible refine r_op ?_ | with_reducible refine r_un ?_
  | with_reducible refine r_I0 ?_ | with_reducible refine r_eqI ?_ | with_reducible refine r_neI ?_ | with_reducible refine r_bl ?_ | with_reducible refine r_nil ?_ | with_reducible refine r_cons ?_
  | with_reducible refine r_cb ?_ | with_reducible refine r_call ?_ | with_reducible refine r_tup ?_ | with_reducible refine r_lst ?_ | with_reducible refine r_fld ?_ | with_reducible refine r_bm ?_ | with_reducible refine r_bm0 ?_
  | with_reducible refine r_for ?_ | with_reducible refine r_rng ?_ | with_reducible refine r_rng2 ?_ | with_reducible refine r_lstI ?_ | with_reducible refine r_tupI ?_ | with_reducible refine r_lc ?_
  | with_reducible refine r_augS ?_ | with_reducible refine r_ipI ?_
  | with_reducible refine r_meth ?_ | with_reducible refine r_prop ?_ | with_reducible refine r_make ?_ | with_reducible refine r_din ?_ | with_reducible refine r_dnin ?_ | with_reducible refine r_dput ?_ | with_reducible refine r_dget ?_
  | with_reducible refine r_gN ?_ | with_reducible refine r_tsl ?_ | with_reducible refine r_noP ?_ | with_reducible refine r_part ?_ | with_reducible refine r_pI ?_ | with_reducible refine r_tif ?_ | with_reducible refine r_SL ?_ | with_reducible refine r_gC ?_ | with_reducible refine r_U ?_ | with_reducible refine r_sfld ?_ | with_reducible refine r_dnew ?_ | with_reducible refine r_keys ?_
  | with_reducible refine r_mkE ?_ | with_reducible refine iteT ?_ | with_reducible refine iteF ?_
  | with_reducible refine r_int ?_ | with_reducible refine r_min2 ?_ | with_reducible refine r_isN ?_ | with_reducible refine r_notN ?_)
/-- as far as it goes by itself -/
local macro_rules | `(tactic| walk_at "go") => `(tactic| ((repeat walk_at "step"); (try dsimp only)))

abbrev sComes : Stmt := top 31
def spComes : Sp := fun vs H Q _ => ∃ (a : Addr) (ns : List Int) (n : Nat), vs = [.ref a, .int (n : Int)] ∧ H a = some (.lst (ns.map V.int)) ∧ ns.length ≤ 100000 ∧ 1 ≤ n ∧ n ≤ 6 ∧
  ∀ (ns' : List Int) H', ns'.length ≤ ns.length → H' a = some (.lst (ns'.map V.int)) → Q (.bl true) H'
theorem LBlk.but {H H' : Hp} {p a : Addr} {bs : List (List Nat)} {zs : List V} (h : LBlk H p bs) (s : SameBut a H H') (ha : H a = some (.lst zs)) (n : p ≠ a) : LBlk H' p bs := by
  obtain ⟨ys, h1, h2⟩ := h
  exact ⟨ys, s _ _ n h1, h2.but ha fun b u nb z => s b u nb z⟩
/-- the rows handed in, under way -/
def HandI (H : Hp) (h a : Addr) (hs : List (List Nat)) : Prop := ∃ xs, H h = some (.lst xs) ∧ xs.length = hs.length ∧ ∀ (i : Nat) (x : V) (b : List Nat), xs[i]? = some x → hs[i]? = some b → ∃ r, x = .ref r ∧ H r = some (.lst (nV b)) ∧ r ≠ h ∧ r ≠ a
theorem HandI.rows {H : Hp} {h a : Addr} {hs : List (List Nat)} (I : HandI H h a hs) : RowsL H h hs := by
  obtain ⟨xs, h1, h2, h3⟩ := I
  refine ⟨xs, h1, h2, fun i x b e1 e2 => ?_⟩
  obtain ⟨r, e, hr, _⟩ := h3 i x b e1 e2
  exact ⟨r, e, hr⟩
theorem HandI.but {H H' : Hp} {h a : Addr} {hs : List (List Nat)} (I : HandI H h a hs) (s : SameBut a H H') (n : h ≠ a) : HandI H' h a hs := by
  obtain ⟨xs, h1, h2, h3⟩ := I
  refine ⟨xs, s _ _ n h1, h2, fun i x b e1 e2 => ?_⟩
  obtain ⟨r, e, hr, n1, n2⟩ := h3 i x b e1 e2
  exact ⟨r, e, s _ _ n2 hr, n1, n2⟩
theorem HandI.mut {H : Hp} {h a p : Addr} {hs : List (List Nat)} {o : HO} (I : HandI H h a hs) (n : h ≠ p) (hp : ∀ xs, H h = some (.lst xs) → ∀ (i : Nat), xs[i]? ≠ some (.ref p)) : HandI (upd H p o) h a hs := by
  obtain ⟨xs, h1, h2, h3⟩ := I
  refine ⟨xs, by rw [upd_ne n]; exact h1, h2, fun i x b e1 e2 => ?_⟩
  obtain ⟨r, e, hr, n1, n2⟩ := h3 i x b e1 e2
  subst e
  have rp : r ≠ p := fun z => hp xs h1 i (by rw [e1, z])
  exact ⟨r, rfl, by rw [upd_ne rp]; exact hr, n1, n2⟩
theorem HandI.snoc {H : Hp} {h a r : Addr} {hs : List (List Nat)} {xs : List V} {b : List Nat} (I : HandI H h a hs) (h1 : H h = some (.lst xs)) (hr : H r = some (.lst (nV b))) (n1 : r ≠ h) (n2 : r ≠ a) : HandI (upd H h (.lst (xs ++ [.ref r]))) h a (hs ++ [b]) := by
  obtain ⟨ys, h1', h2, h3⟩ := I
  rw [h1] at h1'
  cases h1'
  refine ⟨_, upd_same, by rw [List.length_append, List.length_append, h2]; rfl, fun i x c e1 e2 => ?_⟩
  rcases Nat.lt_or_ge i xs.length with hi | hi
  · rw [List.getElem?_append_left hi] at e1
    rw [List.getElem?_append_left (by rw [← h2]; exact hi)] at e2
    obtain ⟨r', e, hr', m1, m2⟩ := h3 i x c e1 e2
    exact ⟨r', e, by rw [upd_ne m1]; exact hr', m1, m2⟩
  · rw [List.getElem?_append_right hi] at e1
    rw [List.getElem?_append_right (by rw [← h2]; exact hi)] at e2
    rw [h2] at e1
    rcases Nat.eq_zero_or_pos (i - hs.length) with z | z
    · rw [z] at e1 e2
      cases e1
      cases e2
      exact ⟨r, rfl, by rw [upd_ne n1]; exact hr, n1, n2⟩
    · rw [List.getElem?_eq_none (by show 1 ≤ _; omega)] at e1
      cases e1
theorem HandI.keep {H H' : Hp} {h a : Addr} {hs : List (List Nat)} (I : HandI H h a hs) (s : Same H H') : HandI H' h a hs := by
  obtain ⟨xs, h1, h2, h3⟩ := I
  refine ⟨xs, s _ _ h1, h2, fun i x b e1 e2 => ?_⟩
  obtain ⟨r, e, hr, n1, n2⟩ := h3 i x b e1 e2
  exact ⟨r, e, s _ _ hr, n1, n2⟩
section
variable {P : Program} {w : World} {K : PySem.W.Frag} {mg : Str → Option Value} {base : Heap} {CN CB CL CR : Addr}
theorem scComes : FnScope ["_law_found", "_law_size", "_law_some_here", "_law_blocks_here", "_law_handed", "_law_block", "_law_row", "_law_kept", "_law_schedule", "_law_due_here", "_law_left", "_law_woven_here", "_law_name"] ["_law_found", "_law_size"] (defScope sComes) := ⟨rfl, rfl, rfl, by decide +kernel, rfl, by decide +kernel, by decide +kernel⟩
theorem ok_comes {f : Addr} {fd : FuncData} (F : Fun K "_law_comes" "_law_comes" sComes f fd) (m_len : mg "len" = none) (m_list : mg "list" = none) (m_tuple : mg "tuple" = none) (m_isinstance : mg "isinstance" = none) (m_all : mg "all" = none)
    (D_take : Fok P w K mg base 1 "_law_take" ["_law_found", "_law_many"] spTake) (D_some : Fok P w K mg base 2 "_law_some" ["_law_found", "_law_size"] spSome) (D_lblocks : Fok P w K mg base 2 "_law_blocks" ["_law_found", "_law_names"] (spLBlk K))
    (D_of : Fok P w K mg base 4 "schedule_of" ["size", "blocks"] (spOf K CN CB CR)) (D_for : Fok P w K mg base 4 "steps_for" ["size", "seen"] (spFor K CB)) (D_due : Fok P w K mg base 1 "_law_due" ["_law_blocks_here"] (spLDue K))
    (D_int : Fok P w K mg base 1 "_law_int" ["_law_thing"] (spThing K fun v _ => isI v)) (D_own : Fok P w K mg base 1 "_law_own_run" ["_law_size", "_law_schedule"] (spOwn K))
    (D_run : Fok P w K mg base 6 "levels_run" ["size", "schedule"] (spRun K CN CB)) (D_blocks : Fok P w K mg base 7 "levels_blocks" ["size", "schedule"] (spBlocks K CN CB))
    (D_woven : Fok P w K mg base 2 "_law_woven" ["_law_found", "_law_schedule", "_law_due_here", "_law_size"] (spWoven K)) :
    FnOk P w K mg base (L2.CX P w) 8 f fd ["_law_found", "_law_size"] spComes := by
  refine F.okX scComes (fun vs H Q E h => ?_) (fun cdv A outer s H vs Q E hr h => ?_)
  · obtain ⟨a, ns, n, rfl, _⟩ := h
    rfl
  obtain ⟨a, ns, n, rfl, ha, hl, n1, n6, k⟩ := h
  have sc := scComes
  refine ⟨_, (pss_cons (ps_set (i := 2) sc.nd rfl (Or.inr rfl) (pe_f D_some (hr.mono (by decide)) (pa_cons (pv 0) (pa_cons (pv 1) pa_nil))))
      (pss_cons (ps_set (i := 3) sc.nd rfl (Or.inl rfl) (pe_f D_lblocks (hr.mono (by decide)) (pa_cons (pv 0) (pa_cons (pv 2) pa_nil))))
      (pss_cons (ps_set (i := 4) sc.nd rfl (Or.inl rfl) (pe_lst pa_nil))
      (pss_cons (ps_for (passes_of rfl) rfl (pi_list (pv 3)) (pg_name (i := 5) sc.nd rfl (Or.inl rfl)) (pss_cons (ps_set (i := 6) sc.nd rfl (Or.inl rfl) (pe_callTy c_list (by rfl) m_list (by decide +kernel) (pa_cons (pv 5) pa_nil)))
      (Evl.pss_cut (ps_if (pt_cmpR op_eq (pe_f D_take (hr.mono (by decide)) (pa_cons (pv 0) (pa_cons pe_int pa_nil))) pe_int (nomark _)) (pss_one (ps_expr (pe_bm0 PySem.F.plainAttrs_list PySem.F.slot_list_reverse PySem.F.type_list_reverse mt_reverse (pv 6)))) pss_nil)
      (pss_one (ps_expr (pe_bm PySem.F.plainAttrs_list PySem.F.slot_list_append PySem.F.type_list_append mt_append (pv 4) (pa_cons (pv 6) pa_nil)))))))
      (pss_cons (ps_setLc (i := 7) (own := [("_law_row", 6)]) (g := gName 6) (tt := tYes) (by rfl) sc.nd rfl rfl (sw_true rfl rfl rfl (by decide +kernel)) (pi_list (pv 4)) (blkOk_by (own := [("_law_row", 6)]) (N := ["_law_found", "_law_size", "_law_some_here", "_law_blocks_here", "_law_handed", "_law_block", "_law_row", "_law_kept", "_law_schedule", "_law_due_here", "_law_left", "_law_woven_here", "_law_name"]) (sc := defScope sComes) (by decide +kernel)) (fun _ _ _ _ _ => pg_name (i := 6) sc.nd rfl (Or.inl rfl)) (fun _ _ _ _ _ => pts_nil) (fun _ _ _ _ _ => (pe_callTy (listOK K) (by rfl) m_list (by decide +kernel) (pa_cons (pv 6) pa_nil))))
      (pss_cons (ps_set (i := 8) sc.nd rfl (Or.inl rfl) (pe_f D_of (hr.mono (by decide)) (pa_cons (pv 1) (pa_cons (pv 4) pa_nil))))
      (pss_cons (ps_set (i := 9) sc.nd rfl (Or.inl rfl) (pe_f D_due (hr.mono (by decide)) (pa_cons (pv 3) pa_nil)))
      (pss_cons (ps_if (PW.pt (pw_or (pt_not (pt_val (pe_callB call_isi (by rfl) m_isinstance (by decide +kernel) (pa_cons (pv 8) (pa_cons (pe_bltn (v := .ty "tuple") (u := .type "tuple") (by rfl) m_tuple (by decide +kernel) rfl) pa_nil))))) (pw_or (pt_cmpR (op_neD hr.units) (pv 4) (pv 7) (nomark _)) (pw_or1 (pt_cmpR (op_neD hr.units) (pv 8) (pe_f D_of (hr.mono (by decide)) (pa_cons (pv 1) (pa_cons (pv 7) pa_nil))) (nomark _)))))) (pss_one (ps_ret pe_bl)) pss_nil)
      (pss_cons (ps_if (pt_not (pt_val (pe_callB (cr_all rfl) (by rfl) m_all (by decide +kernel) (pa_cons (pe_lc (own := [("_law_name", 12)]) (g := gName 12) (tt := tYes) rfl sc.nd (pi_tup (pv 8)) (blkOk_by (own := [("_law_name", 12)]) (N := ["_law_found", "_law_size", "_law_some_here", "_law_blocks_here", "_law_handed", "_law_block", "_law_row", "_law_kept", "_law_schedule", "_law_due_here", "_law_left", "_law_woven_here", "_law_name"]) (sc := defScope sComes) (by decide +kernel)) (fun _ _ _ _ _ => pg_name (i := 12) sc.nd rfl (Or.inl rfl)) (fun _ _ _ _ _ => pts_nil) (fun _ _ _ _ _ => (pe_and (pe_f D_int (hr.mono (by decide)) (pa_cons (pv 12) pa_nil)) (pe_one (pe_cmpR (inK K) (pv 12) (pv 2) (by with_unfolding_all rfl)))))) pa_nil)))) (pss_one (ps_ret pe_bl)) pss_nil)
      (pss_cons (ps_set (i := 10) sc.nd rfl (Or.inl rfl) (pe_f D_own (hr.mono (by decide)) (pa_cons (pv 1) (pa_cons (pv 8) pa_nil))))
      (pss_cons (ps_if (pt_cmpR (op_neD hr.units) (pe_callTy c_tuple (by rfl) m_tuple (by decide +kernel) (pa_cons (pe_lc (own := [("_law_row", 6)]) (g := gName 6) (tt := tYes) rfl sc.nd (pi_list (pv 10)) (blkOk_by (own := [("_law_row", 6)]) (N := ["_law_found", "_law_size", "_law_some_here", "_law_blocks_here", "_law_handed", "_law_block", "_law_row", "_law_kept", "_law_schedule", "_law_due_here", "_law_left", "_law_woven_here", "_law_name"]) (sc := defScope sComes) (by decide +kernel)) (fun _ _ _ _ _ => pg_name (i := 6) sc.nd rfl (Or.inl rfl)) (fun _ _ _ _ _ => pts_nil) (fun _ _ _ _ _ => (pe_tup (pa_cons (pe_ix (ixL K) (pv 6) pe_int (fun _ _ => rfl)) (pa_cons (pe_ix (ixL K) (pv 6) pe_int (fun _ _ => rfl)) pa_nil))))) pa_nil)) (pv 9) (nomark _)) (pss_one (ps_ret pe_bl)) pss_nil)
      (pss_cons (ps_for (passes_of rfl) rfl (pi_list (pv 10)) (pg_name (i := 6) sc.nd rfl (Or.inl rfl)) (pss_one (ps_if (PW.pt (pw_or (pt_cmpR op_ne (pe_ix ix_list (pv 6) pe_int (fun _ _ => rfl)) (pe_op op_mul (pe_op op_sub (pe_op op_add (pv 1) pe_int) (pe_callB c_len (by rfl) m_len PySem.boot_len (pa_cons (pe_ix ix_list (pv 6) pe_int (fun _ _ => rfl)) pa_nil))) (pe_op op_add (pv 1) pe_int)) (nomark _)) (pw_or1 (pt_cmpR op_ne (pe_ix ix_list (pv 6) pe_int (fun _ _ => rfl)) (pe_f D_for (hr.mono (by decide)) (pa_cons (pv 1) (pa_cons (pe_callB c_len (by rfl) m_len PySem.boot_len (pa_cons (pe_ix ix_list (pv 6) pe_int (fun _ _ => rfl)) pa_nil)) pa_nil))) (nomark _))))) (pss_one (ps_ret pe_bl)) pss_nil)))
      (pss_cons (ps_if (pt_cmpR (op_neD hr.units) (pe_f D_run (hr.mono (by decide)) (pa_cons (pv 1) (pa_cons (pv 8) pa_nil))) (pe_tup (pa_cons (pe_callTy c_tuple (by rfl) m_tuple (by decide +kernel) (pa_cons (pv 2) pa_nil)) (pa_cons (pv 9) pa_nil))) (nomark _)) (pss_one (ps_ret pe_bl)) pss_nil)
      (pss_cons (ps_set (i := 11) sc.nd rfl (Or.inl rfl) (pe_f D_woven (hr.mono (by decide)) (pa_cons (pv 0) (pa_cons (pv 8) (pa_cons (pv 9) (pa_cons (pv 1) pa_nil))))))
      (pss_cons (ps_if (pt_cmpR (op_neD hr.units) (pe_f D_run (hr.mono (by decide)) (pa_cons (pv 1) (pa_cons (pv 11) pa_nil))) (pe_tup (pa_cons (pe_callTy c_tuple (by rfl) m_tuple (by decide +kernel) (pa_cons (pv 2) pa_nil)) (pa_cons (pv 9) pa_nil))) (nomark _)) (pss_one (ps_ret pe_bl)) pss_nil)
      (pss_one (ps_ret (pe_cmpR (op_eqD hr.units) (pe_f D_blocks (hr.mono (by decide)) (pa_cons (pv 1) (pa_cons (pv 11) pa_nil))) (pe_callTy c_tuple (by rfl) m_tuple (by decide +kernel) (pa_cons (pv 3) pa_nil)) (nomark _))))))))))))))))))), ?_⟩
  walk_at "go"
  refine ⟨a, ns, n, rfl, ha, hl, n1, n6, fun q l ns1 H1 lne lsub l1 h1 s1 hq0 hq => ?_⟩
  have qa : q ≠ a := fun z => by rw [z, ha] at hq0; cases hq0
  have ln : l.length ≤ n := by have := lsub.length_le; rwa [List.length_range] at this
  have lp : 1 ≤ l.length := List.length_pos_iff.mpr lne
  walk_at "go"
  refine ⟨a, q, ns1, l, rfl, h1, by omega, hq, qa, lp, by omega, fun p bs ns2 H2 bne bperm bsub l2 h2 s2 hp0 hp => ?_⟩
  have hp0 : H p = none := s1.none_ hp0 fun z => by rw [z, h1] at hp0; cases hp0
  have pa : p ≠ a := fun z => by rw [z, ha] at hp0; cases hp0
  have hq2 := s2 _ _ qa hq
  have s02 := s1.trans s2
  have bsubr : ∀ b ∈ bs, b.Sublist (List.range n) := fun b hb => (bsub b hb).trans lsub
  have lnd : l.Nodup := lsub.nodup List.nodup_range
  have T : Told n [] bs := ⟨fun b hb => List.length_pos_iff.mpr (bne b hb), fun b hb c hc => List.mem_range.mp ((bsubr b hb).subset hc), by simpa using bperm.nodup_iff.mpr lnd⟩
  have l2 : ns2.length ≤ ns.length := by omega
  have bl6 : bs.length ≤ 6 := by have := len_flat bs bne; have := bperm.length_eq; omega
  clear s1 s2 h1 hq l1
  walk_at "go"
  refine ⟨by show 0 ≤ sizeLine; decide, fun h hh => ?_⟩
  have h3a : (upd H2 h (.lst [])) a = some (.lst (ns2.map V.int)) := (same_new hh) _ _ h2
  have h3q : (upd H2 h (.lst [])) q = some (.lst (nV l)) := (same_new hh) _ _ hq2
  have h3p : LBlk (upd H2 h (.lst [])) p bs := hp.keep (same_new hh)
  have ha' : h ≠ a := fun z => by rw [z, h2] at hh; cases hh
  have hh0 : H h = none := s02.none_ hh ha'
  have hq' : h ≠ q := fun z => by rw [z, hq2] at hh; cases hh
  have hp' : h ≠ p := fun z => by obtain ⟨ys, hy, _⟩ := hp; rw [z, hy] at hh; cases hh
  have h3h : (upd H2 h (.lst [])) h = some (.lst []) := upd_same
  generalize upd H2 h (.lst []) = H3 at h3a h3q h3p h3h ⊢
  clear hh h2 hq2 hp s02 hh0
  walk_at "go"
  obtain ⟨ys, hys, hyI⟩ := h3p
  refine r_lstK (SqL.of hys) ?_
  refine r_forL (xs := ys) (fun i σ H' => ∃ v5 v6, σ = [some (.ref a), some (.int (n : Int)), some (.ref q), some (.ref p), some (.ref h), v5, v6, none, none, none, none, none, none] ∧ (∀ b o, b ≠ a → b ≠ h → H3 b = some o → H' b = some o) ∧ (∃ ns' : List Int, H' a = some (.lst (ns'.map V.int)) ∧ ns'.length ≤ ns.length) ∧ ∃ hs, HandI H' h a hs ∧ PermsB hs (bs.take i))
    ⟨none, none, rfl, fun b o _ _ z => z, ⟨ns2, h3a, by omega⟩, [], ⟨[], h3h, rfl, fun i x b e => by simp at e⟩, .nil⟩ (fun i σ H' hi z => SqL.of (z.choose_spec.choose_spec.2.1 _ _ pa (Ne.symm hp') hys)) ?_ ?_
  · rintro i x σ H4 hx ⟨v5, v6, rfl, s4, ⟨ns4, h4a, l4⟩, hs, I4, PB⟩
    have hib : i < bs.length := by rw [← hyI.1]; exact (List.getElem?_eq_some_iff.mp hx).1
    obtain ⟨b, hbi⟩ : ∃ b, bs[i]? = some b := ⟨bs[i], List.getElem?_eq_getElem hib⟩
    obtain ⟨t, rfl, ht0⟩ := hyI.2 i x b hx hbi
    have ht4 := s4 _ _ (ne_of ht0 h3a (by intro z; cases z)) (ne_of ht0 h3h (by intro z; cases z)) ht0
    have etk : bs.take (i + 1) = bs.take i ++ [b] := by rw [List.take_add_one, hbi]; rfl
    walk_at "go"
    refine r_listO (.inr (SqT.of ht4)) fun r hr4 => ?_
    obtain ⟨xs4, hx4, _⟩ := id I4
    have ra : r ≠ a := fun z => by rw [z, h4a] at hr4; cases hr4
    have rh : r ≠ h := fun z => by rw [z, hx4] at hr4; cases hr4
    have hr3 : H3 r = none := by
      cases e : H3 r with
      | none => rfl
      | some o => rw [s4 r o ra rh e] at hr4; cases hr4
    have s5 := same_new (o := .lst (nV b)) hr4
    have I5 : HandI (upd H4 r (.lst (nV b))) h a hs := I4.but (fun b o _ z => s5 b o z) ha'
    have nr5 : ∀ xs, (upd H4 r (.lst (nV b))) h = some (.lst xs) → ∀ i : Nat, xs[i]? ≠ some (.ref r) := fun xs e i z => by
      rw [upd_ne (Ne.symm rh)] at e
      obtain ⟨xs', e', hl', h3'⟩ := I4
      rw [e] at e'
      cases e'
      have hi : i < hs.length := by rw [← hl']; exact (List.getElem?_eq_some_iff.mp z).1
      obtain ⟨r', er, hr', _⟩ := h3' i _ hs[i] z (List.getElem?_eq_getElem hi)
      cases er
      rw [hr4] at hr'
      cases hr'
    have h5a := s5 _ _ h4a
    have h5r : (upd H4 r (.lst (nV b))) r = some (.lst (nV b)) := upd_same
    have s35 : ∀ b' o, b' ≠ a → b' ≠ h → H3 b' = some o → (upd H4 r (.lst (nV b))) b' = some o := fun b' o n1 n2 z => s5 _ _ (s4 b' o n1 n2 z)
    generalize upd H4 r (.lst (nV b)) = H5 at I5 nr5 h5a h5r s35 ⊢
    walk_at "go"
    refine r_cut (Mid := fun σ H' => σ = [some (.ref a), some (.int (n : Int)), some (.ref q), some (.ref p), some (.ref h), some (.ref t), some (.ref r), none, none, none, none, none, none] ∧ (∀ b o, b ≠ a → b ≠ h → H3 b = some o → H' b = some o) ∧ (∃ ns' : List Int, H' a = some (.lst (ns'.map V.int)) ∧ ns'.length ≤ ns.length) ∧ HandI H' h a hs ∧ ∃ b', b'.Perm b ∧ H' r = some (.lst (nV b'))) ?_ ?_
    · walk_at "go"
      refine ⟨a, ns4, 2, rfl, h5a, by omega, by decide, fun z ns6 H6 z0 z2 l6 h6a s6 => ?_⟩
      have I6 := I5.but s6 ha'
      have h6r := s6 _ _ ra h5r
      have nr6 : ∀ xs, H6 h = some (.lst xs) → ∀ i : Nat, xs[i]? ≠ some (.ref r) := fun xs e => by
        obtain ⟨xs', e', _⟩ := I5
        have e2 := s6 _ _ ha' e'
        rw [e] at e2
        cases e2
        exact nr5 xs e'
      walk_at "go"
      refine iteB (fun e => ?_) fun e => ?_
      · walk_at "go"
        refine r_tyL (SqL.of h6r) ⟨r, _, rfl, rfl, h6r, ?_⟩
        walk_at "go"
        refine ⟨rfl, fun b' o n1 n2 y => ?_, ⟨ns6, by rw [upd_ne (Ne.symm ra)]; exact h6a, by omega⟩, I6.mut (Ne.symm rh) nr6, b.reverse, List.reverse_perm b, by rw [upd_same]; unfold nV; rw [List.map_reverse]⟩
        rw [upd_ne (ne_of_none y hr3)]
        exact s6 _ _ n1 (s35 b' o n1 n2 y)
      · walk_at "go"
        exact ⟨rfl, fun b' o n1 n2 y => s6 _ _ n1 (s35 b' o n1 n2 y), ⟨ns6, h6a, by omega⟩, I6, b, .refl _, h6r⟩
    · rintro σ H6 ⟨rfl, s6, ⟨ns6, h6a, l6⟩, I6, b', pb, h6r⟩
      obtain ⟨xs6, hx6, hl6, _⟩ := id I6
      walk_at "go"
      refine r_tyL (SqL.of hx6) ?_
      walk_at "go"
      refine r_app hx6 (Nat.lt_of_le_of_lt (m := 100000) ?_ (by decide)) ?_
      · rw [hl6, PB.len, List.length_take]
        omega
      refine ⟨_, _, rfl, fun b'' o n1 n2 y => by rw [upd_ne n2]; exact s6 _ _ n1 n2 y, ⟨ns6, by rw [upd_ne (Ne.symm ha')]; exact h6a, l6⟩, _, I6.snoc hx6 h6r rh ra, by rw [etk]; exact PB.snoc pb⟩
  · rintro σ H4 ⟨v5, v6, rfl, s4, ⟨ns4, h4a, l4⟩, hs, I4, PB⟩
    rw [hyI.1, List.take_length] at PB
    have h4q : H4 q = some (.lst (nV l)) := s4 _ _ qa (Ne.symm hq') h3q
    have h4p : LBlk H4 p bs := ⟨ys, s4 _ _ pa (Ne.symm hp') hys, hyI.1, fun i y b e1 e2 => by
      obtain ⟨t, e, ht⟩ := hyI.2 i y b e1 e2
      exact ⟨t, e, s4 _ _ (ne_of ht h3a (by intro z; cases z)) (ne_of ht h3h (by intro z; cases z)) ht⟩⟩
    have hR := I4.rows
    have T2 := PB.told T
    have hsl := PB.len
    have hpos : 0 < hs.length := by
      rw [hsl]
      rcases Nat.eq_zero_or_pos bs.length with z | z
      · have := bperm.length_eq
        rw [List.length_eq_zero_iff.mp z] at this
        simp at this
        omega
      · exact z
    clear hys hyI h3a h3q h3h s4 I4
    have h2 := T2.sub
    have hall : ∀ b ∈ hs, ∀ c ∈ b, c < n := h2
    walk_at "go"
    obtain ⟨xs, hx, hxl, hxs⟩ := id hR
    refine r_lstK (SqL.of hx) ?_
    intro D hD
    refine lc_list (xs := xs) (fun i H' => Same H4 H' ∧ HandI H' D D (hs.take i)) ⟨same_new hD, [], upd_same, rfl, fun i x b e => by simp at e⟩ (fun i H' _ p => p.1.seq (SqL.of hx)) (fun i x H5 hxi p => ?_) fun H5 p => ?_
    · obtain ⟨s5, I5⟩ := p
      have hih : i < hs.length := by rw [← hxl]; exact (List.getElem?_eq_some_iff.mp hxi).1
      obtain ⟨r, rfl, hr4⟩ := hxs i x hs[i] hxi (List.getElem?_eq_getElem hih)
      have etk : hs.take (i + 1) = hs.take i ++ [hs[i]] := by rw [List.take_add_one, List.getElem?_eq_getElem hih]; rfl
      refine ⟨rfl, ?_⟩
      refine r_tYes ?_
      refine iteT ?_
      walk_at "go"
      refine r_listO (.inl (SqL.of (s5 _ _ hr4))) fun r2 hr2 => ?_
      have s6 := same_new (o := .lst (nV hs[i])) hr2
      obtain ⟨xs5, hx5, hl5, _⟩ := id I5
      have rD : r2 ≠ D := fun z => by rw [z, hx5] at hr2; cases hr2
      refine ⟨xs5, s6 _ _ hx5, ?_, Same.upd2 (s5.trans s6) hD, ?_⟩
      · rw [hl5, List.length_take]
        exact Nat.lt_of_le_of_lt (m := 6) (by omega) (by decide)
      · rw [etk]
        exact (I5.keep s6).snoc (s6 _ _ hx5) upd_same rD rD
    · obtain ⟨s5, I5⟩ := p
      rw [hxl, List.take_length] at I5
      have hK := I5.rows
      walk_at "go"
      obtain ⟨xb, hxb1, hxb2, hxb3⟩ := (hR.keep s5).blk (K := K) T2 n6
      refine ⟨.int (n : Int), .ref h, rfl, .inr ⟨n, rfl, n1, n6, .inr ⟨h, xb, hs, rfl, hxb1, by omega, hxb3, .inr ⟨hall, fun t H6 s6 ht => ?_⟩⟩⟩⟩
      have s46 := s5.trans s6
      walk_at "go"
      refine ⟨p, bs, n, rfl, h4p.keep s46, T, n6, fun u ls H7 pl up s7 hu => ?_⟩
      have s47 := s46.trans s7
      have ht7 := s7 _ _ ht
      walk_at "go"
      -- what the run tells
      obtain ⟨rg, ro, rd9⟩ := run_told n1 T2
      have hks : ∀ c ∈ told n 0 hs, c < n := fun c hc => by
        obtain ⟨b, hb, hcb⟩ := List.mem_flatten.mp (told_sub hs 0 c hc)
        exact hall b hb c hcb
      have hkl : (told n 0 hs).length ≤ 1764 := by
        have := told_length n6 hs 0 fun b hb => by
          obtain ⟨b', hb', pb⟩ := PB.mem b hb
          have h1 := (bsub b' hb').length_le
          rw [pb.length_eq]
          omega
        omega
      have G := good_run n1 hks
      have hgb : ∀ c, c ∈ (runN n (told n 0 hs)).2 ↔ c ∈ bs.flatten := fun c => by rw [rg]; exact PB.flat.mem_iff
      have hgl : ∀ c, c ∈ (runN n (told n 0 hs)).2 ↔ c ∈ l := fun c => by rw [hgb c]; exact bperm.mem_iff
      have hS : ∀ c x, (c, x) ∈ dueOf n [] bs → ((runN n (told n 0 hs)).1 c).rd = x := fun c x hx => by rw [rd9 c x (due_congr PB [] [] (fun _ => Iff.rfl) c x hx)]
      have els : ls = looksOf n (runN n (told n 0 hs)).1 (runN n (told n 0 hs)).2 := looks_eq (fun c hc => (G.gon c hc).1) G.nd (by rw [rg]; exact PB.flat) pl up fun il hil => hS il.1 il.2 (pl.mem_iff.mp hil)
      have ews : wroteOf n (runN n (told n 0 hs)).1 = l := wrote_told G hgl (fun c hc => by
        rw [ro c fun z => hc ((hgl c).mp (by rw [rg]; exact z))]
        rfl) lsub
      have ebl : blocksP (sortedLooks n (runN n (told n 0 hs)).1 (runN n (told n 0 hs)).2) l = bs := blocks_told G T bsubr hgb hS fun c hc => bperm.mem_iff.mpr hc
      have hlsl : ls.length = l.length := by
        have h1 := congrArg List.length (due_fst n bs [])
        rw [List.length_map] at h1
        have h2 := bperm.length_eq
        rw [pl.length_eq]
        omega
      have hdue : DueOk n (told n 0 hs) ls := fun il hil => by
        rw [els] at hil
        obtain ⟨c, hc, rfl⟩ := List.mem_map.mp hil
        have hcg : c ∈ (runN n (told n 0 hs)).2 := of_decide_eq_true (List.mem_filter.mp hc).2
        obtain ⟨hcn, hlev, hrd, hself, hle, hge, hcnt⟩ := G.look hcg
        refine ⟨hcn, hcg, hle, ?_⟩
        have e : (((n + 1 - ((runN n (told n 0 hs)).1 c).rd.length) * (n + 1) : Nat) : Int) = ((n : Int) + 1 - (((runN n (told n 0 hs)).1 c).rd.length : Int)) * ((n : Int) + 1) := by
          rw [Int.natCast_mul]
          congr 1
          omega
        rw [← e] at hcnt
        exact Int.ofNat.inj hcnt
      clear hS hgb hgl ro rd9 rg
      generalize hkk : told n 0 hs = ks at hks hkl G els ews ebl hdue ht7
      -- the tests
      refine ⟨.ref t, .ty "tuple", .type "tuple", .type "tuple", true, rfl, .ty _, sm_ty (.tup (SqT.of ht7)), kit_ty (by decide +kernel), _, rfl, ?_⟩
      refine ite_no rfl ?_
      walk_at "go"
      refine r_neSame (dp_rows (hR.keep s47)) (dp_rows (hK.keep (s6.trans s7))) (okd_rows hs) (by decide) ?_
      walk_at "go"
      obtain ⟨xc, hxc1, hxc2, hxc3⟩ := (hK.keep (s6.trans s7)).blk (K := K) T2 n6
      refine ⟨.int (n : Int), .ref D, rfl, .inr ⟨n, rfl, n1, n6, .inr ⟨D, xc, hs, rfl, hxc1, by omega, hxc3, .inr ⟨hall, fun t2 H8 s8 ht2 => ?_⟩⟩⟩⟩
      rw [hkk] at ht2
      walk_at "go"
      refine r_neSame (dp_tupN (SqT.of (s8 _ _ ht7))) (dp_tupN (SqT.of ht2)) (okd_names _) (by decide) ?_
      have s48 := s47.trans s8
      have ht8 := s8 _ _ ht7
      walk_at "go"
      refine r_tupK (SqT.of ht8) ?_
      refine r_lcT (fun _ => true) (fun _ => .bl true) (by rw [nV_len]; omega) (SqT.of ht8) (fun _ => rfl) (fun i x H9 hx s9 QT y => y H9 (Same.refl _)) (fun i x H9 hx _ s9 Q y => ?_) fun p9 H9 hp9 s9 h9 => ?_
      · obtain ⟨c, hc, rfl⟩ := nV_at hx
        walk_at "go"
        refine ⟨.int (c : Int), "int", rfl, .int _, fun H10 s10 => ?_⟩
        walk_at "go"
        refine ite_yes rfl ?_
        walk_at "go"
        refine r_inL (SqL.of (s10 _ _ (s9 _ _ (s48 _ _ h4q)))) ?_
        have hcl : c ∈ l := by
          have h1 := told_sub hs 0 c (by rw [hkk]; exact List.mem_of_getElem? hc)
          exact bperm.mem_iff.mp (PB.flat.mem_iff.mp h1)
        rw [decide_eq_true hcl]
        exact y H10 s10
      walk_at "go"
      have eb : (((List.range (nV ks).length).filter fun _ => true).map fun _ => V.bl true) = (List.replicate ks.length true).map V.bl := by
        rw [List.filter_eq_self.mpr (fun _ _ => rfl), nV_len, List.map_const', List.length_range, List.map_replicate]
      rw [eb] at h9
      refine r_all (SqL.of h9) ?_
      walk_at "go"
      refine ite_no (by simp) ?_
      have s49 := s48.trans s9
      have ht9 := s9 _ _ ht8
      walk_at "go"
      refine ⟨n, t, ks, rfl, n1, n6, SqT.of ht9, hks, fun lf H10 s10 hL => ?_⟩
      have s410 := s49.trans s10
      have ht10 := s10 _ _ ht9
      have hu10 : PairsT H10 u ls := (((hu.keep s8).keep s9).keep s10)
      generalize hSS : (runN n ks).1 = S at G els ews ebl hL
      generalize hgg : (runN n ks).2 = g at G els ebl hL
      walk_at "go"
      obtain ⟨zs, hz, lz, hzs⟩ := hL
      have inl : (inOrder n g).length ≤ n := len_inOrder n g
      refine r_lstK (SqL.of hz) ?_
      refine r_lcLm (fun i v H => ∃ c, (inOrder n g)[i]? = some c ∧ PairAt H v (c, (S c).rd)) (fun i v Dl zs H H' h1 h2 h3 => ?_) (fun i v H H' s h => ?_) (by omega) (SqL.of hz) (fun _ => rfl) (fun i x H11 hx s11 Q y => ?_) fun p11 ys11 H11 hp11 s11 hys11 ly hy11 => ?_
      · obtain ⟨c, hc, hP⟩ := h2
        exact ⟨c, hc, hP.but h1 h3⟩
      · obtain ⟨c, hc, hP⟩ := h
        exact ⟨c, hc, hP.keep s⟩
      · have hiz : i < (inOrder n g).length := by rw [← lz]; exact (List.getElem?_eq_some_iff.mp hx).1
        obtain ⟨q9, r9, rfl, e1, e2⟩ := hzs i x _ hx (List.getElem?_eq_getElem hiz)
        walk_at "go"
        refine r_ixL (v := .int (((inOrder n g)[i] : Nat) : Int)) (SqL.of (s11 _ _ e1)) rfl ?_
        walk_at "go"
        refine r_ixL (v := .ref r9) (SqL.of (s11 _ _ e1)) rfl ?_
        walk_at "go"
        refine ⟨by show 2 ≤ sizeLine; decide, fun t12 ht12 => ?_⟩
        exact y _ _ (same_new ht12) ⟨_, List.getElem?_eq_getElem hiz, t12, r9, rfl, upd_same, (same_new ht12) _ _ (s11 _ _ e2)⟩
      walk_at "go"
      refine r_tupL (SqL.of hys11) fun t12 ht12 => ?_
      have s12 := s11.trans (same_new (o := .tup ys11) ht12)
      have hP12 : PairsT (upd H11 t12 (.tup ys11)) t12 (looksOf n S g) := ⟨ys11, upd_same, by unfold looksOf; rw [List.length_map]; omega, fun i y il h1 h2 => by
        obtain ⟨c, hc, hP⟩ := hy11 i y h1
        unfold looksOf at h2
        rw [List.getElem?_map, hc] at h2
        cases h2
        exact hP.keep (same_new ht12)⟩
      generalize upd H11 t12 (.tup ys11) = H12 at s12 hP12 ⊢
      rw [← els] at hP12
      walk_at "go"
      refine r_neSame (dp_pairs hP12) (dp_pairs (hu10.keep s12)) (okd_pairs ls) (by decide) ?_
      walk_at "go"
      refine r_lstK (SqL.of (s12 _ _ hz)) ?_
      refine r_forL (xs := zs) (fun i σ H' => ∃ v6, σ = [some (.ref a), some (.int (n : Int)), some (.ref q), some (.ref p), some (.ref h), v5, v6, some (.ref D), some (.ref t), some (.ref u), some (.ref lf), none, none] ∧ Same H12 H') ⟨v6, rfl, Same.refl _⟩ (fun i σ H' hi z => z.choose_spec.2.seq (SqL.of (s12 _ _ hz))) ?_ ?_
      · rintro i x σ H13 hx ⟨v6, rfl, s13⟩
        have hiz : i < (inOrder n g).length := by rw [← lz]; exact (List.getElem?_eq_some_iff.mp hx).1
        obtain ⟨q9, r9, rfl, e1, e2⟩ := hzs i x _ hx (List.getElem?_eq_getElem hiz)
        have hcg : (inOrder n g)[i] ∈ g := of_decide_eq_true (List.mem_filter.mp (List.getElem_mem hiz)).2
        obtain ⟨hcn, hlev, hrd, hself, hle, hge, hcnt⟩ := G.look hcg
        generalize (inOrder n g)[i] = c at e1 e2 hcn hlev hrd hself hle hge hcnt
        have e1' := s13 _ _ (s12 _ _ e1)
        have e2' := s13 _ _ (s12 _ _ e2)
        walk_at "go"
        refine r_ixL (v := .int ((S c).cnt : Int)) (SqL.of e1') rfl ?_
        walk_at "go"
        refine r_ixL (v := .ref r9) (SqL.of e1') rfl ?_
        walk_at "go"
        refine r_lenT (SqT.of e2') ?_
        rw [nV_len]
        walk_at "go"
        refine r_I (.inl ⟨by omega, by omega⟩) ?_
        walk_at "go"
        refine ite_no (by rw [decide_eq_true hcnt]; rfl) ?_
        walk_at "go"
        refine r_ixL (v := .int ((S c).cnt : Int)) (SqL.of e1') rfl ?_
        walk_at "go"
        refine r_ixL (v := .ref r9) (SqL.of e1') rfl ?_
        walk_at "go"
        refine r_lenT (SqT.of e2') ?_
        rw [nV_len]
        walk_at "go"
        refine ⟨.int (n : Int), .int ((S c).rd.length : Int), "int", "int", rfl, .int _, .int _, .inr ⟨n, rfl, n1, n6, .inr ⟨(S c).rd.length, rfl, hge, hle, fun H14 s14 => ?_⟩⟩⟩
        have e : (((n + 1 - (S c).rd.length) * (n + 1) : Nat) : Int) = ((n : Int) + 1 - ((S c).rd.length : Int)) * ((n : Int) + 1) := by
          rw [Int.natCast_mul]
          congr 1
          omega
        walk_at "go"
        refine ite_no (by rw [e, decide_eq_true hcnt]; rfl) ?_
        walk_at "go"
        exact ⟨_, rfl, s13.trans s14⟩
      · rintro σ H13 ⟨v6, rfl, s13⟩
        have s413 := (s410.trans s12).trans s13
        have hu13 := (hu10.keep s12).keep s13
        have ht13 := s13 _ _ (s12 _ _ ht10)
        walk_at "go"
        refine ⟨.int (n : Int), .ref t, rfl, .inr ⟨n, rfl, n1, n6, .inr ⟨t, ks, rfl, .inr (SqT.of ht13), hks, fun tr H14 s14 hrun => ?_⟩⟩⟩
        rw [hSS, hgg, ews, ← els] at hrun
        have s414 := s413.trans s14
        walk_at "go"
        refine r_tupL (SqL.of (s414 _ _ h4q)) fun tw htw => ?_
        walk_at "go"
        refine ⟨by show 2 ≤ sizeLine; decide, fun t15 ht15 => ?_⟩
        have s15 := (same_new (o := .tup (nV l)) htw).trans (same_new (o := .tup [.ref tw, .ref u]) ht15)
        have d15 : Dp K (upd (upd H14 tw (.tup (nV l))) t15 (.tup [.ref tw, .ref u])) (.ref t15) (runD l ls) := .tup (SqT.of upd_same) (.cons (dp_tupN (SqT.of ((same_new ht15) _ _ upd_same))) (.cons (dp_pairs ((hu13.keep s14).keep s15)) .nil))
        generalize upd (upd H14 tw (.tup (nV l))) t15 (.tup [.ref tw, .ref u]) = H15 at s15 d15 ⊢
        refine r_neSame (dp_run (hrun.keep s15)) d15 (okd_run _ _) (by decide) ?_
        have s415 := s414.trans s15
        have hu15 := (hu13.keep s14).keep s15
        have ht15' := s15 _ _ (s14 _ _ ht13)
        clear d15 ht15 htw hrun s15 s14
        walk_at "go"
        refine ⟨a, t, u, ns4, n, ks, ls, rfl, s415 _ _ h4a, by omega, n6, ht15', hks, by omega, hu15, by omega, by omega, hdue, fun q16 ws ns16 H16 W hws l16 h16a s16 hq16n hq16 => ?_⟩
        have hq16' := s16 _ _ qa (s415 _ _ h4q)
        have hu16 := hu15.but s16 (s415 _ _ h4a)
        have hp16 := (h4p.keep s415).but s16 (s415 _ _ h4a) pa
        have erun := wov_run W
        walk_at "go"
        refine ⟨.int (n : Int), .ref q16, rfl, .inr ⟨n, rfl, n1, n6, .inr ⟨q16, ws, rfl, .inl (SqL.of hq16), hws, fun tr H17 s17 hrun => ?_⟩⟩⟩
        rw [erun, hSS, hgg, ews, ← els] at hrun
        walk_at "go"
        refine r_tupL (SqL.of (s17 _ _ hq16')) fun tw htw => ?_
        walk_at "go"
        refine ⟨by show 2 ≤ sizeLine; decide, fun t18 ht18 => ?_⟩
        have s18 := (same_new (o := .tup (nV l)) htw).trans (same_new (o := .tup [.ref tw, .ref u]) ht18)
        have d18 : Dp K (upd (upd H17 tw (.tup (nV l))) t18 (.tup [.ref tw, .ref u])) (.ref t18) (runD l ls) := .tup (SqT.of upd_same) (.cons (dp_tupN (SqT.of ((same_new ht18) _ _ upd_same))) (.cons (dp_pairs ((hu16.keep s17).keep s18)) .nil))
        generalize upd (upd H17 tw (.tup (nV l))) t18 (.tup [.ref tw, .ref u]) = H18 at s18 d18 ⊢
        refine r_neSame (dp_run (hrun.keep s18)) d18 (okd_run _ _) (by decide) ?_
        have s1618 := s17.trans s18
        walk_at "go"
        refine ⟨.int (n : Int), .ref q16, rfl, .inr ⟨n, rfl, n1, n6, .inr ⟨q16, ws, rfl, .inl (SqL.of (s1618 _ _ hq16)), hws, fun tb H19 s19 hblk => ?_⟩⟩⟩
        rw [erun, hSS, hgg, ews, ebl] at hblk
        walk_at "go"
        obtain ⟨ys19, hys19, hI19⟩ := (hp16.keep s1618).keep s19
        refine r_tupL (SqL.of hys19) fun t20 ht20 => ?_
        have hb20 : BlocksAt (upd H19 t20 (.tup ys19)) t20 bs := ⟨ys19, upd_same, hI19.keep (same_new ht20)⟩
        refine r_eqSame (dp_blocks (hblk.keep (same_new ht20))) (dp_blocks hb20) (okd_blocks bs) (by decide) ?_
        walk_at "go"
        exact k ns16 _ (by omega) ((same_new ht20) _ _ (s19 _ _ (s1618 _ _ h16a)))
end
end K8
namespace K8
open PySem L2 Er K7M
/-- one step of a plain reading -/
local macro_rules | `(tactic| walk_at "step") => `(tactic| first
  | with_reducible refine r_seq ?_ | with_reducible refine r_nx ?_ | with_reducible refine r_asgN ?_ | with_reducible refine r_asgS ?_ | with_reducible refine r_asgT ?_ | with_reducible refine r_ifS ?_
  | with_reducible refine r_ret ?_ | with_reducible refine r_retN ?_ | with_reducible refine r_drop ?_ | with_reducible refine r_test ?_ | with_reducible refine r_B ?_ | with_reducible refine r_not ?_
  | with_reducible refine r_and ?_ | with_reducible refine r_or ?_ | with_reducible refine r_andV ?_ | with_reducible refine r_orV ?_ | with_reducible refine r_notV ?_
  | ((with_reducible refine' r_var ?e ?_); (case e => exact rfl)) | with_reducible refine r_c ?_ | with_reducible refine r_op ?_ | with_reducible refine r_un ?_
  | with_reducible refine r_I0 ?_ | with_reducible refine r_eqI ?_ | with_reducible refine r_neI ?_ | with_reducible refine r_bl ?_ | with_reducible refine r_nil ?_ | with_reducible refine r_cons ?_
  | with_reducible refine r_cb ?_ | with_reducible refine r_call ?_ | with_reducible refine r_tup ?_ | with_reducible refine r_lst ?_ | with_reducible refine r_fld ?_ | with_reducible refine r_bm ?_ | with_reducible refine r_bm0 ?_
  | with_reducible refine r_for ?_ | with_reducible refine r_rng ?_ | with_reducible refine r_rng2 ?_ | with_reducible refine r_lstI ?_ | with_reducible refine r_tupI ?_ | with_reducible refine r_lc ?_
  | with_reducible refine r_augS ?_ | with_reducible refine r_ipI ?_
  | with_reducible refine r_meth ?_ | with_reducible refine r_prop ?_ | with_reducible refine r_make ?_ | with_reducible refine r_din ?_ | with_reducible refine r_dnin ?_ | with_reducible refine r_dput ?_ | with_reducible refine r_dget ?_
  | with_reducible refine r_gN ?_ | with_reducible refine r_tsl ?_ | with_reducible refine r_noP ?_ | with_reducible refine r_part ?_ | with_reducible refine r_pI ?_ | with_reducible refine r_tif ?_ | with_reducible refine r_SL ?_ | with_reducible refine r_gC ?_ | with_reducible refine r_U ?_ | with_reducible refine r_sfld ?_ | with_reducible refine r_dnew ?_ | with_reducible refine r_keys ?_
  | with_reducible refine r_mkE ?_ | with_reducible refine iteT ?_ | with_reducible refine iteF ?_
  | with_reducible refine r_int ?_ | with_reducible refine r_min2 ?_ | with_reducible refine r_isN ?_ | with_reducible refine r_notN ?_)
/-- as far as it goes by itself -/
local macro_rules | `(tactic| walk_at "go") => `(tactic| ((repeat walk_at "step"); (try dsimp only)))

abbrev sAlone : Stmt := top 32
theorem wov_refl (n : Nat) (ks : List Nat) : Wov n ks ks := by
  have h : ∀ i, i ≤ ks.length → Wov n (ks.take i) (ks.take i) := fun i => by
    induction i with
    | zero => intro _; rw [List.take_zero]; exact .nil
    | succ i ih =>
      intro hi
      have e : ks.take (i + 1) = ks.take i ++ [ks[i]] := by rw [List.take_add_one, List.getElem?_eq_getElem (by omega)]; rfl
      rw [e]
      exact .step (ih (by omega))
  have := h ks.length (Nat.le_refl _)
  rwa [List.take_length] at this
theorem wov_rest {n y : Nat} {ks : List Nat} (h : y ∈ (runN n ks).2) : ∀ m : Nat, Wov n (ks ++ List.replicate m y) ks
  | 0 => by rw [List.replicate_zero, List.append_nil]; exact wov_refl n ks
  | m + 1 => by
    rw [List.replicate_succ', ← List.append_assoc]
    exact .more (wov_rest h m) h
theorem turn_one (n x : Nat) : turnOf n [x] = List.replicate (n + 1) x := by
  unfold turnOf
  rw [List.replicate_succ]
  simp
theorem flat_rep (k m x : Nat) : (List.replicate k (List.replicate m x)).flatten = List.replicate (k * m) x := List.flatten_replicate_replicate
def twoOf (x y : Nat) : List (List Nat) := if y = x then [[x]] else [[x], [y]]
def rowOf (n x y : Nat) : List Nat := if y = x then List.replicate (n * (n + 1)) x else List.replicate (n * (n + 1)) x ++ List.replicate (n * (n + 1)) y
theorem two_told {n x y : Nat} (hx : x < n) (hy : y < n) : Told n [] (twoOf x y) := by
  unfold twoOf
  by_cases e : y = x
  · rw [if_pos e]
    refine ⟨fun b hb => ?_, fun b hb c hc => ?_, by simp⟩
    · rw [List.mem_singleton.mp hb]; exact Nat.le_refl _
    · rw [List.mem_singleton.mp hb] at hc; rw [List.mem_singleton.mp hc]; exact hx
  · rw [if_neg e]
    refine ⟨fun b hb => ?_, fun b hb c hc => ?_, by simp [Ne.symm e]⟩
    · rcases List.mem_cons.mp hb with rfl | hb
      · exact Nat.le_refl _
      · rw [List.mem_singleton.mp hb]; exact Nat.le_refl _
    · rcases List.mem_cons.mp hb with rfl | hb
      · rw [List.mem_singleton.mp hc]; exact hx
      · rw [List.mem_singleton.mp hb] at hc; rw [List.mem_singleton.mp hc]; exact hy
theorem row_run {n x y : Nat} (n1 : 1 ≤ n) (hx : x < n) (hy : y < n) : runN n (rowOf n x y) = runN n (told n 0 (twoOf x y)) := by
  have T := two_told hx hy
  have r := (run_told n1 T).1
  unfold rowOf twoOf at *
  by_cases e : y = x
  · rw [if_pos e, if_pos e]
    have : told n 0 [[x]] = List.replicate (n * (n + 1)) x := by
      show (List.replicate (n + 1 - (0 + 1)) (turnOf n [x])).flatten ++ [] = _
      rw [turn_one, flat_rep, List.append_nil, Nat.zero_add, Nat.add_sub_cancel]
    rw [this]
  · rw [if_neg e] at r
    rw [if_neg e, if_neg e]
    have et : told n 0 [[x], [y]] = List.replicate (n * (n + 1)) x ++ List.replicate ((n - 1) * (n + 1)) y := by
      show (List.replicate (n + 1 - (0 + 1)) (turnOf n [x])).flatten ++ ((List.replicate (n + 1 - (0 + 1 + 1)) (turnOf n [y])).flatten ++ []) = _
      rw [turn_one, turn_one, flat_rep, flat_rep, List.append_nil, Nat.zero_add, Nat.add_sub_cancel]
      congr 2
    have er : List.replicate (n * (n + 1)) x ++ List.replicate (n * (n + 1)) y = told n 0 [[x], [y]] ++ List.replicate (n + 1) y := by
      rw [et, List.append_assoc, List.replicate_append_replicate]
      congr 2
      obtain ⟨m, rfl⟩ : ∃ m, n = m + 1 := ⟨n - 1, by omega⟩
      rw [Nat.add_sub_cancel, Nat.succ_mul]
    rw [er]
    refine wov_run (wov_rest ?_ _)
    rw [r]
    simp
theorem row_mem {n x y c : Nat} (hx : x < n) (hy : y < n) (h : c ∈ rowOf n x y) : c < n := by
  unfold rowOf at h
  by_cases e : y = x
  · rw [if_pos e] at h
    rw [List.eq_of_mem_replicate h]
    exact hx
  · rw [if_neg e] at h
    rcases List.mem_append.mp h with h | h
    · rw [List.eq_of_mem_replicate h]; exact hx
    · rw [List.eq_of_mem_replicate h]; exact hy
theorem both_nil {n x : Nat} (hx : x < n) : both n [] [x] = [x] := by
  have h := sub_self (l := [x]) (List.singleton_sublist.mpr (List.mem_range.mpr hx)) List.nodup_range
  conv => rhs; rw [← h]
  refine List.filter_congr fun j _ => ?_
  simp
theorem fst_row (ls : List (Nat × List Nat)) : (List.range ls.length).map (fun i => V.int ((ls.getD i (0, [])).1 : Int)) = nV (ls.map (·.1)) := by
  apply List.ext_getElem?
  intro i
  unfold nV
  rw [List.map_map, List.getElem?_map, List.getElem?_map]
  rcases Nat.lt_or_ge i ls.length with h | h
  · rw [List.getElem?_range h, List.getElem?_eq_getElem h]
    simp [List.getD, h]
  · rw [List.getElem?_eq_none (by rw [List.length_range]; exact h), List.getElem?_eq_none h]
    rfl
theorem int_inj {x y : Nat} (h : ¬ (y : Int) = (x : Int)) : ¬ y = x := fun z => h (by rw [z])
section
variable {P : Program} {w : World} {K : PySem.W.Frag} {mg : Str → Option Value} {base : Heap} {CN CB CL CR : Addr}
theorem scAlone : FnScope ["_law_found", "_law_size", "_law_name", "_law_other", "_law_row", "_law_wrote", "_law_looks", "_law_due_here", "_law_pair"] ["_law_found", "_law_size"] (defScope sAlone) := ⟨rfl, rfl, rfl, by decide +kernel, rfl, by decide +kernel, by decide +kernel⟩
theorem ok_alone {f : Addr} {fd : FuncData} (F : Fun K "_law_alone" "_law_alone" sAlone f fd) (m_tuple : mg "tuple" = none) (m_sorted : mg "sorted" = none)
    (D_take : Fok P w K mg base 1 "_law_take" ["_law_found", "_law_many"] spTake) (D_run : Fok P w K mg base 6 "levels_run" ["size", "schedule"] (spRun K CN CB)) :
    FnOk P w K mg base (L2.CX P w) 7 f fd ["_law_found", "_law_size"] spComes := by
  refine F.okX scAlone (fun vs H Q E h => ?_) (fun cdv A outer s H vs Q E hr h => ?_)
  · obtain ⟨a, ns, n, rfl, _⟩ := h
    rfl
  obtain ⟨a, ns, n, rfl, ha, hl, n1, n6, k⟩ := h
  have sc := scAlone
  refine ⟨_, (pss_cons (ps_set (i := 2) sc.nd rfl (Or.inl rfl) (pe_f D_take (hr.mono (by decide)) (pa_cons (pv 0) (pa_cons (pv 1) pa_nil))))
      (pss_cons (ps_set (i := 3) sc.nd rfl (Or.inl rfl) (pe_f D_take (hr.mono (by decide)) (pa_cons (pv 0) (pa_cons (pv 1) pa_nil))))
      (pss_cons (ps_set (i := 4) sc.nd rfl (Or.inl rfl) (pe_op op_rep (pe_lst (pa_cons (pv 2) pa_nil)) (pe_op op_mul (pv 1) (pe_op op_add (pv 1) pe_int))))
      (Evl.pss_cut (ps_if (PW.pt (pw_and (pt_cmpR op_gt (pv 1) pe_int (nomark _)) (pw_and1 (pt_cmpR op_ne (pv 3) (pv 2) (nomark _))))) (pss_one (ps_set (i := 4) sc.nd rfl (Or.inl rfl) (pe_op op_cat (pv 4) (pe_op op_rep (pe_lst (pa_cons (pv 3) pa_nil)) (pe_op op_mul (pv 1) (pe_op op_add (pv 1) pe_int)))))) pss_nil)
      (pss_cons (ps_asg (pe_f D_run (hr.mono (by decide)) (pa_cons (pv 1) (pa_cons (pv 4) pa_nil))) (pg_tup (by rfl) (pgs_cons (pg_name (i := 5) sc.nd rfl (Or.inl rfl)) (pgs_cons (pg_name (i := 6) sc.nd rfl (Or.inl rfl)) pgs_nil))))
      (pss_cons (ps_set (i := 7) sc.nd rfl (Or.inl rfl) (pe_lst (pa_cons (pe_tup (pa_cons (pv 2) (pa_cons (pe_tup (pa_cons (pv 2) pa_nil)) pa_nil))) pa_nil)))
      (Evl.pss_cut (ps_if (pt_cmpR op_ne (pv 3) (pv 2) (nomark _)) (pss_one (ps_expr (pe_bm PySem.F.plainAttrs_list PySem.F.slot_list_append PySem.F.type_list_append mt_append (pv 7) (pa_cons (pe_tup (pa_cons (pv 3) (pa_cons (pe_callTy c_tuple (by rfl) m_tuple (by decide +kernel) (pa_cons (pe_callB cr_sorted (by rfl) m_sorted (by decide +kernel) (pa_cons (pe_lst (pa_cons (pv 2) (pa_cons (pv 3) pa_nil))) pa_nil)) pa_nil)) pa_nil))) pa_nil)))) pss_nil)
      (pss_one (ps_ret (pe_and (pe_cmpR (op_eqD hr.units) (pv 5) (pe_callTy c_tuple (by rfl) m_tuple (by decide +kernel) (pa_cons (pe_callB cr_sorted (by rfl) m_sorted (by decide +kernel) (pa_cons (pe_lc (own := [("_law_pair", 8)]) (g := gName 8) (tt := tYes) rfl sc.nd (pi_list (pv 7)) (blkOk_by (own := [("_law_pair", 8)]) (N := ["_law_found", "_law_size", "_law_name", "_law_other", "_law_row", "_law_wrote", "_law_looks", "_law_due_here", "_law_pair"]) (sc := defScope sAlone) (by decide +kernel)) (fun _ _ _ _ _ => pg_name (i := 8) sc.nd rfl (Or.inl rfl)) (fun _ _ _ _ _ => pts_nil) (fun _ _ _ _ _ => (pe_ix (ixT K) (pv 8) pe_int (fun _ _ => rfl)))) pa_nil)) pa_nil)) (nomark _)) (pe_one (pe_cmpR (op_eqD hr.units) (pv 6) (pe_callTy c_tuple (by rfl) m_tuple (by decide +kernel) (pa_cons (pe_callB (c_sortNP hr.units) (by rfl) m_sorted (by decide +kernel) (pa_cons (pv 7) pa_nil)) pa_nil)) (nomark _))))))))))))), ?_⟩
  walk_at "go"
  refine ⟨a, ns, n, rfl, ha, hl, by omega, fun rx ns1 H1 x0 xn l1 h1 s1 => ?_⟩
  obtain ⟨x, rfl⟩ : ∃ x : Nat, rx = (x : Int) := ⟨rx.toNat, by omega⟩
  walk_at "go"
  refine ⟨a, ns1, n, rfl, h1, by omega, by omega, fun ry ns2 H2 y0 yn l2 h2 s2 => ?_⟩
  obtain ⟨y, rfl⟩ : ∃ y : Nat, ry = (y : Int) := ⟨ry.toNat, by omega⟩
  have hx : x < n := by omega
  have hy : y < n := by omega
  have l2 : ns2.length ≤ ns.length := by omega
  clear s1 s2 h1 ha l1
  have emul : ((n : Int) * ((n : Int) + 1)) = ((n * (n + 1) : Nat) : Int) := by rw [Int.natCast_mul]; rfl
  have h42 : n * (n + 1) ≤ 42 := Nat.mul_le_mul n6 (Nat.succ_le_succ n6)
  walk_at "go"
  refine ⟨by show 1 ≤ sizeLine; decide, fun p1 hp1 => ?_⟩
  walk_at "go"
  refine r_I (.inl ⟨by omega, by omega⟩) ?_
  rw [emul]
  refine r_rep upd_same (by omega) fun p2 hp2 => ?_
  have s3 := (same_new (o := .lst [V.int (x : Int)]) hp1).trans (same_new (o := .lst (List.replicate (n * (n + 1)) (V.int (x : Int)))) hp2)
  have h3 : (upd (upd H2 p1 (.lst [V.int (x : Int)])) p2 (.lst (List.replicate (n * (n + 1)) (V.int (x : Int))))) p2 = some (.lst (nV (List.replicate (n * (n + 1)) x))) := by
    rw [upd_same]
    unfold nV
    rw [List.map_replicate]
  generalize upd (upd H2 p1 _) p2 _ = H3 at s3 h3 ⊢
  walk_at "go"
  refine r_cut (Mid := fun σ H' => ∃ p, σ = [some (.ref a), some (.int (n : Int)), some (.int (x : Int)), some (.int (y : Int)), some (.ref p), none, none, none, none] ∧ Same H2 H' ∧ H' p = some (.lst (nV (rowOf n x y)))) ?_ ?_
  · have one : y = x → (∃ p, [some (V.ref a), some (.int (n : Int)), some (.int (x : Int)), some (.int (y : Int)), some (.ref p2), none, none, none, none] = [some (V.ref a), some (.int (n : Int)), some (.int (x : Int)), some (.int (y : Int)), some (.ref p), none, none, none, none] ∧ Same H2 H3 ∧ H3 p = some (.lst (nV (rowOf n x y)))) := fun e => by
      refine ⟨p2, rfl, s3, ?_⟩
      unfold rowOf
      rw [if_pos e]
      exact h3
    walk_at "go"
    refine iteB (fun e1 => ?_) fun e1 => ?_
    · walk_at "go"
      refine iteB (fun e2 => ?_) fun e2 => ?_
      · have ne : ¬ y = x := by
          have := of_decide_eq_false (by simpa using e2 : decide ((y : Int) = (x : Int)) = false)
          exact int_inj this
        walk_at "go"
        refine ⟨by show 1 ≤ sizeLine; decide, fun p4 hp4 => ?_⟩
        walk_at "go"
        refine r_I (.inl ⟨by omega, by omega⟩) ?_
        rw [emul]
        refine r_rep upd_same (by omega) fun p5 hp5 => ?_
        have s5 := (same_new (o := .lst [V.int (y : Int)]) hp4).trans (same_new (o := .lst (List.replicate (n * (n + 1)) (V.int (y : Int)))) hp5)
        walk_at "go"
        refine r_catL (s5 _ _ h3) upd_same (by rw [nV_len, List.length_replicate, List.length_replicate]; omega) fun p6 hp6 => ?_
        refine ⟨p6, rfl, s3.trans (s5.trans (same_new hp6)), ?_⟩
        rw [upd_same]
        unfold rowOf
        rw [if_neg ne, nV_append]
        congr 3
        unfold nV
        rw [List.map_replicate]
      · have ee : y = x := by
          have : decide ((y : Int) = (x : Int)) = true := by simpa using e2
          have := of_decide_eq_true this
          omega
        walk_at "go"
        exact one ee
    · have e1 := of_decide_eq_false e1
      walk_at "go"
      exact one (by omega)
  · rintro σ H4 ⟨p, rfl, s4, h4⟩
    have T := two_told hx hy
    have hrow : ∀ c ∈ rowOf n x y, c < n := fun c hc => row_mem hx hy hc
    have erun := row_run n1 hx hy
    obtain ⟨rg, ro, rd9⟩ := run_told n1 T
    have G := good_run n1 hrow
    rw [← erun] at rg ro rd9
    have hgb : ∀ c, c ∈ (runN n (rowOf n x y)).2 ↔ c ∈ inOrder n (twoOf x y).flatten := fun c => by
      rw [rg]
      unfold inOrder
      rw [List.mem_filter, List.mem_range, decide_eq_true_iff]
      exact ⟨fun z => ⟨by
        obtain ⟨b, hb, hcb⟩ := List.mem_flatten.mp z
        exact T.sub b hb c hcb, z⟩, fun z => z.2⟩
    have ews : wroteOf n (runN n (rowOf n x y)).1 = inOrder n (twoOf x y).flatten := wrote_told G hgb (fun c hc => by
      rw [ro c fun z => hc ((hgb c).mp (by rw [rg]; exact z))]
      rfl) (List.filter_sublist ..)
    have els : ∀ ls : List (Nat × List Nat), ls.Perm (dueOf n [] (twoOf x y)) → ls.Pairwise (fun x y => x.1 ≤ y.1) → ls = looksOf n (runN n (rowOf n x y)).1 (runN n (rowOf n x y)).2 := fun ls pl up => looks_eq (fun c hc => (G.gon c hc).1) G.nd (by rw [rg]) pl up fun il hil => by
      rw [rd9 il.1 il.2 (pl.mem_iff.mp hil)]
    walk_at "go"
    refine ⟨.int (n : Int), .ref p, rfl, .inr ⟨n, rfl, n1, n6, .inr ⟨p, rowOf n x y, rfl, .inl (SqL.of h4), hrow, fun tr H5 s5 hrun => ?_⟩⟩⟩
    rw [ews] at hrun
    obtain ⟨tw, tl, ysl, e1, e2, e3, hP5⟩ := hrun
    refine r_gT (SqT.of e1) rfl ?_
    walk_at "go"
    refine ⟨rfl, ?_⟩
    walk_at "go"
    refine ⟨by show 1 ≤ sizeLine; decide, fun t6 ht6 => ?_⟩
    walk_at "go"
    refine ⟨by show 2 ≤ sizeLine; decide, fun t7 ht7 => ?_⟩
    walk_at "go"
    refine ⟨by show 1 ≤ sizeLine; decide, fun D hD => ?_⟩
    have s7 := (same_new (o := .tup [V.int (x : Int)]) ht6).trans (same_new (o := .tup [.int (x : Int), .ref t6]) ht7)
    have s8 := s7.trans (same_new (o := .lst [V.ref t7]) hD)
    have hD5 : H5 D = none := none_of_same s7 hD
    have hd8 : (upd (upd (upd H5 t6 (.tup [V.int (x : Int)])) t7 (.tup [.int (x : Int), .ref t6])) D (.lst [V.ref t7])) D = some (.lst [V.ref t7]) := upd_same
    have hp8 : PairAt (upd (upd (upd H5 t6 (.tup [V.int (x : Int)])) t7 (.tup [.int (x : Int), .ref t6])) D (.lst [V.ref t7])) (.ref t7) (x, both n [] [x]) :=
      ⟨t7, t6, rfl, (same_new hD) _ _ upd_same, by rw [both_nil hx]; exact (same_new hD) _ _ ((same_new ht7) _ _ upd_same)⟩
    generalize upd (upd (upd H5 t6 _) t7 _) D _ = H8 at s8 hd8 hp8 ⊢
    walk_at "go"
    refine r_cut (Mid := fun σ H' => ∃ ys, σ = [some (.ref a), some (.int (n : Int)), some (.int (x : Int)), some (.int (y : Int)), some (.ref p), some (.ref tw), some (.ref tl), some (.ref D), none] ∧ Same H5 H' ∧ H' D = some (.lst ys) ∧ PairsAt H' ys (dueOf n [] (twoOf x y))) ?_ ?_
    · walk_at "go"
      refine iteB (fun e2 => ?_) fun e2 => ?_
      · have ne : ¬ y = x := by
          have := of_decide_eq_false (by simpa using e2 : decide ((y : Int) = (x : Int)) = false)
          exact int_inj this
        walk_at "go"
        refine r_tyL (SqL.of hd8) ?_
        walk_at "go"
        refine ⟨by show 2 ≤ sizeLine; decide, fun p9 hp9 => ?_⟩
        have nd2 : [x, y].Nodup := by simp [Ne.symm ne]
        have lt2 : ∀ c ∈ [x, y], c < n := fun c hc => by
          rcases List.mem_cons.mp hc with rfl | hc
          · exact hx
          · rw [List.mem_singleton.mp hc]; exact hy
        have pm := perm_inOrder nd2 lt2
        walk_at "go"
        refine r_sorted (ks := [x, y].map fun (i : Nat) => (i : Int)) (ss := (inOrder n [x, y]).map fun (i : Nat) => (i : Int)) (SqL.of upd_same) (by rw [List.length_map]; show 2 < 64; decide) (pm.map _) (range_up _ _) fun p10 hp10 => ?_
        rw [← ints_nV]
        walk_at "go"
        refine r_tupL (SqL.of upd_same) fun t11 ht11 => ?_
        walk_at "go"
        refine ⟨by show 2 ≤ sizeLine; decide, fun t12 ht12 => ?_⟩
        walk_at "go"
        have s11 := ((same_new (o := .lst [V.int (x : Int), .int (y : Int)]) hp9).trans (same_new (o := .lst (nV (inOrder n [x, y]))) hp10)).trans (same_new (o := .tup (nV (inOrder n [x, y]))) ht11)
        have s12 := s11.trans (same_new (o := .tup [.int (y : Int), .ref t11]) ht12)
        have hy12 : PairAt (upd (upd (upd (upd H8 p9 (.lst [V.int (x : Int), .int (y : Int)])) p10 (.lst (nV (inOrder n [x, y])))) t11 (.tup (nV (inOrder n [x, y])))) t12 (.tup [.int (y : Int), .ref t11])) (.ref t12) (y, both n [x] [y]) :=
          ⟨t12, t11, rfl, upd_same, by rw [both_order]; exact (same_new ht12) _ _ upd_same⟩
        have hd12 := s12 _ _ hd8
        have hp12 := hp8.keep s12
        generalize upd (upd (upd (upd H8 p9 _) p10 _) t11 _) t12 _ = H12 at s12 hy12 hd12 hp12 ⊢
        refine r_app hd12 (Nat.lt_of_le_of_lt (m := 1) (Nat.le_refl _) (by decide)) ?_
        refine ⟨[.ref t7] ++ [.ref t12], rfl, Same.upd2 (s8.trans s12) hD5, upd_same, ?_⟩
        have ed : dueOf n [] (twoOf x y) = [(x, both n [] [x])] ++ [(y, both n [x] [y])] := by
          unfold twoOf
          rw [if_neg ne]
          rfl
        rw [ed]
        refine PairsAt.but hd12 (fun b u nb z => by rw [upd_ne nb]; exact z) (PairsAt.snoc ⟨rfl, fun i z il h1 h2 => ?_⟩ hy12)
        cases i with
        | zero => cases h1; cases h2; exact hp12
        | succ i => simp at h1
      · have ee : y = x := by
          have : decide ((y : Int) = (x : Int)) = true := by simpa using e2
          have := of_decide_eq_true this
          omega
        walk_at "go"
        refine ⟨[.ref t7], rfl, s8, hd8, ?_⟩
        have ed : dueOf n [] (twoOf x y) = [(x, both n [] [x])] := by
          unfold twoOf
          rw [if_pos ee]
          rfl
        rw [ed]
        refine ⟨rfl, fun i z il h1 h2 => ?_⟩
        cases i with
        | zero => cases h1; cases h2; exact hp8
        | succ i => simp at h1
    · rintro σ H9 ⟨ys, rfl, s9, hd9, hP9⟩
      have htl := told_len T
      have hdl : (dueOf n [] (twoOf x y)).length ≤ n := by
        have h1 := congrArg List.length (due_fst n (twoOf x y) [])
        rw [List.length_map] at h1
        omega
      have hnd : (twoOf x y).flatten.Nodup := by simpa using T.nd
      have hlt : ∀ c ∈ (twoOf x y).flatten, c < n := fun c hc => by
        obtain ⟨b, hb, hcb⟩ := List.mem_flatten.mp hc
        exact T.sub b hb c hcb
      walk_at "go"
      refine r_lstK (SqL.of hd9) ?_
      refine r_lcL (fun _ => true) (fun i => .int ((((dueOf n [] (twoOf x y)).getD i (0, [])).1 : Nat) : Int)) (by rw [hP9.1]; omega) (SqL.of hd9) (fun _ => rfl) (fun i z H10 hz s10 QT q => q H10 (Same.refl _)) (fun i z H10 hz _ s10 Q q => ?_) fun p10 H10 hp10 s10 h10 => ?_
      · have hil : i < (dueOf n [] (twoOf x y)).length := by rw [← hP9.1]; exact (List.getElem?_eq_some_iff.mp hz).1
        obtain ⟨p', r', rfl, a1, a2⟩ := hP9.2 i z _ hz (List.getElem?_eq_getElem hil)
        walk_at "go"
        refine r_ixT (SqT.of (s10 _ _ a1)) rfl ?_
        have e : (dueOf n [] (twoOf x y)).getD i (0, []) = (dueOf n [] (twoOf x y))[i] := by simp [List.getD, hil]
        rw [e] at q
        exact q H10 (Same.refl _)
      have e10 : ((List.range ys.length).filter fun _ => true).map (fun i => V.int ((((dueOf n [] (twoOf x y)).getD i (0, [])).1 : Nat) : Int)) = nV (twoOf x y).flatten := by
        rw [List.filter_eq_self.mpr (fun _ _ => rfl), hP9.1, fst_row, due_fst]
      rw [e10, ints_nV] at h10
      have pm := perm_inOrder hnd hlt
      walk_at "go"
      refine r_sorted (ks := (twoOf x y).flatten.map fun (i : Nat) => (i : Int)) (ss := (inOrder n (twoOf x y).flatten).map fun (i : Nat) => (i : Int)) (SqL.of h10) (by rw [List.length_map]; omega) (pm.map _) (range_up _ _) fun p11 hp11 => ?_
      rw [← ints_nV]
      walk_at "go"
      refine r_tupL (SqL.of upd_same) fun t12 ht12 => ?_
      have s12 := (s10.trans (same_new (o := .lst (nV (inOrder n (twoOf x y).flatten))) hp11)).trans (same_new (o := .tup (nV (inOrder n (twoOf x y).flatten))) ht12)
      have s512 := s9.trans s12
      refine r_eqSame (dp_tupN (SqT.of (s512 _ _ e2))) (dp_tupN (SqT.of upd_same)) (okd_names _) (by decide) ?_
      have hd12 := s12 _ _ hd9
      have hP12 := hP9.keep s12
      generalize upd (upd H10 p11 _) t12 _ = H12 at s512 hd12 hP12 ⊢
      walk_at "go"
      obtain ⟨ts, rfl, ets, hts⟩ := np_of hP12
      have htsl : ts.length ≤ 1000 := by
        have e := congrArg List.length ets
        rw [List.length_map] at e
        omega
      refine ⟨D, ts, rfl, SqL.of hd12, fun t ht => np_dp (hts t ht), htsl, fun q ts' pm2 up hq => ?_⟩
      walk_at "go"
      refine r_tupL (SqL.of upd_same) fun t13 ht13 => ?_
      have s13 := (same_new (o := .lst (refsN ts')) hq).trans (same_new (o := .tup (refsN ts')) ht13)
      have hP13 : PairsT (upd (upd H12 q (.lst (refsN ts'))) t13 (.tup (refsN ts'))) t13 (ts'.map unNP) := ⟨_, upd_same, np_pairs fun t' ht' => (hts t' (pm2.mem_iff.mp ht')).keep s13⟩
      have els' := els (ts'.map unNP) (by rw [← ets]; exact pm2.map _) (List.pairwise_map.mpr up)
      rw [els'] at hP13
      have hl13 : PairsT (upd (upd H12 q (.lst (refsN ts'))) t13 (.tup (refsN ts'))) tl (looksOf n (runN n (rowOf n x y)).1 (runN n (rowOf n x y)).2) := ⟨ysl, s13 _ _ (s512 _ _ e3), (hP5.keep s512).keep s13⟩
      refine r_eqSame (dp_pairs hl13) (dp_pairs hP13) (okd_pairs _) (by decide) ?_
      walk_at "go"
      exact k ns2 _ (by omega) (s13 _ _ (s512 _ _ (s5 _ _ (s4 _ _ h2))))
end
end K8
namespace K8
open PySem L2 Er K7M
/-- one step of a plain reading -/
local macro_rules | `(tactic| walk_at "step") => `(tactic| first
  | with_reducible refine r_seq ?_ | with_reducible refine r_nx ?_ | with_reducible refine r_asgN ?_ | with_reducible refine r_asgS ?_ | with_reducible refine r_asgT ?_ | with_reducible refine r_ifS ?_
  | with_reducible refine r_ret ?_ | with_reducible refine r_retN ?_ | with_reducible refine r_drop ?_ | with_reducible refine r_test ?_ | with_reducible refine r_B ?_ | with_reducible refine r_not ?_
  | with_reducible refine r_and ?_ | with_reducible refine r_or ?_ | with_reducible refine r_andV ?_ | with_reducible refine r_orV ?_ | with_reducible refine r_notV ?_
  | ((with_reducible refine' r_var ?e ?_); (case e => exact rfl)) | with_reducible refine r_c ?_ | with_reducible refine r_op ?_ | with_reducible refine r_un ?_
  | with_reducible refine r_I0 ?_ | with_reducible refine r_eqI ?_ | with_reducible refine r_neI ?_ | with_reducible refine r_bl ?_ | with_reducible refine r_nil ?_ | with_reducible refine r_cons ?_
  | with_reducible refine r_cb ?_ | with_reducible refine r_call ?_ | with_reducible refine r_tup ?_ | with_reducible refine r_lst ?_ | with_reducible refine r_fld ?_ | with_reducible refine r_bm ?_ | with_reducible refine r_bm0 ?_
  | with_reducible refine r_for ?_ | with_reducible refine r_rng ?_ | with_reducible refine r_rng2 ?_ | with_reducible refine r_lstI ?_ | with_reducible refine r_tupI ?_ | with_reducible refine r_lc ?_
  | with_reducible refine r_augS ?_ | with_reducible refine r_ipI ?_
  | with_reducible refine r_meth ?_ | with_reducible refine r_prop ?_ | with_reducible refine r_make ?_ | with_reducible refine r_din ?_ | with_reducible refine r_dnin ?_ | with_reducible refine r_dput ?_ | with_reducible refine r_dget ?_
  | with_reducible refine r_gN ?_ | with_reducible refine r_tsl ?_ | with_reducible refine r_noP ?_ | with_reducible refine r_part ?_ | with_reducible refine r_pI ?_ | with_reducible refine r_tif ?_ | with_reducible refine r_SL ?_ | with_reducible refine r_gC ?_ | with_reducible refine r_U ?_ | with_reducible refine r_sfld ?_ | with_reducible refine r_dnew ?_ | with_reducible refine r_keys ?_
  | with_reducible refine r_mkE ?_ | with_reducible refine iteT ?_ | with_reducible refine iteF ?_
  | with_reducible refine r_int ?_ | with_reducible refine r_min2 ?_ | with_reducible refine r_isN ?_ | with_reducible refine r_notN ?_)
/-- as far as it goes by itself -/
local macro_rules | `(tactic| walk_at "go") => `(tactic| ((repeat walk_at "step"); (try dsimp only)))

abbrev sAllRef : Stmt := top 33
theorem bad_at {r : Int} (h0 : 0 ≤ r) (h6 : r < 6) : ∃ v d tn, atI [V.int 0, .int (-1), .int 7, .non, .bl true, .str "a"] r = some v ∧ Sca v d tn ∧ okSize v = false := by
  have : r = 0 ∨ r = 1 ∨ r = 2 ∨ r = 3 ∨ r = 4 ∨ r = 5 := by omega
  rcases this with rfl | rfl | rfl | rfl | rfl | rfl
  · exact ⟨_, _, _, rfl, .int _, by decide⟩
  · exact ⟨_, _, _, rfl, .int _, by decide⟩
  · exact ⟨_, _, _, rfl, .int _, by decide⟩
  · exact ⟨_, _, _, rfl, .non, rfl⟩
  · exact ⟨_, _, _, rfl, .bl _, rfl⟩
  · exact ⟨_, _, _, rfl, .str _ (by decide +kernel), rfl⟩
/-- rows of names, one by one -/
inductive RowsB (K : PySem.W.Frag) (H : Hp) : List V → List (List Nat) → Prop
  | nil : RowsB K H [] []
  | cons {x : V} {b : List Nat} {xs : List V} {bs : List (List Nat)} : RowAt K H x b → b ≠ [] → RowsB K H xs bs → RowsB K H (x :: xs) (b :: bs)
theorem RowsB.blk {K : PySem.W.Frag} {H : Hp} {xs : List V} {bs : List (List Nat)} (h : RowsB K H xs bs) (nd : bs.flatten.Nodup) (l : bs.flatten.length ≤ 1000) : BlkAt K H xs bs := by
  have h1 : xs.length = bs.length ∧ ∀ (i : Nat) (x : V) (b : List Nat), xs[i]? = some x → bs[i]? = some b → RowAt K H x b ∧ b ≠ [] := by
    clear nd l
    induction h with
    | nil => exact ⟨rfl, fun i x b e => by simp at e⟩
    | cons r n _ ih =>
      refine ⟨by rw [List.length_cons, List.length_cons, ih.1], fun i x b e1 e2 => ?_⟩
      cases i with
      | zero => cases e1; cases e2; exact ⟨r, n⟩
      | succ i => exact ih.2 i x b e1 e2
  exact ⟨h1.1, h1.2, nd, l⟩
section
variable {K : PySem.W.Frag} {H : Hp} {q : Addr} {c d : Nat}
theorem rowL1 (h : H q = some (.lst [.int (c : Int)])) : RowAt K H (.ref q) [c] := ⟨q, rfl, .inl (SqL.of h)⟩
theorem rowT1 (h : H q = some (.tup [.int (c : Int)])) : RowAt K H (.ref q) [c] := ⟨q, rfl, .inr (SqT.of h)⟩
theorem rowT2 (h : H q = some (.tup [.int (c : Int), .int (d : Int)])) : RowAt K H (.ref q) [c, d] := ⟨q, rfl, .inr (SqT.of h)⟩
end
theorem seen_at {n i : Nat} {x : V} (h : [V.int 0, .int (-2), .int ((n : Int) + 1), .non, .bl true, .str "a"][i]? = some x) : ∃ d tn, Sca x d tn ∧ okSeen n x = false := by
  rcases i with _ | _ | _ | _ | _ | _ | i
  · cases h; exact ⟨_, _, .int _, by unfold okSeen; exact decide_eq_false (by omega)⟩
  · cases h; exact ⟨_, _, .int _, by unfold okSeen; exact decide_eq_false (by omega)⟩
  · cases h; exact ⟨_, _, .int _, by unfold okSeen; exact decide_eq_false (by omega)⟩
  · cases h; exact ⟨_, _, .non, rfl⟩
  · cases h; exact ⟨_, _, .bl _, rfl⟩
  · cases h; exact ⟨_, _, .str _ (by decide +kernel), rfl⟩
  · simp at h
theorem thing_at {K : PySem.W.Frag} {H : Hp} {n : Nat} {p2 p3 p4 p5 p6 : Addr} {r : Int} (h2 : H p2 = some (.lst [])) (h3 : H p3 = some (.tup [])) (h4 : H p4 = some (.lst [V.int (-1)])) (h5 : H p5 = some (.lst [V.bl true])) (h6 : H p6 = some (.lst [V.int 0, .int 0])) (h0 : 0 ≤ r) (h7 : r < 7) :
    ∃ v, atI [V.ref p2, .ref p3, .int 5, .ref p4, .ref p5, .ref p6, .non] r = some v ∧ RowBad K H [n + 3] v := by
  have : r = 0 ∨ r = 1 ∨ r = 2 ∨ r = 3 ∨ r = 4 ∨ r = 5 ∨ r = 6 := by omega
  rcases this with rfl | rfl | rfl | rfl | rfl | rfl | rfl
  · exact ⟨_, rfl, .inr (.inl ⟨p2, rfl, .inl (SqL.of h2)⟩)⟩
  · exact ⟨_, rfl, .inr (.inl ⟨p3, rfl, .inr (SqT.of h3)⟩)⟩
  · exact ⟨_, rfl, .inl ⟨"int", .int _, by decide +kernel⟩⟩
  · exact ⟨_, rfl, .inr (.inr ⟨p4, [], .int (-1), "int", [], rfl, .inl (SqL.of h4), by simp, by simp, .int _, .inl rfl⟩)⟩
  · exact ⟨_, rfl, .inr (.inr ⟨p5, [], .bl true, "bool", [], rfl, .inl (SqL.of h5), by simp, by simp, .bl _, .inl rfl⟩)⟩
  · exact ⟨_, rfl, .inr (.inr ⟨p6, [0], .int 0, "int", [], rfl, .inl (SqL.of h6), by simp, by simp, .int _, .inr ⟨0, rfl, by simp⟩⟩)⟩
  · exact ⟨_, rfl, .inl ⟨"NoneType", .non, by decide +kernel⟩⟩
theorem none_at {K : PySem.W.Frag} {H : Hp} {p2 p3 : Addr} {r : Int} (h2 : H p2 = some (.lst [])) (h3 : H p3 = some (.tup [])) (h0 : 0 ≤ r) (h4 : r < 4) :
    ∃ v, atI [V.ref p2, .int 5, .non, .ref p3] r = some v ∧ ((∃ tn, Sm K H v tn ∧ (tn == "list" || tn == "tuple") = false) ∨ ∃ a, v = .ref a ∧ SqA K H a []) := by
  have : r = 0 ∨ r = 1 ∨ r = 2 ∨ r = 3 := by omega
  rcases this with rfl | rfl | rfl | rfl
  · exact ⟨_, rfl, .inr ⟨p2, rfl, .inl (SqL.of h2)⟩⟩
  · exact ⟨_, rfl, .inl ⟨"int", .int _, by decide +kernel⟩⟩
  · exact ⟨_, rfl, .inl ⟨"NoneType", .non, by decide +kernel⟩⟩
  · exact ⟨_, rfl, .inr ⟨p3, rfl, .inr (SqT.of h3)⟩⟩
section
variable {P : Program} {w : World} {K : PySem.W.Frag} {mg : Str → Option Value} {base : Heap} {CN CB CL CR : Addr}
theorem scAllRef : FnScope ["_law_found", "_law_size", "_law_bad", "_law_seen", "_law_thing"] ["_law_found", "_law_size"] (defScope sAllRef) := ⟨rfl, rfl, rfl, by decide +kernel, rfl, by decide +kernel, by decide +kernel⟩
theorem ok_allref {f : Addr} {fd : FuncData} (F : Fun K "_law_all_refused" "_law_all_refused" sAllRef f fd) (m_range : mg "range" = none)
    (D_take : Fok P w K mg base 1 "_law_take" ["_law_found", "_law_many"] spTake) (D_int : Fok P w K mg base 1 "_law_int" ["_law_thing"] (spThing K fun v _ => isI v))
    (D_for : Fok P w K mg base 4 "steps_for" ["size", "seen"] (spFor K CB)) (D_refused : Fok P w K mg base 5 "_law_refused" ["_law_word", "_law_one", "_law_other"] (spRefused K)) :
    FnOk P w K mg base (L2.CX P w) 6 f fd ["_law_found", "_law_size"] spComes := by
  refine F.okX scAllRef (fun vs H Q E h => ?_) (fun cdv A0 outer s0 H vs Q E hr h => ?_)
  · obtain ⟨a, ns, n, rfl, _⟩ := h
    rfl
  obtain ⟨a, ns, n, rfl, ha, hl, n1, n6, k⟩ := h
  have sc := scAllRef
  have hu := hu_of hr
  refine ⟨_, (pss_cons (ps_set (i := 2) sc.nd rfl (Or.inl rfl) (pe_ix ix_list (pe_lst (pa_cons pe_int (pa_cons (pe_un un_neg pe_int) (pa_cons pe_int (pa_cons pe_non (pa_cons pe_bl (pa_cons pe_str pa_nil))))))) (pe_f D_take (hr.mono (by decide)) (pa_cons (pv 0) (pa_cons pe_int pa_nil))) (fun _ _ => rfl)))
      (pss_cons (ps_if (PW.pt (pw_or (pt_cmpR (op_neD hr.units) (pe_f D_refused (hr.mono (by decide)) (pa_cons pe_str (pa_cons (pv 2) (pa_cons (pe_lst (pa_cons (pe_lst (pa_cons pe_int pa_nil)) (pa_cons pe_int pa_nil))) pa_nil)))) (pe_tup (pa_cons pe_str (pa_cons pe_str pa_nil))) (nomark _)) (pw_or1 (pt_cmpR (op_neD hr.units) (pe_f D_refused (hr.mono (by decide)) (pa_cons pe_str (pa_cons (pv 2) (pa_cons (pv 2) pa_nil)))) (pe_tup (pa_cons pe_str (pa_cons pe_str pa_nil))) (nomark _))))) (pss_one (ps_ret pe_bl)) pss_nil)
      (pss_cons (ps_for (passes_of rfl) rfl (pi_list (pe_lst (pa_cons pe_int (pa_cons (pe_un un_neg pe_int) (pa_cons (pe_op op_add (pv 1) pe_int) (pa_cons pe_non (pa_cons pe_bl (pa_cons pe_str pa_nil)))))))) (pg_name (i := 3) sc.nd rfl (Or.inl rfl)) (pss_one (ps_if (pt_cmpR (op_neD hr.units) (pe_f D_refused (hr.mono (by decide)) (pa_cons pe_str (pa_cons (pv 1) (pa_cons (pv 3) pa_nil)))) (pe_tup (pa_cons pe_str (pa_cons pe_str pa_nil))) (nomark _)) (pss_one (ps_ret pe_bl)) pss_nil)))
      (pss_cons (ps_for (passes_of rfl) rfl (pi_range2 (by rfl) m_range (pa_cons pe_int (pa_cons (pe_op op_add (pv 1) pe_int) pa_nil))) (pg_name (i := 3) sc.nd rfl (Or.inl rfl)) (pss_one (ps_if (PW.pt (pw_or (pt_cmpR op_ne (pe_f D_for (hr.mono (by decide)) (pa_cons (pv 1) (pa_cons (pv 3) pa_nil))) (pe_op op_mul (pe_op op_sub (pe_op op_add (pv 1) pe_int) (pv 3)) (pe_op op_add (pv 1) pe_int)) (nomark _)) (pw_or1 (pt_not (pt_val (pe_f D_int (hr.mono (by decide)) (pa_cons (pe_f D_for (hr.mono (by decide)) (pa_cons (pv 1) (pa_cons (pv 3) pa_nil))) pa_nil))))))) (pss_one (ps_ret pe_bl)) pss_nil)))
      (pss_cons (ps_set (i := 4) sc.nd rfl (Or.inl rfl) (pe_ix ix_list (pe_lst (pa_cons (pe_lst pa_nil) (pa_cons (pe_tup pa_nil) (pa_cons pe_int (pa_cons (pe_lst (pa_cons (pe_un un_neg pe_int) pa_nil)) (pa_cons (pe_lst (pa_cons pe_bl pa_nil)) (pa_cons (pe_lst (pa_cons pe_int (pa_cons pe_int pa_nil))) (pa_cons pe_non pa_nil)))))))) (pe_f D_take (hr.mono (by decide)) (pa_cons (pv 0) (pa_cons pe_int pa_nil))) (fun _ _ => rfl)))
      (pss_cons (ps_if (pt_cmpR (op_neD hr.units) (pe_f D_refused (hr.mono (by decide)) (pa_cons pe_str (pa_cons (pv 1) (pa_cons (pe_lst (pa_cons (pe_lst (pa_cons (pe_op op_add (pv 1) pe_int) pa_nil)) (pa_cons (pv 4) (pa_cons (pe_lst (pa_cons (pe_un un_neg pe_int) pa_nil)) pa_nil)))) pa_nil)))) (pe_tup (pa_cons pe_str (pa_cons pe_int pa_nil))) (nomark _)) (pss_one (ps_ret pe_bl)) pss_nil)
      (pss_cons (ps_if (pt_cmpR (op_neD hr.units) (pe_f D_refused (hr.mono (by decide)) (pa_cons pe_str (pa_cons (pv 1) (pa_cons (pe_lst (pa_cons (pe_lst (pa_cons (pe_op op_add (pv 1) pe_int) pa_nil)) (pa_cons (pe_lst (pa_cons (pv 1) pa_nil)) (pa_cons (pe_lst (pa_cons pe_int pa_nil)) pa_nil)))) pa_nil)))) (pe_tup (pa_cons pe_str (pa_cons (pe_op op_add (pv 1) pe_int) pa_nil))) (nomark _)) (pss_one (ps_ret pe_bl)) pss_nil)
      (pss_cons (ps_if (pt_cmpR (op_neD hr.units) (pe_f D_refused (hr.mono (by decide)) (pa_cons pe_str (pa_cons (pv 1) (pa_cons (pe_lst (pa_cons (pe_tup (pa_cons pe_int pa_nil)) (pa_cons (pe_tup (pa_cons (pe_op op_add (pv 1) pe_int) (pa_cons (pv 1) pa_nil))) (pa_cons (pe_lst (pa_cons (pe_op op_add (pv 1) pe_int) pa_nil)) pa_nil)))) pa_nil)))) (pe_tup (pa_cons pe_str (pa_cons (pe_op op_add (pv 1) pe_int) pa_nil))) (nomark _)) (pss_one (ps_ret pe_bl)) pss_nil)
      (pss_cons (ps_if (pt_cmpR (op_neD hr.units) (pe_f D_refused (hr.mono (by decide)) (pa_cons pe_str (pa_cons (pv 1) (pa_cons (pe_lst (pa_cons (pe_lst (pa_cons pe_int (pa_cons pe_int pa_nil))) (pa_cons (pe_lst (pa_cons pe_int pa_nil)) pa_nil))) pa_nil)))) (pe_tup (pa_cons pe_str (pa_cons pe_int pa_nil))) (nomark _)) (pss_one (ps_ret pe_bl)) pss_nil)
      (pss_cons (ps_if (pt_cmpR (op_neD hr.units) (pe_f D_refused (hr.mono (by decide)) (pa_cons pe_str (pa_cons (pv 1) (pa_cons (pe_lst (pa_cons (pe_lst (pa_cons pe_int pa_nil)) (pa_cons (pe_lst (pa_cons (pv 1) pa_nil)) (pa_cons (pe_lst (pa_cons pe_int pa_nil)) pa_nil)))) pa_nil)))) (pe_tup (pa_cons pe_str (pa_cons pe_int pa_nil))) (nomark _)) (pss_one (ps_ret pe_bl)) pss_nil)
      (pss_one (ps_ret (pe_cmpR (op_eqD hr.units) (pe_f D_refused (hr.mono (by decide)) (pa_cons pe_str (pa_cons (pv 1) (pa_cons (pe_ix ix_list (pe_lst (pa_cons (pe_lst pa_nil) (pa_cons pe_int (pa_cons pe_non (pa_cons (pe_tup pa_nil) pa_nil))))) (pe_f D_take (hr.mono (by decide)) (pa_cons (pv 0) (pa_cons pe_int pa_nil))) (fun _ _ => rfl)) pa_nil)))) (pe_tup (pa_cons pe_str (pa_cons (pe_un un_neg pe_int) pa_nil))) (nomark _)))))))))))))), ?_⟩
  walk_at "go"
  refine ⟨by show 6 ≤ sizeLine; decide, fun p1 hp1 => ?_⟩
  have p1a : p1 ≠ a := fun z => by rw [z, ha] at hp1; cases hp1
  have ha := (same_new (o := .lst [V.int 0, .int (-1), .int 7, .non, .bl true, .str "a"]) hp1) _ _ ha
  have fp1 : (upd H p1 (.lst [V.int 0, .int (-1), .int 7, .non, .bl true, .str "a"])) p1 = some (.lst [V.int 0, .int (-1), .int 7, .non, .bl true, .str "a"]) := upd_same
  generalize upd H p1 (.lst [V.int 0, .int (-1), .int 7, .non, .bl true, .str "a"]) = G1 at ha fp1 ⊢
  clear hp1
  walk_at "go"
  refine ⟨a, ns, 6, rfl, ha, by omega, by decide, fun r2 ns2 G2 a2 b2 l2 ha s => ?_⟩
  have fp1 := s _ _ p1a fp1
  have lt2 : ns2.length ≤ ns.length := by omega
  clear s
  obtain ⟨bad, dbad, tbad, ebad, sbad, nbad⟩ := bad_at a2 b2
  refine r_ixL (SqL.of fp1) ebad ?_
  walk_at "go"
  clear fp1
  refine ⟨by show 1 ≤ sizeLine; decide, fun q1 hq1 => ?_⟩
  have ha := (same_new (o := .lst [V.int 9]) hq1) _ _ ha
  have fq1 : (upd G2 q1 (.lst [V.int 9])) q1 = some (.lst [V.int 9]) := upd_same
  generalize upd G2 q1 (.lst [V.int 9]) = G3 at ha fq1 ⊢
  clear hq1
  walk_at "go"
  refine ⟨by show 2 ≤ sizeLine; decide, fun q2 hq2 => ?_⟩
  have ha := (same_new (o := .lst [V.ref q1, .int 5]) hq2) _ _ ha
  have fq1 := (same_new (o := .lst [V.ref q1, .int 5]) hq2) _ _ fq1
  have fq2 : (upd G3 q2 (.lst [V.ref q1, .int 5])) q2 = some (.lst [V.ref q1, .int 5]) := upd_same
  generalize upd G3 q2 (.lst [V.ref q1, .int 5]) = G4 at ha fq1 fq2 ⊢
  clear hq2
  walk_at "go"
  refine ⟨"of", bad, .ref q2, "number", .str "size", rfl, .osize sbad.sm nbad, fun t H5 s htn ht => ?_⟩
  walk_at "go"
  refine ⟨by show 2 ≤ sizeLine; decide, fun t2 ht2 => ?_⟩
  have s9 := same_new (o := .tup [.str "number", .str "size"]) ht2
  refine r_neSame (dp_tag (s9 _ _ ht) (.str _)) (dp_tag upd_same (.str _)) (okd_tag (by decide +kernel) (okd_str (by decide +kernel))) (by decide) ?_
  have ha := (s.trans s9) _ _ ha
  have fq1 := (s.trans s9) _ _ fq1
  have fq2 := (s.trans s9) _ _ fq2
  clear s s9 ht htn
  generalize upd H5 t2 _ = G5 at ha fq1 fq2 ⊢
  clear ht2
  walk_at "go"
  clear fq1 fq2
  refine ⟨"for", bad, bad, "number", .str "size", rfl, .fsize sbad.sm nbad sbad.sm, fun t H6 s htn ht => ?_⟩
  walk_at "go"
  refine ⟨by show 2 ≤ sizeLine; decide, fun t2 ht2 => ?_⟩
  have s9 := same_new (o := .tup [.str "number", .str "size"]) ht2
  refine r_neSame (dp_tag (s9 _ _ ht) (.str _)) (dp_tag upd_same (.str _)) (okd_tag (by decide +kernel) (okd_str (by decide +kernel))) (by decide) ?_
  have ha := (s.trans s9) _ _ ha
  clear s s9 ht htn
  generalize upd H6 t2 _ = G6 at ha ⊢
  clear ht2
  walk_at "go"
  refine ⟨by show 6 ≤ sizeLine; decide, fun q3 hq3 => ?_⟩
  have ha := (same_new (o := .lst [V.int 0, .int (-2), .int ((n : Int) + 1), .non, .bl true, .str "a"]) hq3) _ _ ha
  have fq3 : (upd G6 q3 (.lst [V.int 0, .int (-2), .int ((n : Int) + 1), .non, .bl true, .str "a"])) q3 = some (.lst [V.int 0, .int (-2), .int ((n : Int) + 1), .non, .bl true, .str "a"]) := upd_same
  generalize upd G6 q3 (.lst [V.int 0, .int (-2), .int ((n : Int) + 1), .non, .bl true, .str "a"]) = G7 at ha fq3 ⊢
  clear hq3
  walk_at "go"
  refine r_lstK (SqL.of fq3) ?_
  refine r_forL (xs := [V.int 0, .int (-2), .int ((n : Int) + 1), .non, .bl true, .str "a"]) (fun i σ H' => ∃ v3, σ = [some (.ref a), some (.int (n : Int)), some bad, v3, none] ∧ Same G7 H') ⟨none, rfl, Same.refl _⟩ (fun i σ H' hi p => p.choose_spec.2.seq (SqL.of fq3)) ?_ ?_
  · rintro i x σ H5 hx ⟨v3, rfl, s5⟩
    have ha := s5 _ _ ha
    obtain ⟨dx, tx, scx, nox⟩ := seen_at hx
    walk_at "go"
    refine ⟨"for", .int (n : Int), x, "number", .str "seen", rfl, .fseen n1 n6 scx.sm nox, fun t H8 s htn ht => ?_⟩
    walk_at "go"
    refine ⟨by show 2 ≤ sizeLine; decide, fun t2 ht2 => ?_⟩
    have s9 := same_new (o := .tup [.str "number", .str "seen"]) ht2
    refine r_neSame (dp_tag (s9 _ _ ht) (.str _)) (dp_tag upd_same (.str _)) (okd_tag (by decide +kernel) (okd_str (by decide +kernel))) (by decide) ?_
    have ha := (s.trans s9) _ _ ha
    have sk := s5.trans (s.trans s9)
    clear s s9 ht htn
    generalize upd H8 t2 _ = G8 at ha sk ⊢
    clear ht2
    walk_at "go"
    exact ⟨_, rfl, sk⟩
  · rintro σ H5 ⟨v3, rfl, s5⟩
    have ha := s5 _ _ ha
    clear fq3 s5
    walk_at "go"
    refine r_rngK2 n (by omega) (by omega) ?_
    refine r_forR (fun i σ H' => ∃ v3, σ = [some (.ref a), some (.int (n : Int)), some bad, v3, none] ∧ Same H5 H') ⟨v3, rfl, Same.refl _⟩ ?_ ?_
    · rintro i σ H6 hi ⟨v3, rfl, s6⟩
      have eI : V.int (1 + (i : Int)) = V.int ((i + 1 : Nat) : Int) := by rw [Int.natCast_add, Int.add_comm]; rfl
      have eM : ((((n + 1 - (i + 1)) * (n + 1) : Nat)) : Int) = ((n : Int) + 1 - (1 + (i : Int))) * ((n : Int) + 1) := by
        rw [Int.natCast_mul]
        congr 1
        omega
      walk_at "go"
      refine ⟨.int (n : Int), .int (1 + (i : Int)), "int", "int", rfl, .int _, .int _, .inr ⟨n, rfl, n1, n6, .inr ⟨i + 1, eI, by omega, by omega, fun H7 s7 => ?_⟩⟩⟩
      walk_at "go"
      refine r_I (.inl ⟨by omega, by omega⟩) ?_
      walk_at "go"
      refine ite_no (by rw [decide_eq_true eM]; rfl) ?_
      walk_at "go"
      refine ⟨.int (n : Int), .int (1 + (i : Int)), "int", "int", rfl, .int _, .int _, .inr ⟨n, rfl, n1, n6, .inr ⟨i + 1, eI, by omega, by omega, fun H8 s8 => ?_⟩⟩⟩
      walk_at "go"
      refine ⟨.int _, "int", rfl, .int _, fun H9 s9 => ?_⟩
      walk_at "go"
      refine ite_no rfl ?_
      walk_at "go"
      exact ⟨_, rfl, s6.trans (s7.trans (s8.trans s9))⟩
    · rintro σ H6 ⟨v3, rfl, s6⟩
      have ha := s6 _ _ ha
      clear s6
      walk_at "go"
      refine ⟨by show 0 ≤ sizeLine; decide, fun p2 hp2 => ?_⟩
      have p2a : p2 ≠ a := fun z => by rw [z, ha] at hp2; cases hp2
      have ha := (same_new (o := .lst []) hp2) _ _ ha
      have fp2 : (upd H6 p2 (.lst [])) p2 = some (.lst []) := upd_same
      generalize upd H6 p2 (.lst []) = G9 at ha fp2 ⊢
      clear hp2
      walk_at "go"
      refine ⟨by show 0 ≤ sizeLine; decide, fun p3 hp3 => ?_⟩
      have p3a : p3 ≠ a := fun z => by rw [z, ha] at hp3; cases hp3
      have ha := (same_new (o := .tup []) hp3) _ _ ha
      have fp2 := (same_new (o := .tup []) hp3) _ _ fp2
      have fp3 : (upd G9 p3 (.tup [])) p3 = some (.tup []) := upd_same
      generalize upd G9 p3 (.tup []) = G10 at ha fp2 fp3 ⊢
      clear hp3
      walk_at "go"
      refine ⟨by show 1 ≤ sizeLine; decide, fun p4 hp4 => ?_⟩
      have p4a : p4 ≠ a := fun z => by rw [z, ha] at hp4; cases hp4
      have ha := (same_new (o := .lst [V.int (-1)]) hp4) _ _ ha
      have fp2 := (same_new (o := .lst [V.int (-1)]) hp4) _ _ fp2
      have fp3 := (same_new (o := .lst [V.int (-1)]) hp4) _ _ fp3
      have fp4 : (upd G10 p4 (.lst [V.int (-1)])) p4 = some (.lst [V.int (-1)]) := upd_same
      generalize upd G10 p4 (.lst [V.int (-1)]) = G11 at ha fp2 fp3 fp4 ⊢
      clear hp4
      walk_at "go"
      refine ⟨by show 1 ≤ sizeLine; decide, fun p5 hp5 => ?_⟩
      have p5a : p5 ≠ a := fun z => by rw [z, ha] at hp5; cases hp5
      have ha := (same_new (o := .lst [V.bl true]) hp5) _ _ ha
      have fp2 := (same_new (o := .lst [V.bl true]) hp5) _ _ fp2
      have fp3 := (same_new (o := .lst [V.bl true]) hp5) _ _ fp3
      have fp4 := (same_new (o := .lst [V.bl true]) hp5) _ _ fp4
      have fp5 : (upd G11 p5 (.lst [V.bl true])) p5 = some (.lst [V.bl true]) := upd_same
      generalize upd G11 p5 (.lst [V.bl true]) = G12 at ha fp2 fp3 fp4 fp5 ⊢
      clear hp5
      walk_at "go"
      refine ⟨by show 2 ≤ sizeLine; decide, fun p6 hp6 => ?_⟩
      have p6a : p6 ≠ a := fun z => by rw [z, ha] at hp6; cases hp6
      have ha := (same_new (o := .lst [V.int 0, .int 0]) hp6) _ _ ha
      have fp2 := (same_new (o := .lst [V.int 0, .int 0]) hp6) _ _ fp2
      have fp3 := (same_new (o := .lst [V.int 0, .int 0]) hp6) _ _ fp3
      have fp4 := (same_new (o := .lst [V.int 0, .int 0]) hp6) _ _ fp4
      have fp5 := (same_new (o := .lst [V.int 0, .int 0]) hp6) _ _ fp5
      have fp6 : (upd G12 p6 (.lst [V.int 0, .int 0])) p6 = some (.lst [V.int 0, .int 0]) := upd_same
      generalize upd G12 p6 (.lst [V.int 0, .int 0]) = G13 at ha fp2 fp3 fp4 fp5 fp6 ⊢
      clear hp6
      walk_at "go"
      refine ⟨by show 7 ≤ sizeLine; decide, fun p7 hp7 => ?_⟩
      have p7a : p7 ≠ a := fun z => by rw [z, ha] at hp7; cases hp7
      have ha := (same_new (o := .lst [V.ref p2, .ref p3, .int 5, .ref p4, .ref p5, .ref p6, .non]) hp7) _ _ ha
      have fp2 := (same_new (o := .lst [V.ref p2, .ref p3, .int 5, .ref p4, .ref p5, .ref p6, .non]) hp7) _ _ fp2
      have fp3 := (same_new (o := .lst [V.ref p2, .ref p3, .int 5, .ref p4, .ref p5, .ref p6, .non]) hp7) _ _ fp3
      have fp4 := (same_new (o := .lst [V.ref p2, .ref p3, .int 5, .ref p4, .ref p5, .ref p6, .non]) hp7) _ _ fp4
      have fp5 := (same_new (o := .lst [V.ref p2, .ref p3, .int 5, .ref p4, .ref p5, .ref p6, .non]) hp7) _ _ fp5
      have fp6 := (same_new (o := .lst [V.ref p2, .ref p3, .int 5, .ref p4, .ref p5, .ref p6, .non]) hp7) _ _ fp6
      have fp7 : (upd G13 p7 (.lst [V.ref p2, .ref p3, .int 5, .ref p4, .ref p5, .ref p6, .non])) p7 = some (.lst [V.ref p2, .ref p3, .int 5, .ref p4, .ref p5, .ref p6, .non]) := upd_same
      generalize upd G13 p7 (.lst [V.ref p2, .ref p3, .int 5, .ref p4, .ref p5, .ref p6, .non]) = G14 at ha fp2 fp3 fp4 fp5 fp6 fp7 ⊢
      clear hp7
      walk_at "go"
      refine ⟨a, ns2, 7, rfl, ha, by omega, by decide, fun r15 ns15 G15 a15 b15 l15 ha s => ?_⟩
      have fp2 := s _ _ p2a fp2
      have fp3 := s _ _ p3a fp3
      have fp4 := s _ _ p4a fp4
      have fp5 := s _ _ p5a fp5
      have fp6 := s _ _ p6a fp6
      have fp7 := s _ _ p7a fp7
      have lt15 : ns15.length ≤ ns.length := by omega
      clear s
      obtain ⟨thing, ething, frb⟩ := thing_at (K := K) (n := n) fp2 fp3 fp4 fp5 fp6 a15 b15
      refine r_ixL (SqL.of fp7) ething ?_
      clear ething
      walk_at "go"
      clear fp2 fp3 fp4 fp5 fp6 fp7
      refine ⟨by show 1 ≤ sizeLine; decide, fun q1 hq1 => ?_⟩
      have ha := (same_new (o := .lst [V.int ((n : Int) + 3)]) hq1) _ _ ha
      have frb := frb.keep (same_new (o := .lst [V.int ((n : Int) + 3)]) hq1)
      have fq1 : (upd G15 q1 (.lst [V.int ((n : Int) + 3)])) q1 = some (.lst [V.int ((n : Int) + 3)]) := upd_same
      generalize upd G15 q1 (.lst [V.int ((n : Int) + 3)]) = G16 at ha frb fq1 ⊢
      clear hq1
      walk_at "go"
      refine ⟨by show 1 ≤ sizeLine; decide, fun q2 hq2 => ?_⟩
      have ha := (same_new (o := .lst [V.int (-2)]) hq2) _ _ ha
      have frb := frb.keep (same_new (o := .lst [V.int (-2)]) hq2)
      have fq1 := (same_new (o := .lst [V.int (-2)]) hq2) _ _ fq1
      have fq2 : (upd G16 q2 (.lst [V.int (-2)])) q2 = some (.lst [V.int (-2)]) := upd_same
      generalize upd G16 q2 (.lst [V.int (-2)]) = G17 at ha frb fq1 fq2 ⊢
      clear hq2
      walk_at "go"
      refine ⟨by show 3 ≤ sizeLine; decide, fun q3 hq3 => ?_⟩
      have ha := (same_new (o := .lst [V.ref q1, thing, .ref q2]) hq3) _ _ ha
      have frb := frb.keep (same_new (o := .lst [V.ref q1, thing, .ref q2]) hq3)
      have fq1 := (same_new (o := .lst [V.ref q1, thing, .ref q2]) hq3) _ _ fq1
      have fq2 := (same_new (o := .lst [V.ref q1, thing, .ref q2]) hq3) _ _ fq2
      have fq3 : (upd G17 q3 (.lst [V.ref q1, thing, .ref q2])) q3 = some (.lst [V.ref q1, thing, .ref q2]) := upd_same
      generalize upd G17 q3 (.lst [V.ref q1, thing, .ref q2]) = G18 at ha frb fq1 fq2 fq3 ⊢
      clear hq3
      walk_at "go"
      refine ⟨"of", .int (n : Int), .ref q3, "round", .int 1, rfl, .oblk n1 n6 (.inr ⟨q3, [.ref q1], [[n + 3]], thing, [.ref q2], rfl, SqL.of fq3, (RowsB.cons (rowL1 (c := n + 3) fq1) (by simp) .nil).blk (by simp) (by simp), frb, rfl⟩), fun t H19 s htn ht => ?_⟩
      walk_at "go"
      refine ⟨by show 2 ≤ sizeLine; decide, fun t2 ht2 => ?_⟩
      have s9 := same_new (o := .tup [.str "round", .int 1]) ht2
      refine r_neSame (dp_tag (s9 _ _ ht) (.int _)) (dp_tag upd_same (.int _)) (okd_tag (by decide +kernel) (okd_int _)) (by decide) ?_
      have ha := (s.trans s9) _ _ ha
      have frb := frb.keep (s.trans s9)
      have fq1 := (s.trans s9) _ _ fq1
      have fq2 := (s.trans s9) _ _ fq2
      have fq3 := (s.trans s9) _ _ fq3
      clear s s9 ht htn
      generalize upd H19 t2 _ = G19 at ha frb fq1 fq2 fq3 ⊢
      clear ht2
      walk_at "go"
      clear frb fq1 fq2 fq3
      refine ⟨by show 1 ≤ sizeLine; decide, fun q1 hq1 => ?_⟩
      have ha := (same_new (o := .lst [V.int ((n : Int) + 3)]) hq1) _ _ ha
      have fq1 : (upd G19 q1 (.lst [V.int ((n : Int) + 3)])) q1 = some (.lst [V.int ((n : Int) + 3)]) := upd_same
      generalize upd G19 q1 (.lst [V.int ((n : Int) + 3)]) = G20 at ha fq1 ⊢
      clear hq1
      walk_at "go"
      refine ⟨by show 1 ≤ sizeLine; decide, fun q2 hq2 => ?_⟩
      have ha := (same_new (o := .lst [V.int ((n : Int))]) hq2) _ _ ha
      have fq1 := (same_new (o := .lst [V.int ((n : Int))]) hq2) _ _ fq1
      have fq2 : (upd G20 q2 (.lst [V.int ((n : Int))])) q2 = some (.lst [V.int ((n : Int))]) := upd_same
      generalize upd G20 q2 (.lst [V.int ((n : Int))]) = G21 at ha fq1 fq2 ⊢
      clear hq2
      walk_at "go"
      refine ⟨by show 1 ≤ sizeLine; decide, fun q3 hq3 => ?_⟩
      have ha := (same_new (o := .lst [V.int (0)]) hq3) _ _ ha
      have fq1 := (same_new (o := .lst [V.int (0)]) hq3) _ _ fq1
      have fq2 := (same_new (o := .lst [V.int (0)]) hq3) _ _ fq2
      have fq3 : (upd G21 q3 (.lst [V.int (0)])) q3 = some (.lst [V.int (0)]) := upd_same
      generalize upd G21 q3 (.lst [V.int (0)]) = G22 at ha fq1 fq2 fq3 ⊢
      clear hq3
      walk_at "go"
      refine ⟨by show 3 ≤ sizeLine; decide, fun q4 hq4 => ?_⟩
      have ha := (same_new (o := .lst [V.ref q1, .ref q2, .ref q3]) hq4) _ _ ha
      have fq1 := (same_new (o := .lst [V.ref q1, .ref q2, .ref q3]) hq4) _ _ fq1
      have fq2 := (same_new (o := .lst [V.ref q1, .ref q2, .ref q3]) hq4) _ _ fq2
      have fq3 := (same_new (o := .lst [V.ref q1, .ref q2, .ref q3]) hq4) _ _ fq3
      have fq4 : (upd G22 q4 (.lst [V.ref q1, .ref q2, .ref q3])) q4 = some (.lst [V.ref q1, .ref q2, .ref q3]) := upd_same
      generalize upd G22 q4 (.lst [V.ref q1, .ref q2, .ref q3]) = G23 at ha fq1 fq2 fq3 fq4 ⊢
      clear hq4
      walk_at "go"
      refine ⟨"of", .int (n : Int), .ref q4, "name", .int ((n + 3 : Nat) : Int), rfl, .oname (i := 0) (c := n + 3) (pre := []) (rest := []) (bs := [[n + 3], [n], [0]]) n1 n6 (SqL.of fq4) (by show 0 < 3; decide) ((RowsB.cons (rowL1 (c := n + 3) fq1) (by simp) (.cons (rowL1 (c := n) fq2) (by simp) (.cons (rowL1 (c := 0) fq3) (by simp) .nil))).blk (by simp; omega) (by simp)) rfl (fun b hb => by simp at hb) (fun d hd => by cases hd) (by omega), fun t H24 s htn ht => ?_⟩
      walk_at "go"
      rw [show V.int ((n : Int) + 3) = V.int ((n + 3 : Nat) : Int) from rfl]
      refine ⟨by show 2 ≤ sizeLine; decide, fun t2 ht2 => ?_⟩
      have s9 := same_new (o := .tup [.str "name", .int ((n + 3 : Nat) : Int)]) ht2
      refine r_neSame (dp_tag (s9 _ _ ht) (.int _)) (dp_tag upd_same (.int _)) (okd_tag (by decide +kernel) (okd_int _)) (by decide) ?_
      have ha := (s.trans s9) _ _ ha
      have fq1 := (s.trans s9) _ _ fq1
      have fq2 := (s.trans s9) _ _ fq2
      have fq3 := (s.trans s9) _ _ fq3
      have fq4 := (s.trans s9) _ _ fq4
      clear s s9 ht htn
      generalize upd H24 t2 _ = G24 at ha fq1 fq2 fq3 fq4 ⊢
      clear ht2
      walk_at "go"
      clear fq1 fq2 fq3 fq4
      refine ⟨by show 1 ≤ sizeLine; decide, fun q1 hq1 => ?_⟩
      have ha := (same_new (o := .tup [V.int (0)]) hq1) _ _ ha
      have fq1 : (upd G24 q1 (.tup [V.int (0)])) q1 = some (.tup [V.int (0)]) := upd_same
      generalize upd G24 q1 (.tup [V.int (0)]) = G25 at ha fq1 ⊢
      clear hq1
      walk_at "go"
      refine ⟨by show 2 ≤ sizeLine; decide, fun q2 hq2 => ?_⟩
      have ha := (same_new (o := .tup [V.int ((n : Int) + 1), V.int ((n : Int))]) hq2) _ _ ha
      have fq1 := (same_new (o := .tup [V.int ((n : Int) + 1), V.int ((n : Int))]) hq2) _ _ fq1
      have fq2 : (upd G25 q2 (.tup [V.int ((n : Int) + 1), V.int ((n : Int))])) q2 = some (.tup [V.int ((n : Int) + 1), V.int ((n : Int))]) := upd_same
      generalize upd G25 q2 (.tup [V.int ((n : Int) + 1), V.int ((n : Int))]) = G26 at ha fq1 fq2 ⊢
      clear hq2
      walk_at "go"
      refine ⟨by show 1 ≤ sizeLine; decide, fun q3 hq3 => ?_⟩
      have ha := (same_new (o := .lst [V.int ((n : Int) + 2)]) hq3) _ _ ha
      have fq1 := (same_new (o := .lst [V.int ((n : Int) + 2)]) hq3) _ _ fq1
      have fq2 := (same_new (o := .lst [V.int ((n : Int) + 2)]) hq3) _ _ fq2
      have fq3 : (upd G26 q3 (.lst [V.int ((n : Int) + 2)])) q3 = some (.lst [V.int ((n : Int) + 2)]) := upd_same
      generalize upd G26 q3 (.lst [V.int ((n : Int) + 2)]) = G27 at ha fq1 fq2 fq3 ⊢
      clear hq3
      walk_at "go"
      refine ⟨by show 3 ≤ sizeLine; decide, fun q4 hq4 => ?_⟩
      have ha := (same_new (o := .lst [V.ref q1, .ref q2, .ref q3]) hq4) _ _ ha
      have fq1 := (same_new (o := .lst [V.ref q1, .ref q2, .ref q3]) hq4) _ _ fq1
      have fq2 := (same_new (o := .lst [V.ref q1, .ref q2, .ref q3]) hq4) _ _ fq2
      have fq3 := (same_new (o := .lst [V.ref q1, .ref q2, .ref q3]) hq4) _ _ fq3
      have fq4 : (upd G27 q4 (.lst [V.ref q1, .ref q2, .ref q3])) q4 = some (.lst [V.ref q1, .ref q2, .ref q3]) := upd_same
      generalize upd G27 q4 (.lst [V.ref q1, .ref q2, .ref q3]) = G28 at ha fq1 fq2 fq3 fq4 ⊢
      clear hq4
      walk_at "go"
      refine ⟨"of", .int (n : Int), .ref q4, "name", .int ((n + 1 : Nat) : Int), rfl, .oname (i := 1) (c := n + 1) (pre := []) (rest := [n]) (bs := [[0], [n + 1, n], [n + 2]]) n1 n6 (SqL.of fq4) (by show 0 < 3; decide) ((RowsB.cons (rowT1 (c := 0) fq1) (by simp) (.cons (rowT2 (c := n + 1) (d := n) fq2) (by simp) (.cons (rowL1 (c := n + 2) fq3) (by simp) .nil))).blk (by simp; omega) (by simp)) rfl (fun b hb d hd => by simp at hb; subst hb; simp at hd; omega) (fun d hd => by cases hd) (by omega), fun t H29 s htn ht => ?_⟩
      walk_at "go"
      rw [show V.int ((n : Int) + 1) = V.int ((n + 1 : Nat) : Int) from rfl]
      refine ⟨by show 2 ≤ sizeLine; decide, fun t2 ht2 => ?_⟩
      have s9 := same_new (o := .tup [.str "name", .int ((n + 1 : Nat) : Int)]) ht2
      refine r_neSame (dp_tag (s9 _ _ ht) (.int _)) (dp_tag upd_same (.int _)) (okd_tag (by decide +kernel) (okd_int _)) (by decide) ?_
      have ha := (s.trans s9) _ _ ha
      have fq1 := (s.trans s9) _ _ fq1
      have fq2 := (s.trans s9) _ _ fq2
      have fq3 := (s.trans s9) _ _ fq3
      have fq4 := (s.trans s9) _ _ fq4
      clear s s9 ht htn
      generalize upd H29 t2 _ = G29 at ha fq1 fq2 fq3 fq4 ⊢
      clear ht2
      walk_at "go"
      clear fq1 fq2 fq3 fq4
      refine ⟨by show 2 ≤ sizeLine; decide, fun q1 hq1 => ?_⟩
      have ha := (same_new (o := .lst [V.int (1), V.int (1)]) hq1) _ _ ha
      have fq1 : (upd G29 q1 (.lst [V.int (1), V.int (1)])) q1 = some (.lst [V.int (1), V.int (1)]) := upd_same
      generalize upd G29 q1 (.lst [V.int (1), V.int (1)]) = G30 at ha fq1 ⊢
      clear hq1
      walk_at "go"
      refine ⟨by show 1 ≤ sizeLine; decide, fun q2 hq2 => ?_⟩
      have ha := (same_new (o := .lst [V.int (9)]) hq2) _ _ ha
      have fq1 := (same_new (o := .lst [V.int (9)]) hq2) _ _ fq1
      have fq2 : (upd G30 q2 (.lst [V.int (9)])) q2 = some (.lst [V.int (9)]) := upd_same
      generalize upd G30 q2 (.lst [V.int (9)]) = G31 at ha fq1 fq2 ⊢
      clear hq2
      walk_at "go"
      refine ⟨by show 2 ≤ sizeLine; decide, fun q3 hq3 => ?_⟩
      have ha := (same_new (o := .lst [V.ref q1, .ref q2]) hq3) _ _ ha
      have fq1 := (same_new (o := .lst [V.ref q1, .ref q2]) hq3) _ _ fq1
      have fq2 := (same_new (o := .lst [V.ref q1, .ref q2]) hq3) _ _ fq2
      have fq3 : (upd G31 q3 (.lst [V.ref q1, .ref q2])) q3 = some (.lst [V.ref q1, .ref q2]) := upd_same
      generalize upd G31 q3 (.lst [V.ref q1, .ref q2]) = G32 at ha fq1 fq2 fq3 ⊢
      clear hq3
      walk_at "go"
      refine ⟨"of", .int (n : Int), .ref q3, "round", .int 0, rfl, .oblk n1 n6 (.inr ⟨q3, [], [], .ref q1, [.ref q2], rfl, SqL.of fq3, RowsB.nil.blk (by simp) (by simp), .inr (.inr ⟨q1, [1], .int 1, "int", [], rfl, .inl (SqL.of fq1), by simp, by simp, .int _, .inr ⟨1, rfl, by simp⟩⟩), rfl⟩), fun t H33 s htn ht => ?_⟩
      walk_at "go"
      refine ⟨by show 2 ≤ sizeLine; decide, fun t2 ht2 => ?_⟩
      have s9 := same_new (o := .tup [.str "round", .int 0]) ht2
      refine r_neSame (dp_tag (s9 _ _ ht) (.int _)) (dp_tag upd_same (.int _)) (okd_tag (by decide +kernel) (okd_int _)) (by decide) ?_
      have ha := (s.trans s9) _ _ ha
      have fq1 := (s.trans s9) _ _ fq1
      have fq2 := (s.trans s9) _ _ fq2
      have fq3 := (s.trans s9) _ _ fq3
      clear s s9 ht htn
      generalize upd H33 t2 _ = G33 at ha fq1 fq2 fq3 ⊢
      clear ht2
      walk_at "go"
      clear fq1 fq2 fq3
      refine ⟨by show 1 ≤ sizeLine; decide, fun q1 hq1 => ?_⟩
      have ha := (same_new (o := .lst [V.int (0)]) hq1) _ _ ha
      have fq1 : (upd G33 q1 (.lst [V.int (0)])) q1 = some (.lst [V.int (0)]) := upd_same
      generalize upd G33 q1 (.lst [V.int (0)]) = G34 at ha fq1 ⊢
      clear hq1
      walk_at "go"
      refine ⟨by show 1 ≤ sizeLine; decide, fun q2 hq2 => ?_⟩
      have ha := (same_new (o := .lst [V.int ((n : Int))]) hq2) _ _ ha
      have fq1 := (same_new (o := .lst [V.int ((n : Int))]) hq2) _ _ fq1
      have fq2 : (upd G34 q2 (.lst [V.int ((n : Int))])) q2 = some (.lst [V.int ((n : Int))]) := upd_same
      generalize upd G34 q2 (.lst [V.int ((n : Int))]) = G35 at ha fq1 fq2 ⊢
      clear hq2
      walk_at "go"
      refine ⟨by show 1 ≤ sizeLine; decide, fun q3 hq3 => ?_⟩
      have ha := (same_new (o := .lst [V.int (0)]) hq3) _ _ ha
      have fq1 := (same_new (o := .lst [V.int (0)]) hq3) _ _ fq1
      have fq2 := (same_new (o := .lst [V.int (0)]) hq3) _ _ fq2
      have fq3 : (upd G35 q3 (.lst [V.int (0)])) q3 = some (.lst [V.int (0)]) := upd_same
      generalize upd G35 q3 (.lst [V.int (0)]) = G36 at ha fq1 fq2 fq3 ⊢
      clear hq3
      walk_at "go"
      refine ⟨by show 3 ≤ sizeLine; decide, fun q4 hq4 => ?_⟩
      have ha := (same_new (o := .lst [V.ref q1, .ref q2, .ref q3]) hq4) _ _ ha
      have fq1 := (same_new (o := .lst [V.ref q1, .ref q2, .ref q3]) hq4) _ _ fq1
      have fq2 := (same_new (o := .lst [V.ref q1, .ref q2, .ref q3]) hq4) _ _ fq2
      have fq3 := (same_new (o := .lst [V.ref q1, .ref q2, .ref q3]) hq4) _ _ fq3
      have fq4 : (upd G36 q4 (.lst [V.ref q1, .ref q2, .ref q3])) q4 = some (.lst [V.ref q1, .ref q2, .ref q3]) := upd_same
      generalize upd G36 q4 (.lst [V.ref q1, .ref q2, .ref q3]) = G37 at ha fq1 fq2 fq3 fq4 ⊢
      clear hq4
      walk_at "go"
      refine ⟨"of", .int (n : Int), .ref q4, "round", .int 2, rfl, .oblk n1 n6 (.inr ⟨q4, [.ref q1, .ref q2], [[0], [n]], .ref q3, [], rfl, SqL.of fq4, (RowsB.cons (rowL1 (c := 0) fq1) (by simp) (.cons (rowL1 (c := n) fq2) (by simp) .nil)).blk (by simp; omega) (by simp), .inr (.inr ⟨q3, [], .int 0, "int", [], rfl, .inl (SqL.of fq3), by simp; omega, by simp, .int _, .inr ⟨0, rfl, by simp⟩⟩), rfl⟩), fun t H38 s htn ht => ?_⟩
      walk_at "go"
      refine ⟨by show 2 ≤ sizeLine; decide, fun t2 ht2 => ?_⟩
      have s9 := same_new (o := .tup [.str "round", .int 2]) ht2
      refine r_neSame (dp_tag (s9 _ _ ht) (.int _)) (dp_tag upd_same (.int _)) (okd_tag (by decide +kernel) (okd_int _)) (by decide) ?_
      have ha := (s.trans s9) _ _ ha
      have fq1 := (s.trans s9) _ _ fq1
      have fq2 := (s.trans s9) _ _ fq2
      have fq3 := (s.trans s9) _ _ fq3
      have fq4 := (s.trans s9) _ _ fq4
      clear s s9 ht htn
      generalize upd H38 t2 _ = G38 at ha fq1 fq2 fq3 fq4 ⊢
      clear ht2
      walk_at "go"
      clear fq1 fq2 fq3 fq4
      refine ⟨by show 0 ≤ sizeLine; decide, fun p2 hp2 => ?_⟩
      have p2a : p2 ≠ a := fun z => by rw [z, ha] at hp2; cases hp2
      have ha := (same_new (o := .lst []) hp2) _ _ ha
      have fp2 : (upd G38 p2 (.lst [])) p2 = some (.lst []) := upd_same
      generalize upd G38 p2 (.lst []) = G39 at ha fp2 ⊢
      clear hp2
      walk_at "go"
      refine ⟨by show 0 ≤ sizeLine; decide, fun p3 hp3 => ?_⟩
      have p3a : p3 ≠ a := fun z => by rw [z, ha] at hp3; cases hp3
      have ha := (same_new (o := .tup []) hp3) _ _ ha
      have fp2 := (same_new (o := .tup []) hp3) _ _ fp2
      have fp3 : (upd G39 p3 (.tup [])) p3 = some (.tup []) := upd_same
      generalize upd G39 p3 (.tup []) = G40 at ha fp2 fp3 ⊢
      clear hp3
      walk_at "go"
      refine ⟨by show 4 ≤ sizeLine; decide, fun p4 hp4 => ?_⟩
      have p4a : p4 ≠ a := fun z => by rw [z, ha] at hp4; cases hp4
      have ha := (same_new (o := .lst [V.ref p2, .int 5, .non, .ref p3]) hp4) _ _ ha
      have fp2 := (same_new (o := .lst [V.ref p2, .int 5, .non, .ref p3]) hp4) _ _ fp2
      have fp3 := (same_new (o := .lst [V.ref p2, .int 5, .non, .ref p3]) hp4) _ _ fp3
      have fp4 : (upd G40 p4 (.lst [V.ref p2, .int 5, .non, .ref p3])) p4 = some (.lst [V.ref p2, .int 5, .non, .ref p3]) := upd_same
      generalize upd G40 p4 (.lst [V.ref p2, .int 5, .non, .ref p3]) = G41 at ha fp2 fp3 fp4 ⊢
      clear hp4
      walk_at "go"
      refine ⟨a, ns15, 4, rfl, ha, by omega, by decide, fun r42 ns42 G42 a42 b42 l42 ha s => ?_⟩
      have fp2 := s _ _ p2a fp2
      have fp3 := s _ _ p3a fp3
      have fp4 := s _ _ p4a fp4
      have lt42 : ns42.length ≤ ns.length := by omega
      clear s
      obtain ⟨v, ev, hv⟩ := none_at (K := K) fp2 fp3 a42 b42
      refine r_ixL (SqL.of fp4) ev ?_
      walk_at "go"
      refine ⟨"of", .int (n : Int), v, "round", .int (-1), rfl, .oblk n1 n6 (.inl ⟨hv, rfl⟩), fun t H43 s htn ht => ?_⟩
      walk_at "go"
      refine ⟨by show 2 ≤ sizeLine; decide, fun t2 ht2 => ?_⟩
      have s9 := same_new (o := .tup [.str "round", .int (-1)]) ht2
      refine r_eqSame (dp_tag (s9 _ _ ht) (.int _)) (dp_tag upd_same (.int _)) (okd_tag (by decide +kernel) (okd_int _)) (by decide) ?_
      have ha := (s.trans s9) _ _ ha
      have fp2 := (s.trans s9) _ _ fp2
      have fp3 := (s.trans s9) _ _ fp3
      have fp4 := (s.trans s9) _ _ fp4
      clear s s9 ht htn
      generalize upd H43 t2 _ = G43 at ha fp2 fp3 fp4 ⊢
      clear ht2
      walk_at "go"
      exact k ns42 _ lt42 ha
end
end K8
namespace K8
open PySem L2 Er K7M
/-- one step of a plain reading -/
local macro_rules | `(tactic| walk_at "step") => `(tactic| first
  | with_reducible refine r_seq ?_ | with_reducible refine r_nx ?_ | with_reducible refine r_asgN ?_ | with_reducible refine r_asgS ?_ | with_reducible refine r_asgT ?_ | with_reducible refine r_ifS ?_
  | with_reducible refine r_ret ?_ | with_reducible refine r_retN ?_ | with_reducible refine r_drop ?_ | with_reducible refine r_test ?_ | with_reducible refine r_B ?_ | with_reducible refine r_not ?_
  | with_reducible refine r_and ?_ | with_reducible refine r_or ?_ | with_reducible refine r_andV ?_ | with_reducible refine r_orV ?_ | with_reducible refine r_notV ?_
  | ((with_reducible refine' r_var ?e ?_); (case e => exact rfl)) | with_reducible refine r_c ?_ | with_reducible refine r_op ?_ | with_reducible refine r_un ?_
  | with_reducible refine r_I0 ?_ | with_reducible refine r_eqI ?_ | with_reducible refine r_neI ?_ | with_reducible refine r_bl ?_ | with_reducible refine r_nil ?_ | with_reducible refine r_cons ?_
  | with_reducible refine r_cb ?_ | with_reducible refine r_call ?_ | with_reducible refine r_tup ?_ | with_reducible refine r_lst ?_ | with_reducible refine r_fld ?_ | with_reducible refine r_bm ?_ | with_reducible refine r_bm0 ?_
  | with_reducible refine r_for ?_ | with_reducible refine r_rng ?_ | with_reducible refine r_rng2 ?_ | with_reducible refine r_lstI ?_ | with_reducible refine r_tupI ?_ | with_reducible refine r_lc ?_
  | with_reducible refine r_augS ?_ | with_reducible refine r_ipI ?_
  | with_reducible refine r_meth ?_ | with_reducible refine r_prop ?_ | with_reducible refine r_make ?_ | with_reducible refine r_din ?_ | with_reducible refine r_dnin ?_ | with_reducible refine r_dput ?_ | with_reducible refine r_dget ?_
  | with_reducible refine r_gN ?_ | with_reducible refine r_tsl ?_ | with_reducible refine r_noP ?_ | with_reducible refine r_part ?_ | with_reducible refine r_pI ?_ | with_reducible refine r_tif ?_ | with_reducible refine r_SL ?_ | with_reducible refine r_gC ?_ | with_reducible refine r_U ?_ | with_reducible refine r_sfld ?_ | with_reducible refine r_dnew ?_ | with_reducible refine r_keys ?_
  | with_reducible refine r_mkE ?_ | with_reducible refine iteT ?_ | with_reducible refine iteF ?_
  | with_reducible refine r_int ?_ | with_reducible refine r_min2 ?_ | with_reducible refine r_isN ?_ | with_reducible refine r_notN ?_)
/-- as far as it goes by itself -/
local macro_rules | `(tactic| walk_at "go") => `(tactic| ((repeat walk_at "step"); (try dsimp only)))

abbrev sLaw : Stmt := top 34
def spLaw (K : PySem.W.Frag) : Sp := fun vs H Q _ => ∃ (a : Addr) (ns : List Int), vs = [.ref a] ∧ SqL K H a (ns.map V.int) ∧ ns.length ≤ 63 ∧ ∀ H', Q (.bl true) H'
section
variable {P : Program} {w : World} {K : PySem.W.Frag} {mg : Str → Option Value} {base : Heap} {CN CB CL : Addr}
theorem scLaw : FnScope ["_law_script", "_law_found", "_law_size"] ["_law_script"] (defScope sLaw) := ⟨rfl, rfl, rfl, by decide +kernel, rfl, by decide +kernel, by decide +kernel⟩
theorem ok_law {f : Addr} {fd : FuncData} (F : Fun K "law" "law" sLaw f fd)
    (D_drawn : Fok P w K mg base 1 "_law_drawn" ["_law_script"] (spDrawn K)) (D_take : Fok P w K mg base 1 "_law_take" ["_law_found", "_law_many"] spTake)
    (D_comes : Fok P w K mg base 8 "_law_comes" ["_law_found", "_law_size"] spComes) (D_alone : Fok P w K mg base 7 "_law_alone" ["_law_found", "_law_size"] spComes) (D_allrefused : Fok P w K mg base 6 "_law_all_refused" ["_law_found", "_law_size"] spComes) :
    FnOk P w K mg base (L2.CX P w) 10 f fd ["_law_script"] (spLaw K) := by
  refine F.okX scLaw (fun vs H Q E h => ?_) (fun cdv A outer s H vs Q E hr h => ?_)
  · obtain ⟨a, ns, rfl, _⟩ := h
    rfl
  obtain ⟨a, ns, rfl, hS, hl, k⟩ := h
  have sc := scLaw
  refine ⟨_, (pss_cons (ps_set (i := 1) sc.nd rfl (Or.inl rfl) (pe_f D_drawn (hr.mono (by decide)) (pa_cons (pv 0) pa_nil)))
      (pss_cons (ps_set (i := 2) sc.nd rfl (Or.inl rfl) (pe_op op_add pe_int (pe_f D_take (hr.mono (by decide)) (pa_cons (pv 1) (pa_cons pe_int pa_nil)))))
      (Evl.pss_cut (ps_if (PW.pt (pw_and (pt_cmpR op_eq (pv 2) pe_int (nomark _)) (pw_and1 (pt_cmpR op_eq (pe_f D_take (hr.mono (by decide)) (pa_cons (pv 1) (pa_cons pe_int pa_nil))) pe_int (nomark _))))) (pss_one (ps_set (i := 2) sc.nd rfl (Or.inl rfl) pe_int)) pss_nil)
      (pss_one (ps_ret (pe_and (pe_f D_comes (hr.mono (by decide)) (pa_cons (pv 1) (pa_cons (pv 2) pa_nil))) (pe_and (pe_f D_alone (hr.mono (by decide)) (pa_cons (pv 1) (pa_cons (pv 2) pa_nil))) (pe_one (pe_f D_allrefused (hr.mono (by decide)) (pa_cons (pv 1) (pa_cons (pv 2) pa_nil))))))))))), ?_⟩
  walk_at "go"
  refine ⟨a, ns, rfl, hS, hl, fun p fs H1 hp s1 h1 hf => ?_⟩
  walk_at "go"
  refine ⟨p, fs, 5, rfl, h1, by omega, by decide, fun r1 fs1 H2 a1 b1 l1 h2 s2 => ?_⟩
  walk_at "go"
  refine r_cut (Mid := fun σ H' => ∃ (z : Int) (fs' : List Int), σ = [some (.ref a), some (.ref p), some (.int z)] ∧ 1 ≤ z ∧ z ≤ 6 ∧ H' p = some (.lst (fs'.map V.int)) ∧ fs'.length ≤ 4000) ?_ ?_
  · walk_at "go"
    refine iteB (fun e => ?_) fun e => ?_
    · walk_at "go"
      refine ⟨p, fs1, 3, rfl, h2, by omega, by decide, fun r2 fs2 H3 a2 b2 l2 h3 s3 => ?_⟩
      walk_at "go"
      refine iteB (fun e => ?_) fun e => ?_
      · walk_at "go"
        exact ⟨_, fs2, rfl, by omega, by omega, h3, by omega⟩
      · walk_at "go"
        exact ⟨_, fs2, rfl, by omega, by omega, h3, by omega⟩
    · walk_at "go"
      exact ⟨_, fs1, rfl, by omega, by omega, h2, by omega⟩
  · rintro σ H3 ⟨z, fs3, rfl, z1, z6, h3, l3⟩
    obtain ⟨n, rfl⟩ : ∃ n : Nat, z = (n : Int) := ⟨z.toNat, by omega⟩
    walk_at "go"
    refine ⟨p, fs3, n, rfl, h3, by omega, by omega, by omega, fun fs4 H4 l4 h4 => ?_⟩
    walk_at "go"
    refine ⟨p, fs4, n, rfl, h4, by omega, by omega, by omega, fun fs5 H5 l5 h5 => ?_⟩
    walk_at "go"
    exact ⟨p, fs5, n, rfl, h5, by omega, by omega, by omega, fun fs6 H6 l6 h6 => k H6⟩
end
end K8
namespace K8
open PySem PySem.Spec PyProof.Rows L2 Er
abbrev mInitN : Stmt := inClass (top 3) 0
abbrev mInitB : Stmt := inClass (top 5) 0
abbrev mInitR : Stmt := inClass (top 4) 0
section
variable {prog : Program} {w : World} {A : Around} {E : Value → Shared → Prop} {env : Env} {m : Str → Option Value}
theorem txt_const {x : Str} {pos : Pos} {j} : TxtArg prog w A E env m (.Constant (.str x) j pos) := fun s Q _ h => Calls.Constant_str (h _ _ _)
theorem txt_word {a x y : Str} {t : Tok} {j} {p1 p2 p3 p4 : Pos} (hm : m x = some (.str y t)) (ha : a.length ≤ 1000) (hy : y.length ≤ 1000) (kk : env.scope.kind = .function) (kx : env.scope.names.lookup x = some .local) (hxd : (x == ("__debug__" : Str)) = false) :
    TxtArg prog w A E env m (.JoinedStr [.Constant (.str a) j p1, .FormattedValue (.Name x p2) (-1) none p3] p4) := fun s Q hns hq => by
  have h1000 : (2000 : Nat) ≤ sizeLine := by decide
  have l0 : (Str.empty ++ a).length ≤ 1000 := by rw [strLen_append]; show 0 + a.length ≤ 1000; omega
  have l1 : ((Str.empty ++ a) ++ y).length ≤ 2000 := by rw [strLen_append]; omega
  refine wpAny_JoinedStr ?_
  refine Calls.Constant_str ⟨a, _, rfl, by omega, ?_⟩
  refine wpAny_FormattedValue_plain (PySem.ESX.ldL (v := .str y t) hns hm ?_ kk kx hxd)
  exact wpAny_formatField_str ⟨y, _, rfl, by omega, by omega, hq _ _ _⟩ ⟨y, _, rfl, by omega, by omega, hq _ _ _⟩ (by omega)
end
theorem initRun_N {prog : Program} {w : World} {K : PySem.W.Frag} {mg : Str → Option Value} {C fI cc cda : Addr} {kV doc pm ct oc ccl cl : Value} {an od cdd cld : Option Addr} {osl ccs csl : Array (Option Value)} {vs : Array Value} {file : Str} {tf : Tok}
    (T : XC K C fI "name") (hms : mg "super" = none) (lf : K.lookup fI = some ⟨oc, od, .func (PySem.W.fnX "__init__" "BadName.__init__" (defArgs mInitN) (defBody mInitN) (defScope mInitN) [("__class__", cc)] .none kV doc pm an (.ref cda) ct), osl⟩)
    (hcd : PySem.W.codeIn K (.ref cda) "BadName.__init__" = true) (lcode : K.lookup cda = some ⟨ccl, cdd, .fields vs, ccs⟩) (hvs : vs[2]? = some (.str file tf)) (hfile : ((prog.main.file : Str) == file) = true) (lcell : K.lookup cc = some ⟨cl, cld, .cell (some (.ref C)), csl⟩)
    (htop : (prog.main.scope.names.lookup ("super" : Str)).isSome = false) : InitRun prog w K mg C fI "name" (fun _ => True) := fun A R h g d t os a t1 u hu X hlim hG hB hroom he hKa hq => by
  refine run_init (f := "name") (x := "name") T X hlim hG hms hB hroom lf rfl hcd lcode hvs hfile lcell htop rfl rfl (fun s => .of_eq rfl) rfl rfl rfl rfl rfl rfl rfl (by decide +kernel) (by decide) (by decide) (fun L E => txt_const) (fun L => rfl) (fun L => rfl) (fun L => ⟨_, rfl⟩) (fun L => rfl) he hKa hq
theorem initRun_B {prog : Program} {w : World} {K : PySem.W.Frag} {mg : Str → Option Value} {C fI cc cda : Addr} {kV doc pm ct oc ccl cl : Value} {an od cdd cld : Option Addr} {osl ccs csl : Array (Option Value)} {vs : Array Value} {file : Str} {tf : Tok}
    (T : XC K C fI "word") (hms : mg "super" = none) (lf : K.lookup fI = some ⟨oc, od, .func (PySem.W.fnX "__init__" "BadNumber.__init__" (defArgs mInitB) (defBody mInitB) (defScope mInitB) [("__class__", cc)] .none kV doc pm an (.ref cda) ct), osl⟩)
    (hcd : PySem.W.codeIn K (.ref cda) "BadNumber.__init__" = true) (lcode : K.lookup cda = some ⟨ccl, cdd, .fields vs, ccs⟩) (hvs : vs[2]? = some (.str file tf)) (hfile : ((prog.main.file : Str) == file) = true) (lcell : K.lookup cc = some ⟨cl, cld, .cell (some (.ref C)), csl⟩)
    (htop : (prog.main.scope.names.lookup ("super" : Str)).isSome = false) : InitRun prog w K mg C fI "word" (fun u => ∃ x t, u = .str x t ∧ x.length ≤ 1000) := fun A R h g d t os a t1 u hu X hlim hG hB hroom he hKa hq => by
  obtain ⟨y, ty, rfl, hy⟩ := hu
  refine run_init (f := "word") (x := "word") T X hlim hG hms hB hroom lf rfl hcd lcode hvs hfile lcell htop rfl rfl (fun s => .of_eq rfl) rfl rfl rfl rfl rfl rfl rfl (by decide +kernel) (by decide) (by decide) (fun L E => txt_word rfl (by decide) hy rfl rfl (by decide)) (fun L => rfl) (fun L => rfl) (fun L => ⟨_, rfl⟩) (fun L => rfl) he hKa hq
theorem initRun_R {prog : Program} {w : World} {K : PySem.W.Frag} {mg : Str → Option Value} {C fI cc cda : Addr} {kV doc pm ct oc ccl cl : Value} {an od cdd cld : Option Addr} {osl ccs csl : Array (Option Value)} {vs : Array Value} {file : Str} {tf : Tok}
    (T : XC K C fI "place") (hms : mg "super" = none) (lf : K.lookup fI = some ⟨oc, od, .func (PySem.W.fnX "__init__" "BadRound.__init__" (defArgs mInitR) (defBody mInitR) (defScope mInitR) [("__class__", cc)] .none kV doc pm an (.ref cda) ct), osl⟩)
    (hcd : PySem.W.codeIn K (.ref cda) "BadRound.__init__" = true) (lcode : K.lookup cda = some ⟨ccl, cdd, .fields vs, ccs⟩) (hvs : vs[2]? = some (.str file tf)) (hfile : ((prog.main.file : Str) == file) = true) (lcell : K.lookup cc = some ⟨cl, cld, .cell (some (.ref C)), csl⟩)
    (htop : (prog.main.scope.names.lookup ("super" : Str)).isSome = false) : InitRun prog w K mg C fI "place" (fun _ => True) := fun A R h g d t os a t1 u hu X hlim hG hB hroom he hKa hq => by
  refine run_init (f := "place") (x := "place") T X hlim hG hms hB hroom lf rfl hcd lcode hvs hfile lcell htop rfl rfl (fun s => .of_eq rfl) rfl rfl rfl rfl rfl rfl rfl (by decide +kernel) (by decide) (by decide) (fun L E => txt_const) (fun L => rfl) (fun L => rfl) (fun L => ⟨_, rfl⟩) (fun L => rfl) he hKa hq
end K8
namespace K8
open PySem PySem.Spec PyProof.Rows L2 Er
theorem all_mk {P : Program} {w : World} {K : PySem.W.Frag} {h : Heap} {mg : Str → Option Value} {fa : Addr} (X : K.In h) (G : h.Ns mainGlobals mg) (hfa : mg "law" = some (.ref fa))
    {f_isint : Addr} {od_isint an_isint : Option Addr} {sl_isint : Array (Option Value)} {oc_isint kV_isint dc_isint pm_isint cd_isint ct_isint : Value}
    {f_isnat : Addr} {od_isnat an_isnat : Option Addr} {sl_isnat : Array (Option Value)} {oc_isnat kV_isnat dc_isnat pm_isnat cd_isnat ct_isnat : Value}
    {f_isrow : Addr} {od_isrow an_isrow : Option Addr} {sl_isrow : Array (Option Value)} {oc_isrow kV_isrow dc_isrow pm_isrow cd_isrow ct_isrow : Value}
    {f_chblocks : Addr} {od_chblocks an_chblocks : Option Addr} {sl_chblocks : Array (Option Value)} {oc_chblocks kV_chblocks dc_chblocks pm_chblocks cd_chblocks ct_chblocks : Value}
    {f_csize : Addr} {od_csize an_csize : Option Addr} {sl_csize : Array (Option Value)} {oc_csize kV_csize dc_csize pm_csize cd_csize ct_csize : Value}
    {f_sched : Addr} {od_sched an_sched : Option Addr} {sl_sched : Array (Option Value)} {oc_sched kV_sched dc_sched pm_sched cd_sched ct_sched : Value}
    {f_run : Addr} {od_run an_run : Option Addr} {sl_run : Array (Option Value)} {oc_run kV_run dc_run pm_run cd_run ct_run : Value}
    {f_blocks : Addr} {od_blocks an_blocks : Option Addr} {sl_blocks : Array (Option Value)} {oc_blocks kV_blocks dc_blocks pm_blocks cd_blocks ct_blocks : Value}
    {f_of : Addr} {od_of an_of : Option Addr} {sl_of : Array (Option Value)} {oc_of kV_of dc_of pm_of cd_of ct_of : Value}
    {f_for : Addr} {od_for an_for : Option Addr} {sl_for : Array (Option Value)} {oc_for kV_for dc_for pm_for cd_for ct_for : Value}
    {f_drawn : Addr} {od_drawn an_drawn : Option Addr} {sl_drawn : Array (Option Value)} {oc_drawn kV_drawn dc_drawn pm_drawn cd_drawn ct_drawn : Value}
    {f_take : Addr} {od_take an_take : Option Addr} {sl_take : Array (Option Value)} {oc_take kV_take dc_take pm_take cd_take ct_take : Value}
    {f_int : Addr} {od_int an_int : Option Addr} {sl_int : Array (Option Value)} {oc_int kV_int dc_int pm_int cd_int ct_int : Value}
    {f_lblocks : Addr} {od_lblocks an_lblocks : Option Addr} {sl_lblocks : Array (Option Value)} {oc_lblocks kV_lblocks dc_lblocks pm_lblocks cd_lblocks ct_lblocks : Value}
    {f_refused : Addr} {od_refused an_refused : Option Addr} {sl_refused : Array (Option Value)} {oc_refused kV_refused dc_refused pm_refused cd_refused ct_refused : Value}
    {f_some : Addr} {od_some an_some : Option Addr} {sl_some : Array (Option Value)} {oc_some kV_some dc_some pm_some cd_some ct_some : Value}
    {f_due : Addr} {od_due an_due : Option Addr} {sl_due : Array (Option Value)} {oc_due kV_due dc_due pm_due cd_due ct_due : Value}
    {f_own : Addr} {od_own an_own : Option Addr} {sl_own : Array (Option Value)} {oc_own kV_own dc_own pm_own cd_own ct_own : Value}
    {f_woven : Addr} {od_woven an_woven : Option Addr} {sl_woven : Array (Option Value)} {oc_woven kV_woven dc_woven pm_woven cd_woven ct_woven : Value}
    {f_comes : Addr} {od_comes an_comes : Option Addr} {sl_comes : Array (Option Value)} {oc_comes kV_comes dc_comes pm_comes cd_comes ct_comes : Value}
    {f_alone : Addr} {od_alone an_alone : Option Addr} {sl_alone : Array (Option Value)} {oc_alone kV_alone dc_alone pm_alone cd_alone ct_alone : Value}
    {f_allref : Addr} {od_allref an_allref : Option Addr} {sl_allref : Array (Option Value)} {oc_allref kV_allref dc_allref pm_allref cd_allref ct_allref : Value}
    {f_law : Addr} {od_law an_law : Option Addr} {sl_law : Array (Option Value)} {oc_law kV_law dc_law pm_law cd_law ct_law : Value}
    {f_init : Addr} {od_init an_init : Option Addr} {sl_init : Array (Option Value)} {oc_init kV_init dc_init pm_init cd_init ct_init : Value}
    {f_mstep : Addr} {od_mstep an_mstep : Option Addr} {sl_mstep : Array (Option Value)} {oc_mstep kV_mstep dc_mstep pm_mstep cd_mstep ct_mstep : Value}
    {f_mcheck : Addr} {od_mcheck an_mcheck : Option Addr} {sl_mcheck : Array (Option Value)} {oc_mcheck kV_mcheck dc_mcheck pm_mcheck cd_mcheck ct_mcheck : Value}
    {f_mread : Addr} {od_mread an_mread : Option Addr} {sl_mread : Array (Option Value)} {oc_mread kV_mread dc_mread pm_mread cd_mread ct_mread : Value}
    {f_pwrote : Addr} {od_pwrote an_pwrote : Option Addr} {sl_pwrote : Array (Option Value)} {oc_pwrote kV_pwrote dc_pwrote pm_pwrote cd_pwrote ct_pwrote : Value}
    {tmost : Tok} {CL CN CB CT CR p_pwrote : Addr} {rs_pwrote : List Value}
    {fIN ccN cdaN : Addr} {kVN dcN pmN ctN ocN cclN clN : Value} {anN odN cddN cldN : Option Addr} {oslN ccsN cslN : Array (Option Value)} {vsN : Array Value} {fileN : Str} {tfN : Tok}
    {fIB ccB cdaB : Addr} {kVB dcB pmB ctB ocB cclB clB : Value} {anB odB cddB cldB : Option Addr} {oslB ccsB cslB : Array (Option Value)} {vsB : Array Value} {fileB : Str} {tfB : Tok}
    {fIR ccR cdaR : Addr} {kVR dcR pmR ctR ocR cclR clR : Value} {anR odR cddR cldR : Option Addr} {oslR ccsR cslR : Array (Option Value)} {vsR : Array Value} {fileR : Str} {tfR : Tok}
    (z_len : PySem.W.nsIn K mainGlobals "len" = some none)
    (z_int : PySem.W.nsIn K mainGlobals "int" = some none)
    (z_list : PySem.W.nsIn K mainGlobals "list" = some none)
    (z_tuple : PySem.W.nsIn K mainGlobals "tuple" = some none)
    (z_min : PySem.W.nsIn K mainGlobals "min" = some none)
    (z_range : PySem.W.nsIn K mainGlobals "range" = some none)
    (z_sorted : PySem.W.nsIn K mainGlobals "sorted" = some none)
    (z_all : PySem.W.nsIn K mainGlobals "all" = some none)
    (z_isinstance : PySem.W.nsIn K mainGlobals "isinstance" = some none)
    (z_bool : PySem.W.nsIn K mainGlobals "bool" = some none)
    (z_super : PySem.W.nsIn K mainGlobals "super" = some none)
    (z_enumerate : PySem.W.nsIn K mainGlobals "enumerate" = some none)
    (z_MOST : PySem.W.nsIn K mainGlobals "MOST_SIZE" = some (some (.int 6 tmost)))
    (gL : PySem.W.nsIn K mainGlobals "Levels" = some (some (.ref CL)))
    (gN : PySem.W.nsIn K mainGlobals "BadName" = some (some (.ref CN)))
    (gB : PySem.W.nsIn K mainGlobals "BadNumber" = some (some (.ref CB)))
    (gR : PySem.W.nsIn K mainGlobals "BadRound" = some (some (.ref CR)))
    (gT : PySem.W.nsIn K mainGlobals "TaskError" = some (some (.ref CT)))
    (a_isint : PySem.W.nsIn K mainGlobals "is_integer" = some (some (.ref f_isint)))
    (l_isint : K.lookup f_isint = some ⟨oc_isint, od_isint, .func (PySem.W.fnOf "is_integer" "is_integer" (defArgs sIsInteger) (defBody sIsInteger) (defScope sIsInteger) .none kV_isint dc_isint pm_isint an_isint cd_isint ct_isint), sl_isint⟩)
    (c_isint : PySem.W.codeIn K cd_isint "is_integer" = true)
    (k_isint : PySem.W.keepIn K (.ref f_isint) = true)
    (a_isnat : PySem.W.nsIn K mainGlobals "is_natural" = some (some (.ref f_isnat)))
    (l_isnat : K.lookup f_isnat = some ⟨oc_isnat, od_isnat, .func (PySem.W.fnOf "is_natural" "is_natural" (defArgs sIsNatural) (defBody sIsNatural) (defScope sIsNatural) .none kV_isnat dc_isnat pm_isnat an_isnat cd_isnat ct_isnat), sl_isnat⟩)
    (c_isnat : PySem.W.codeIn K cd_isnat "is_natural" = true)
    (k_isnat : PySem.W.keepIn K (.ref f_isnat) = true)
    (a_isrow : PySem.W.nsIn K mainGlobals "is_row" = some (some (.ref f_isrow)))
    (l_isrow : K.lookup f_isrow = some ⟨oc_isrow, od_isrow, .func (PySem.W.fnOf "is_row" "is_row" (defArgs sIsRow) (defBody sIsRow) (defScope sIsRow) .none kV_isrow dc_isrow pm_isrow an_isrow cd_isrow ct_isrow), sl_isrow⟩)
    (c_isrow : PySem.W.codeIn K cd_isrow "is_row" = true)
    (k_isrow : PySem.W.keepIn K (.ref f_isrow) = true)
    (a_chblocks : PySem.W.nsIn K mainGlobals "check_blocks" = some (some (.ref f_chblocks)))
    (l_chblocks : K.lookup f_chblocks = some ⟨oc_chblocks, od_chblocks, .func (PySem.W.fnOf "check_blocks" "check_blocks" (defArgs sCheckBlocks) (defBody sCheckBlocks) (defScope sCheckBlocks) .none kV_chblocks dc_chblocks pm_chblocks an_chblocks cd_chblocks ct_chblocks), sl_chblocks⟩)
    (c_chblocks : PySem.W.codeIn K cd_chblocks "check_blocks" = true)
    (k_chblocks : PySem.W.keepIn K (.ref f_chblocks) = true)
    (a_csize : PySem.W.nsIn K mainGlobals "check_level_size" = some (some (.ref f_csize)))
    (l_csize : K.lookup f_csize = some ⟨oc_csize, od_csize, .func (PySem.W.fnOf "check_level_size" "check_level_size" (defArgs sCheckSize) (defBody sCheckSize) (defScope sCheckSize) .none kV_csize dc_csize pm_csize an_csize cd_csize ct_csize), sl_csize⟩)
    (c_csize : PySem.W.codeIn K cd_csize "check_level_size" = true)
    (k_csize : PySem.W.keepIn K (.ref f_csize) = true)
    (a_sched : PySem.W.nsIn K mainGlobals "check_schedule" = some (some (.ref f_sched)))
    (l_sched : K.lookup f_sched = some ⟨oc_sched, od_sched, .func (PySem.W.fnOf "check_schedule" "check_schedule" (defArgs sCheckSchedule) (defBody sCheckSchedule) (defScope sCheckSchedule) .none kV_sched dc_sched pm_sched an_sched cd_sched ct_sched), sl_sched⟩)
    (c_sched : PySem.W.codeIn K cd_sched "check_schedule" = true)
    (k_sched : PySem.W.keepIn K (.ref f_sched) = true)
    (a_run : PySem.W.nsIn K mainGlobals "levels_run" = some (some (.ref f_run)))
    (l_run : K.lookup f_run = some ⟨oc_run, od_run, .func (PySem.W.fnOf "levels_run" "levels_run" (defArgs sLevelsRun) (defBody sLevelsRun) (defScope sLevelsRun) .none kV_run dc_run pm_run an_run cd_run ct_run), sl_run⟩)
    (c_run : PySem.W.codeIn K cd_run "levels_run" = true)
    (k_run : PySem.W.keepIn K (.ref f_run) = true)
    (a_blocks : PySem.W.nsIn K mainGlobals "levels_blocks" = some (some (.ref f_blocks)))
    (l_blocks : K.lookup f_blocks = some ⟨oc_blocks, od_blocks, .func (PySem.W.fnOf "levels_blocks" "levels_blocks" (defArgs sLevelsBlocks) (defBody sLevelsBlocks) (defScope sLevelsBlocks) .none kV_blocks dc_blocks pm_blocks an_blocks cd_blocks ct_blocks), sl_blocks⟩)
    (c_blocks : PySem.W.codeIn K cd_blocks "levels_blocks" = true)
    (k_blocks : PySem.W.keepIn K (.ref f_blocks) = true)
    (a_of : PySem.W.nsIn K mainGlobals "schedule_of" = some (some (.ref f_of)))
    (l_of : K.lookup f_of = some ⟨oc_of, od_of, .func (PySem.W.fnOf "schedule_of" "schedule_of" (defArgs sScheduleOf) (defBody sScheduleOf) (defScope sScheduleOf) .none kV_of dc_of pm_of an_of cd_of ct_of), sl_of⟩)
    (c_of : PySem.W.codeIn K cd_of "schedule_of" = true)
    (k_of : PySem.W.keepIn K (.ref f_of) = true)
    (a_for : PySem.W.nsIn K mainGlobals "steps_for" = some (some (.ref f_for)))
    (l_for : K.lookup f_for = some ⟨oc_for, od_for, .func (PySem.W.fnOf "steps_for" "steps_for" (defArgs sStepsFor) (defBody sStepsFor) (defScope sStepsFor) .none kV_for dc_for pm_for an_for cd_for ct_for), sl_for⟩)
    (c_for : PySem.W.codeIn K cd_for "steps_for" = true)
    (k_for : PySem.W.keepIn K (.ref f_for) = true)
    (a_drawn : PySem.W.nsIn K mainGlobals "_law_drawn" = some (some (.ref f_drawn)))
    (l_drawn : K.lookup f_drawn = some ⟨oc_drawn, od_drawn, .func (PySem.W.fnOf "_law_drawn" "_law_drawn" (defArgs sDrawn) (defBody sDrawn) (defScope sDrawn) .none kV_drawn dc_drawn pm_drawn an_drawn cd_drawn ct_drawn), sl_drawn⟩)
    (c_drawn : PySem.W.codeIn K cd_drawn "_law_drawn" = true)
    (k_drawn : PySem.W.keepIn K (.ref f_drawn) = true)
    (a_take : PySem.W.nsIn K mainGlobals "_law_take" = some (some (.ref f_take)))
    (l_take : K.lookup f_take = some ⟨oc_take, od_take, .func (PySem.W.fnOf "_law_take" "_law_take" (defArgs sTake) (defBody sTake) (defScope sTake) .none kV_take dc_take pm_take an_take cd_take ct_take), sl_take⟩)
    (c_take : PySem.W.codeIn K cd_take "_law_take" = true)
    (k_take : PySem.W.keepIn K (.ref f_take) = true)
    (a_int : PySem.W.nsIn K mainGlobals "_law_int" = some (some (.ref f_int)))
    (l_int : K.lookup f_int = some ⟨oc_int, od_int, .func (PySem.W.fnOf "_law_int" "_law_int" (defArgs sInt) (defBody sInt) (defScope sInt) .none kV_int dc_int pm_int an_int cd_int ct_int), sl_int⟩)
    (c_int : PySem.W.codeIn K cd_int "_law_int" = true)
    (k_int : PySem.W.keepIn K (.ref f_int) = true)
    (a_lblocks : PySem.W.nsIn K mainGlobals "_law_blocks" = some (some (.ref f_lblocks)))
    (l_lblocks : K.lookup f_lblocks = some ⟨oc_lblocks, od_lblocks, .func (PySem.W.fnOf "_law_blocks" "_law_blocks" (defArgs sLBlocks) (defBody sLBlocks) (defScope sLBlocks) .none kV_lblocks dc_lblocks pm_lblocks an_lblocks cd_lblocks ct_lblocks), sl_lblocks⟩)
    (c_lblocks : PySem.W.codeIn K cd_lblocks "_law_blocks" = true)
    (k_lblocks : PySem.W.keepIn K (.ref f_lblocks) = true)
    (a_refused : PySem.W.nsIn K mainGlobals "_law_refused" = some (some (.ref f_refused)))
    (l_refused : K.lookup f_refused = some ⟨oc_refused, od_refused, .func (PySem.W.fnOf "_law_refused" "_law_refused" (defArgs sRefused) (defBody sRefused) (defScope sRefused) .none kV_refused dc_refused pm_refused an_refused cd_refused ct_refused), sl_refused⟩)
    (c_refused : PySem.W.codeIn K cd_refused "_law_refused" = true)
    (k_refused : PySem.W.keepIn K (.ref f_refused) = true)
    (a_some : PySem.W.nsIn K mainGlobals "_law_some" = some (some (.ref f_some)))
    (l_some : K.lookup f_some = some ⟨oc_some, od_some, .func (PySem.W.fnOf "_law_some" "_law_some" (defArgs sSome) (defBody sSome) (defScope sSome) .none kV_some dc_some pm_some an_some cd_some ct_some), sl_some⟩)
    (c_some : PySem.W.codeIn K cd_some "_law_some" = true)
    (k_some : PySem.W.keepIn K (.ref f_some) = true)
    (a_due : PySem.W.nsIn K mainGlobals "_law_due" = some (some (.ref f_due)))
    (l_due : K.lookup f_due = some ⟨oc_due, od_due, .func (PySem.W.fnOf "_law_due" "_law_due" (defArgs sLDue) (defBody sLDue) (defScope sLDue) .none kV_due dc_due pm_due an_due cd_due ct_due), sl_due⟩)
    (c_due : PySem.W.codeIn K cd_due "_law_due" = true)
    (k_due : PySem.W.keepIn K (.ref f_due) = true)
    (a_own : PySem.W.nsIn K mainGlobals "_law_own_run" = some (some (.ref f_own)))
    (l_own : K.lookup f_own = some ⟨oc_own, od_own, .func (PySem.W.fnOf "_law_own_run" "_law_own_run" (defArgs sOwn) (defBody sOwn) (defScope sOwn) .none kV_own dc_own pm_own an_own cd_own ct_own), sl_own⟩)
    (c_own : PySem.W.codeIn K cd_own "_law_own_run" = true)
    (k_own : PySem.W.keepIn K (.ref f_own) = true)
    (a_woven : PySem.W.nsIn K mainGlobals "_law_woven" = some (some (.ref f_woven)))
    (l_woven : K.lookup f_woven = some ⟨oc_woven, od_woven, .func (PySem.W.fnOf "_law_woven" "_law_woven" (defArgs sWoven) (defBody sWoven) (defScope sWoven) .none kV_woven dc_woven pm_woven an_woven cd_woven ct_woven), sl_woven⟩)
    (c_woven : PySem.W.codeIn K cd_woven "_law_woven" = true)
    (k_woven : PySem.W.keepIn K (.ref f_woven) = true)
    (a_comes : PySem.W.nsIn K mainGlobals "_law_comes" = some (some (.ref f_comes)))
    (l_comes : K.lookup f_comes = some ⟨oc_comes, od_comes, .func (PySem.W.fnOf "_law_comes" "_law_comes" (defArgs sComes) (defBody sComes) (defScope sComes) .none kV_comes dc_comes pm_comes an_comes cd_comes ct_comes), sl_comes⟩)
    (c_comes : PySem.W.codeIn K cd_comes "_law_comes" = true)
    (k_comes : PySem.W.keepIn K (.ref f_comes) = true)
    (a_alone : PySem.W.nsIn K mainGlobals "_law_alone" = some (some (.ref f_alone)))
    (l_alone : K.lookup f_alone = some ⟨oc_alone, od_alone, .func (PySem.W.fnOf "_law_alone" "_law_alone" (defArgs sAlone) (defBody sAlone) (defScope sAlone) .none kV_alone dc_alone pm_alone an_alone cd_alone ct_alone), sl_alone⟩)
    (c_alone : PySem.W.codeIn K cd_alone "_law_alone" = true)
    (k_alone : PySem.W.keepIn K (.ref f_alone) = true)
    (a_allref : PySem.W.nsIn K mainGlobals "_law_all_refused" = some (some (.ref f_allref)))
    (l_allref : K.lookup f_allref = some ⟨oc_allref, od_allref, .func (PySem.W.fnOf "_law_all_refused" "_law_all_refused" (defArgs sAllRef) (defBody sAllRef) (defScope sAllRef) .none kV_allref dc_allref pm_allref an_allref cd_allref ct_allref), sl_allref⟩)
    (c_allref : PySem.W.codeIn K cd_allref "_law_all_refused" = true)
    (k_allref : PySem.W.keepIn K (.ref f_allref) = true)
    (a_law : PySem.W.nsIn K mainGlobals "law" = some (some (.ref f_law)))
    (l_law : K.lookup f_law = some ⟨oc_law, od_law, .func (PySem.W.fnOf "law" "law" (defArgs sLaw) (defBody sLaw) (defScope sLaw) .none kV_law dc_law pm_law an_law cd_law ct_law), sl_law⟩)
    (c_law : PySem.W.codeIn K cd_law "law" = true)
    (k_law : PySem.W.keepIn K (.ref f_law) = true)
    (a_init : PySem.W.findIn K (.ref CL) "__init__" = some (some (.ref f_init)))
    (i_init : PySem.W.isFn K (.ref f_init) = true)
    (l_init : K.lookup f_init = some ⟨oc_init, od_init, .func (PySem.W.fnOf "__init__" "Levels.__init__" (defArgs mInit) (defBody mInit) (defScope mInit) .none kV_init dc_init pm_init an_init cd_init ct_init), sl_init⟩)
    (c_init : PySem.W.codeIn K cd_init "Levels.__init__" = true)
    (k_init : PySem.W.keepIn K (.ref f_init) = true)
    (a_mstep : PySem.W.findIn K (.ref CL) "step" = some (some (.ref f_mstep)))
    (i_mstep : PySem.W.isFn K (.ref f_mstep) = true)
    (l_mstep : K.lookup f_mstep = some ⟨oc_mstep, od_mstep, .func (PySem.W.fnOf "step" "Levels.step" (defArgs mStep) (defBody mStep) (defScope mStep) .none kV_mstep dc_mstep pm_mstep an_mstep cd_mstep ct_mstep), sl_mstep⟩)
    (c_mstep : PySem.W.codeIn K cd_mstep "Levels.step" = true)
    (k_mstep : PySem.W.keepIn K (.ref f_mstep) = true)
    (a_mcheck : PySem.W.findIn K (.ref CL) "_check" = some (some (.ref f_mcheck)))
    (i_mcheck : PySem.W.isFn K (.ref f_mcheck) = true)
    (l_mcheck : K.lookup f_mcheck = some ⟨oc_mcheck, od_mcheck, .func (PySem.W.fnOf "_check" "Levels._check" (defArgs mCheck) (defBody mCheck) (defScope mCheck) .none kV_mcheck dc_mcheck pm_mcheck an_mcheck cd_mcheck ct_mcheck), sl_mcheck⟩)
    (c_mcheck : PySem.W.codeIn K cd_mcheck "Levels._check" = true)
    (k_mcheck : PySem.W.keepIn K (.ref f_mcheck) = true)
    (a_mread : PySem.W.findIn K (.ref CL) "_read_cell" = some (some (.ref f_mread)))
    (i_mread : PySem.W.isFn K (.ref f_mread) = true)
    (l_mread : K.lookup f_mread = some ⟨oc_mread, od_mread, .func (PySem.W.fnOf "_read_cell" "Levels._read_cell" (defArgs mReadCell) (defBody mReadCell) (defScope mReadCell) .none kV_mread dc_mread pm_mread an_mread cd_mread ct_mread), sl_mread⟩)
    (c_mread : PySem.W.codeIn K cd_mread "Levels._read_cell" = true)
    (k_mread : PySem.W.keepIn K (.ref f_mread) = true)
    (a_pwrote : PySem.W.findIn K (.ref CL) "wrote" = some (some (.ref p_pwrote)))
    (g_pwrote : PySem.W.specialIn K (.ref p_pwrote) "__get__" = some (some (.builtin "property.__get__")))
    (t_pwrote : PySem.W.takesIn K (.ref p_pwrote) = some true)
    (r_pwrote : PySem.W.recIn K p_pwrote "property" = some (.ref f_pwrote :: rs_pwrote))
    (l_pwrote : K.lookup f_pwrote = some ⟨oc_pwrote, od_pwrote, .func (PySem.W.fnOf "wrote" "Levels.wrote" (defArgs mWrote) (defBody mWrote) (defScope mWrote) .none kV_pwrote dc_pwrote pm_pwrote an_pwrote cd_pwrote ct_pwrote), sl_pwrote⟩)
    (c_pwrote : PySem.W.codeIn K cd_pwrote "Levels.wrote" = true)
    (k_pwrote : PySem.W.keepIn K (.ref f_pwrote) = true)
    (pg : PySem.W.plainGet K CL Str.empty = true)
    (hd : PySem.W.hasDictIn K CL = true)
    (po : PySem.W.plainOver K CL = true)
    (sa : PySem.W.findIn K (.ref CL) "__setattr__" = some (some (.builtin "object.__setattr__")))
    (mk : PySem.W.makesIn K CL = true)
    (kc : PySem.W.keepIn K (.ref CL) = true)
    (nz : PySem.W.findIn K (.ref CL) "_size" = some none)
    (nw : PySem.W.findIn K (.ref CL) "_written" = some none)
    (ns : PySem.W.findIn K (.ref CL) "_steps" = some none)
    (nr : PySem.W.findIn K (.ref CL) "_read" = some none)
    (nk : PySem.W.findIn K (.ref CL) "_looks" = some none)
    (opq : PySem.W.nsIn K cStatics "thirdparty.any" = some none)
    (iniN : PySem.W.excInitIn K CN exBm "Exception.__new__" = true)
    (ovN : PySem.W.excOver K CN exBm = true)
    (hdN : PySem.W.hasDictIn K CN = true)
    (tkN : PySem.W.takerIn K CN "name" = some none)
    (saN : PySem.W.findIn K (.ref CN) "__setattr__" = some (some (.builtin "object.__setattr__")))
    (exCN : PySem.W.subIn K (.ref CN) (.type "BaseException") = some true)
    (exEN : PySem.W.subIn K (.ref CN) (.type "Exception") = some true)
    (tyCN : PySem.W.typeIn K (.ref CN) = some (.type "type"))
    (kCN : PySem.W.keepIn K (.ref CN) = true)
    (slfN : PySem.W.mroIn K CN (.ref CN) = some true)
    (iCN : PySem.W.findIn K (.ref CN) "__init__" = some (some (.ref fIN)))
    (tIN : PySem.W.typeIn K (.ref fIN) = some (.type "function"))
    (supN : PySem.W.ks_superIn K CN CN "__init__" = some (some (.builtin "Exception.__init__")))
    (lfN : K.lookup fIN = some ⟨ocN, odN, .func (PySem.W.fnX "__init__" "BadName.__init__" (defArgs mInitN) (defBody mInitN) (defScope mInitN) [("__class__", ccN)] .none kVN dcN pmN anN (.ref cdaN) ctN), oslN⟩)
    (hcdN : PySem.W.codeIn K (.ref cdaN) "BadName.__init__" = true)
    (lcoN : K.lookup cdaN = some ⟨cclN, cddN, .fields vsN, ccsN⟩)
    (hvsN : vsN[2]? = some (.str fileN tfN))
    (hfiN : ((P.main.file : Str) == fileN) = true)
    (lceN : K.lookup ccN = some ⟨clN, cldN, .cell (some (.ref CN)), cslN⟩)
    (gaN : PySem.W.findIn K (.ref CN) "__getattribute__" = some (some (.builtin "BaseException.__getattribute__")))
    (ggN : PySem.W.findIn K (.ref CN) "__getattr__" = some none)
    (nfN : PySem.W.findIn K (.ref CN) "name" = some none)
    (iniB : PySem.W.excInitIn K CB exBm "Exception.__new__" = true)
    (ovB : PySem.W.excOver K CB exBm = true)
    (hdB : PySem.W.hasDictIn K CB = true)
    (tkB : PySem.W.takerIn K CB "word" = some none)
    (saB : PySem.W.findIn K (.ref CB) "__setattr__" = some (some (.builtin "object.__setattr__")))
    (exCB : PySem.W.subIn K (.ref CB) (.type "BaseException") = some true)
    (exEB : PySem.W.subIn K (.ref CB) (.type "Exception") = some true)
    (tyCB : PySem.W.typeIn K (.ref CB) = some (.type "type"))
    (kCB : PySem.W.keepIn K (.ref CB) = true)
    (slfB : PySem.W.mroIn K CB (.ref CB) = some true)
    (iCB : PySem.W.findIn K (.ref CB) "__init__" = some (some (.ref fIB)))
    (tIB : PySem.W.typeIn K (.ref fIB) = some (.type "function"))
    (supB : PySem.W.ks_superIn K CB CB "__init__" = some (some (.builtin "Exception.__init__")))
    (lfB : K.lookup fIB = some ⟨ocB, odB, .func (PySem.W.fnX "__init__" "BadNumber.__init__" (defArgs mInitB) (defBody mInitB) (defScope mInitB) [("__class__", ccB)] .none kVB dcB pmB anB (.ref cdaB) ctB), oslB⟩)
    (hcdB : PySem.W.codeIn K (.ref cdaB) "BadNumber.__init__" = true)
    (lcoB : K.lookup cdaB = some ⟨cclB, cddB, .fields vsB, ccsB⟩)
    (hvsB : vsB[2]? = some (.str fileB tfB))
    (hfiB : ((P.main.file : Str) == fileB) = true)
    (lceB : K.lookup ccB = some ⟨clB, cldB, .cell (some (.ref CB)), cslB⟩)
    (gaB : PySem.W.findIn K (.ref CB) "__getattribute__" = some (some (.builtin "BaseException.__getattribute__")))
    (ggB : PySem.W.findIn K (.ref CB) "__getattr__" = some none)
    (nfB : PySem.W.findIn K (.ref CB) "word" = some none)
    (iniR : PySem.W.excInitIn K CR exBm "Exception.__new__" = true)
    (ovR : PySem.W.excOver K CR exBm = true)
    (hdR : PySem.W.hasDictIn K CR = true)
    (tkR : PySem.W.takerIn K CR "place" = some none)
    (saR : PySem.W.findIn K (.ref CR) "__setattr__" = some (some (.builtin "object.__setattr__")))
    (exCR : PySem.W.subIn K (.ref CR) (.type "BaseException") = some true)
    (exER : PySem.W.subIn K (.ref CR) (.type "Exception") = some true)
    (tyCR : PySem.W.typeIn K (.ref CR) = some (.type "type"))
    (kCR : PySem.W.keepIn K (.ref CR) = true)
    (slfR : PySem.W.mroIn K CR (.ref CR) = some true)
    (iCR : PySem.W.findIn K (.ref CR) "__init__" = some (some (.ref fIR)))
    (tIR : PySem.W.typeIn K (.ref fIR) = some (.type "function"))
    (supR : PySem.W.ks_superIn K CR CR "__init__" = some (some (.builtin "Exception.__init__")))
    (lfR : K.lookup fIR = some ⟨ocR, odR, .func (PySem.W.fnX "__init__" "BadRound.__init__" (defArgs mInitR) (defBody mInitR) (defScope mInitR) [("__class__", ccR)] .none kVR dcR pmR anR (.ref cdaR) ctR), oslR⟩)
    (hcdR : PySem.W.codeIn K (.ref cdaR) "BadRound.__init__" = true)
    (lcoR : K.lookup cdaR = some ⟨cclR, cddR, .fields vsR, ccsR⟩)
    (hvsR : vsR[2]? = some (.str fileR tfR))
    (hfiR : ((P.main.file : Str) == fileR) = true)
    (lceR : K.lookup ccR = some ⟨clR, cldR, .cell (some (.ref CR)), cslR⟩)
    (gaR : PySem.W.findIn K (.ref CR) "__getattribute__" = some (some (.builtin "BaseException.__getattribute__")))
    (ggR : PySem.W.findIn K (.ref CR) "__getattr__" = some none)
    (nfR : PySem.W.findIn K (.ref CR) "place" = some none)
    (htop : (P.main.scope.names.lookup ("super" : Str)).isSome = false)
    (nn : PySem.W.exmOne K (.ref CN) (.ref CN) = some true)
    (bn : PySem.W.exmOne K (.ref CB) (.ref CN) = some false)
    (bb : PySem.W.exmOne K (.ref CB) (.ref CB) = some true)
    (rn : PySem.W.exmOne K (.ref CR) (.ref CN) = some false)
    (rb : PySem.W.exmOne K (.ref CR) (.ref CB) = some false)
    (rr : PySem.W.exmOne K (.ref CR) (.ref CR) = some true) :
    ∃ fd : FuncData, (∀ (s : Shared) (v : Value), BindsTo s fd ⟨[v], []⟩ [("_law_script", v)]) ∧ ∀ base : Heap, K.In base → base.Ns mainGlobals mg → FnOk P w K mg base (L2.CX P w) 10 fa fd ["_law_script"] (spLaw K) := by
  have e := hfa.symm.trans (PySem.W.mg_of X G a_law)
  cases e
  have m_len := PySem.W.mg_none_of X G z_len
  have m_int := PySem.W.mg_none_of X G z_int
  have m_list := PySem.W.mg_none_of X G z_list
  have m_tuple := PySem.W.mg_none_of X G z_tuple
  have m_min := PySem.W.mg_none_of X G z_min
  have m_range := PySem.W.mg_none_of X G z_range
  have m_sorted := PySem.W.mg_none_of X G z_sorted
  have m_all := PySem.W.mg_none_of X G z_all
  have m_isinstance := PySem.W.mg_none_of X G z_isinstance
  have m_bool := PySem.W.mg_none_of X G z_bool
  have m_super := PySem.W.mg_none_of X G z_super
  have m_enumerate := PySem.W.mg_none_of X G z_enumerate
  have m_MOST := PySem.W.mg_of X G z_MOST
  have F_isint := fun_mk (st := sIsInteger) l_isint c_isint k_isint
  have b_isint := F_isint.binds (ps := ["thing"]) fun _ _ _ _ _ _ us hl => match us, hl with | [_], _ => rfl
  have F_isnat := fun_mk (st := sIsNatural) l_isnat c_isnat k_isnat
  have b_isnat := F_isnat.binds (ps := ["thing"]) fun _ _ _ _ _ _ us hl => match us, hl with | [_], _ => rfl
  have F_isrow := fun_mk (st := sIsRow) l_isrow c_isrow k_isrow
  have b_isrow := F_isrow.binds (ps := ["thing"]) fun _ _ _ _ _ _ us hl => match us, hl with | [_], _ => rfl
  have F_chblocks := fun_mk (st := sCheckBlocks) l_chblocks c_chblocks k_chblocks
  have b_chblocks := F_chblocks.binds (ps := ["blocks"]) fun _ _ _ _ _ _ us hl => match us, hl with | [_], _ => rfl
  have F_csize := fun_mk (st := sCheckSize) l_csize c_csize k_csize
  have b_csize := F_csize.binds (ps := ["size"]) fun _ _ _ _ _ _ us hl => match us, hl with | [_], _ => rfl
  have F_sched := fun_mk (st := sCheckSchedule) l_sched c_sched k_sched
  have b_sched := F_sched.binds (ps := ["schedule", "size"]) fun _ _ _ _ _ _ us hl => match us, hl with | [_, _], _ => rfl
  have F_run := fun_mk (st := sLevelsRun) l_run c_run k_run
  have b_run := F_run.binds (ps := ["size", "schedule"]) fun _ _ _ _ _ _ us hl => match us, hl with | [_, _], _ => rfl
  have F_blocks := fun_mk (st := sLevelsBlocks) l_blocks c_blocks k_blocks
  have b_blocks := F_blocks.binds (ps := ["size", "schedule"]) fun _ _ _ _ _ _ us hl => match us, hl with | [_, _], _ => rfl
  have F_of := fun_mk (st := sScheduleOf) l_of c_of k_of
  have b_of := F_of.binds (ps := ["size", "blocks"]) fun _ _ _ _ _ _ us hl => match us, hl with | [_, _], _ => rfl
  have F_for := fun_mk (st := sStepsFor) l_for c_for k_for
  have b_for := F_for.binds (ps := ["size", "seen"]) fun _ _ _ _ _ _ us hl => match us, hl with | [_, _], _ => rfl
  have F_drawn := fun_mk (st := sDrawn) l_drawn c_drawn k_drawn
  have b_drawn := F_drawn.binds (ps := ["_law_script"]) fun _ _ _ _ _ _ us hl => match us, hl with | [_], _ => rfl
  have F_take := fun_mk (st := sTake) l_take c_take k_take
  have b_take := F_take.binds (ps := ["_law_found", "_law_many"]) fun _ _ _ _ _ _ us hl => match us, hl with | [_, _], _ => rfl
  have F_int := fun_mk (st := sInt) l_int c_int k_int
  have b_int := F_int.binds (ps := ["_law_thing"]) fun _ _ _ _ _ _ us hl => match us, hl with | [_], _ => rfl
  have F_lblocks := fun_mk (st := sLBlocks) l_lblocks c_lblocks k_lblocks
  have b_lblocks := F_lblocks.binds (ps := ["_law_found", "_law_names"]) fun _ _ _ _ _ _ us hl => match us, hl with | [_, _], _ => rfl
  have F_refused := fun_mk (st := sRefused) l_refused c_refused k_refused
  have b_refused := F_refused.binds (ps := ["_law_word", "_law_one", "_law_other"]) fun _ _ _ _ _ _ us hl => match us, hl with | [_, _, _], _ => rfl
  have F_some := fun_mk (st := sSome) l_some c_some k_some
  have b_some := F_some.binds (ps := ["_law_found", "_law_size"]) fun _ _ _ _ _ _ us hl => match us, hl with | [_, _], _ => rfl
  have F_due := fun_mk (st := sLDue) l_due c_due k_due
  have b_due := F_due.binds (ps := ["_law_blocks_here"]) fun _ _ _ _ _ _ us hl => match us, hl with | [_], _ => rfl
  have F_own := fun_mk (st := sOwn) l_own c_own k_own
  have b_own := F_own.binds (ps := ["_law_size", "_law_schedule"]) fun _ _ _ _ _ _ us hl => match us, hl with | [_, _], _ => rfl
  have F_woven := fun_mk (st := sWoven) l_woven c_woven k_woven
  have b_woven := F_woven.binds (ps := ["_law_found", "_law_schedule", "_law_due_here", "_law_size"]) fun _ _ _ _ _ _ us hl => match us, hl with | [_, _, _, _], _ => rfl
  have F_comes := fun_mk (st := sComes) l_comes c_comes k_comes
  have b_comes := F_comes.binds (ps := ["_law_found", "_law_size"]) fun _ _ _ _ _ _ us hl => match us, hl with | [_, _], _ => rfl
  have F_alone := fun_mk (st := sAlone) l_alone c_alone k_alone
  have b_alone := F_alone.binds (ps := ["_law_found", "_law_size"]) fun _ _ _ _ _ _ us hl => match us, hl with | [_, _], _ => rfl
  have F_allref := fun_mk (st := sAllRef) l_allref c_allref k_allref
  have b_allref := F_allref.binds (ps := ["_law_found", "_law_size"]) fun _ _ _ _ _ _ us hl => match us, hl with | [_, _], _ => rfl
  have F_law := fun_mk (st := sLaw) l_law c_law k_law
  have b_law := F_law.binds (ps := ["_law_script"]) fun _ _ _ _ _ _ us hl => match us, hl with | [_], _ => rfl
  have F_init := fun_mk (st := mInit) l_init c_init k_init
  have b_init := F_init.binds (ps := ["self", "size"]) fun _ _ _ _ _ _ us hl => match us, hl with | [_, _], _ => rfl
  have F_mstep := fun_mk (st := mStep) l_mstep c_mstep k_mstep
  have b_mstep := F_mstep.binds (ps := ["self", "name"]) fun _ _ _ _ _ _ us hl => match us, hl with | [_, _], _ => rfl
  have F_mcheck := fun_mk (st := mCheck) l_mcheck c_mcheck k_mcheck
  have b_mcheck := F_mcheck.binds (ps := ["self", "name"]) fun _ _ _ _ _ _ us hl => match us, hl with | [_, _], _ => rfl
  have F_mread := fun_mk (st := mReadCell) l_mread c_mread k_mread
  have b_mread := F_mread.binds (ps := ["self", "name", "cell"]) fun _ _ _ _ _ _ us hl => match us, hl with | [_, _, _], _ => rfl
  have F_pwrote := fun_mk (st := mWrote) l_pwrote c_pwrote k_pwrote
  have b_pwrote := F_pwrote.binds (ps := ["self"]) fun _ _ _ _ _ _ us hl => match us, hl with | [_], _ => rfl
  refine ⟨PySem.W.fnOf "law" "law" (defArgs sLaw) (defBody sLaw) (defScope sLaw) .none kV_law dc_law pm_law an_law cd_law ct_law, fun s v => .of_eq rfl, fun base _ _ => ?_⟩
  have cL : LevC K CL := ⟨⟨pg, hd, po, sa⟩, nz, nw, ns, nr, nk⟩
  have xN : XC K CN fIN "name" := ⟨iniN, ovN, hdN, tkN, saN, exCN, exEN, tyCN, kCN, slfN, iCN, tIN, supN, opq⟩
  have xB : XC K CB fIB "word" := ⟨iniB, ovB, hdB, tkB, saB, exCB, exEB, tyCB, kCB, slfB, iCB, tIB, supB, opq⟩
  have T : Errs P w K mg CN CB := ⟨⟨fIN, xN, initRun_N xN m_super lfN hcdN lcoN hvsN hfiN lceN htop⟩, ⟨fIB, xB, initRun_B xB m_super lfB hcdB lcoB hvsB hfiB lceB htop⟩, PySem.W.mg_of X G gN, PySem.W.mg_of X G gB⟩
  have TX : ErrsX K mg CN CB CT := ⟨PySem.W.mg_of X G gT, nn, bn, bb, ⟨gaN, ggN, exCN, hdN⟩, ⟨gaB, ggB, exCB, hdB⟩, nfN, nfB⟩
  have xR : XC K CR fIR "place" := ⟨iniR, ovR, hdR, tkR, saR, exCR, exER, tyCR, kCR, slfR, iCR, tIR, supR, opq⟩
  have T3 : ErrR P w K mg CR := ⟨⟨fIR, xR, initRun_R xR m_super lfR hcdR lcoR hvsR hfiR lceR htop⟩, PySem.W.mg_of X G gR⟩
  have TR : ErrsR K CN CB CR := ⟨rn, rb, rr, ⟨gaR, ggR, exCR, hdR⟩, nfR⟩
  have D_isint := fok (base := base) (w := w) (P := P) F_isint (PySem.W.mg_of X G a_isint) b_isint (ok_is_integer F_isint m_isinstance m_int m_bool)
  have D_isnat := fok (base := base) (w := w) (P := P) F_isnat (PySem.W.mg_of X G a_isnat) b_isnat (ok_is_natural F_isnat D_isint)
  have D_isrow := fok (base := base) (w := w) (P := P) F_isrow (PySem.W.mg_of X G a_isrow) b_isrow (ok_is_row F_isrow m_isinstance m_list m_tuple)
  have D_chblocks := fok (base := base) (w := w) (P := P) F_chblocks (PySem.W.mg_of X G a_chblocks) b_chblocks (ok_chk F_chblocks T3 m_len m_enumerate D_isrow D_isnat)
  have D_csize := fok (base := base) (w := w) (P := P) F_csize (PySem.W.mg_of X G a_csize) b_csize (ok_check_size F_csize T m_MOST D_isint)
  have D_mcheck : Mok P w K mg base CL _ _ _ _ := ⟨f_mcheck, _, ⟨a_mcheck, i_mcheck, k_mcheck⟩, b_mcheck, ok_check F_mcheck T cL D_isnat⟩
  have D_mread : Mok P w K mg base CL _ _ _ _ := ⟨f_mread, _, ⟨a_mread, i_mread, k_mread⟩, b_mread, ok_read_cell F_mread cL⟩
  have D_mstep : Mok P w K mg base CL _ _ _ _ := ⟨f_mstep, _, ⟨a_mstep, i_mstep, k_mstep⟩, b_mstep, ok_mstep F_mstep T cL m_len D_mcheck D_mread⟩
  have D_pwrote : Pok P w K mg base CL _ _ _ _ := ⟨p_pwrote, f_pwrote, _, ⟨a_pwrote, g_pwrote, t_pwrote, ⟨_, r_pwrote⟩⟩, b_pwrote, ok_wrote F_pwrote cL m_tuple m_range⟩
  have D_Levels : Cok P w K mg base CL 4 "Levels" ["self", "size"] (spInit K CL CB) := ⟨f_init, _, ⟨mk, a_init, i_init, kc⟩, PySem.W.mg_of X G gL, b_init, ok_init F_init cL D_csize⟩
  have D_sched := fok (base := base) (w := w) (P := P) F_sched (PySem.W.mg_of X G a_sched) b_sched (ok_sched F_sched T D_isrow D_isnat)
  have D_run := fok (base := base) (w := w) (P := P) F_run (PySem.W.mg_of X G a_run) b_run (ok_run F_run cL m_tuple m_sorted D_Levels D_sched D_mstep D_pwrote)
  have D_blocks := fok (base := base) (w := w) (P := P) F_blocks (PySem.W.mg_of X G a_blocks) b_blocks (ok_blocks F_blocks m_tuple m_sorted m_len D_run)
  have D_of := fok (base := base) (w := w) (P := P) F_of (PySem.W.mg_of X G a_of) b_of (ok_of F_of m_len m_range m_list m_tuple D_csize D_chblocks D_sched)
  have D_for := fok (base := base) (w := w) (P := P) F_for (PySem.W.mg_of X G a_for) b_for (ok_for F_for T D_csize D_isint)
  have D_drawn := fok (base := base) (w := w) (P := P) F_drawn (PySem.W.mg_of X G a_drawn) b_drawn (ok_drawn F_drawn m_len m_int m_min m_range)
  have D_take := fok (base := base) (w := w) (P := P) F_take (PySem.W.mg_of X G a_take) b_take (ok_take F_take m_len m_int)
  have D_int := fok (base := base) (w := w) (P := P) F_int (PySem.W.mg_of X G a_int) b_int (ok_int F_int m_isinstance m_int m_bool)
  have D_lblocks := fok (base := base) (w := w) (P := P) F_lblocks (PySem.W.mg_of X G a_lblocks) b_lblocks (ok_lblocks F_lblocks m_len m_tuple D_take)
  have D_refused := fok (base := base) (w := w) (P := P) F_refused (PySem.W.mg_of X G a_refused) b_refused (ok_refused F_refused T T3 TX TR D_of D_for)
  have D_some := fok (base := base) (w := w) (P := P) F_some (PySem.W.mg_of X G a_some) b_some (ok_some F_some m_len m_range D_take)
  have D_due := fok (base := base) (w := w) (P := P) F_due (PySem.W.mg_of X G a_due) b_due (ok_due F_due m_list m_tuple m_sorted)
  have D_own := fok (base := base) (w := w) (P := P) F_own (PySem.W.mg_of X G a_own) b_own (ok_own F_own m_len m_range m_list m_tuple m_sorted)
  have D_woven := fok (base := base) (w := w) (P := P) F_woven (PySem.W.mg_of X G a_woven) b_woven (ok_woven F_woven m_len m_range D_take)
  have D_comes := fok (base := base) (w := w) (P := P) F_comes (PySem.W.mg_of X G a_comes) b_comes (ok_comes F_comes m_len m_list m_tuple m_isinstance m_all D_take D_some D_lblocks D_of D_for D_due D_int D_own D_run D_blocks D_woven)
  have D_alone := fok (base := base) (w := w) (P := P) F_alone (PySem.W.mg_of X G a_alone) b_alone (ok_alone F_alone m_tuple m_sorted D_take D_run)
  have D_allref := fok (base := base) (w := w) (P := P) F_allref (PySem.W.mg_of X G a_allref) b_allref (ok_allref F_allref m_range D_take D_int D_for D_refused)
  exact ok_law F_law D_drawn D_take D_comes D_alone D_allref
theorem walk {l : PySem.W.OpenLaw} {q : Program} {loose : List Str} {XP : (Str → Option Value) → Heap → Prop} {YP : World → Heap → Prop} {d : DefRec} {K : Params → PySem.W.Frag} (hn : l.most = some 63) (hdf : d.params.defaults = [])
    (hY : ∀ (w : World) (h : Heap), YP w h → (K w.params).In h)
    (F : ∀ (w : World) (mg : Str → Option Value) (fa : Addr) (h : Heap), (K w.params).In h → h.Ns mainGlobals mg → mg d.name = some (.ref fa) →
      ∃ fd : FuncData, (∀ (s : Shared) (u : Value), BindsTo s fd ⟨[u], []⟩ [("_law_script", u)]) ∧ ∀ base : Heap, (K w.params).In base → base.Ns mainGlobals mg → FnOk l.prog w (K w.params) mg base (L2.CX l.prog w) 10 fa fd ["_law_script"] (spLaw (K w.params))) :
    PySem.W.WalkO q loose XP YP l.row.toRowW d [] (fun f vs => PySem.call f vs) :=
  L2.walk_of (n := 63) (k := 10) (x := "_law_script") (CX := fun w => L2.CX l.prog w) (sp := fun w => spLaw (K w.params)) hn (by decide) hdf ⟨rfl, by decide, by decide⟩ hY F (fun _ _ a ns hl _ hS => ⟨a, ns, rfl, hS, hl, fun _ => rfl⟩) fun w H s e s' z => by
    obtain ⟨_, _, _, _, _, _, _, _, _, _, _, _, z⟩ := z
    exact z
end K8
open PySem PySem.W PyProof.Rows
set_option maxRecDepth 100000 in
set_option maxHeartbeats 0 in
theorem PySem.Challenge.cw_nowaittasks_k08_told_steps_each_row_come_holds : PySem.Challenge.rw_nowaittasks_k08_told_steps_each_row_come.Holds := by
  w_on; o_law; k_head; (case hw => w_witness2)
  k_fill
  refine K8.walk (l := PySem.Challenge.rw_nowaittasks_k08_told_steps_each_row_come) rfl rfl (fun w h Y => PySem.W.kIn_of Y) ?F
  case F =>
    intro w mg fa h KX G hmg
    refine' K8.all_mk KX G hmg ?z_len ?z_int ?z_list ?z_tuple ?z_min ?z_range ?z_sorted ?z_all ?z_isinstance ?z_bool ?z_super ?z_enumerate ?z_MOST ?gL ?gN ?gB ?gR ?gT ?a_isint ?l_isint ?c_isint ?k_isint ?a_isnat ?l_isnat ?c_isnat ?k_isnat ?a_isrow ?l_isrow ?c_isrow ?k_isrow ?a_chblocks ?l_chblocks ?c_chblocks ?k_chblocks ?a_csize ?l_csize ?c_csize ?k_csize ?a_sched ?l_sched ?c_sched ?k_sched ?a_run ?l_run ?c_run ?k_run ?a_blocks ?l_blocks ?c_blocks ?k_blocks ?a_of ?l_of ?c_of ?k_of ?a_for ?l_for ?c_for ?k_for ?a_drawn ?l_drawn ?c_drawn ?k_drawn ?a_take ?l_take ?c_take ?k_take ?a_int ?l_int ?c_int ?k_int ?a_lblocks ?l_lblocks ?c_lblocks ?k_lblocks ?a_refused ?l_refused ?c_refused ?k_refused ?a_some ?l_some ?c_some ?k_some ?a_due ?l_due ?c_due ?k_due ?a_own ?l_own ?c_own ?k_own ?a_woven ?l_woven ?c_woven ?k_woven ?a_comes ?l_comes ?c_comes ?k_comes ?a_alone ?l_alone ?c_alone ?k_alone ?a_allref ?l_allref ?c_allref ?k_allref ?a_law ?l_law ?c_law ?k_law ?a_init ?i_init ?l_init ?c_init ?k_init ?a_mstep ?i_mstep ?l_mstep ?c_mstep ?k_mstep ?a_mcheck ?i_mcheck ?l_mcheck ?c_mcheck ?k_mcheck ?a_mread ?i_mread ?l_mread ?c_mread ?k_mread ?a_pwrote ?g_pwrote ?t_pwrote ?r_pwrote ?l_pwrote ?c_pwrote ?k_pwrote ?pg ?hd ?po ?sa ?mk ?kc ?nz ?nw ?ns ?nr ?nk ?opq ?iniN ?ovN ?hdN ?tkN ?saN ?exCN ?exEN ?tyCN ?kCN ?slfN ?iCN ?tIN ?supN ?lfN ?hcdN ?lcoN ?hvsN ?hfiN ?lceN ?gaN ?ggN ?nfN ?iniB ?ovB ?hdB ?tkB ?saB ?exCB ?exEB ?tyCB ?kCB ?slfB ?iCB ?tIB ?supB ?lfB ?hcdB ?lcoB ?hvsB ?hfiB ?lceB ?gaB ?ggB ?nfB ?iniR ?ovR ?hdR ?tkR ?saR ?exCR ?exER ?tyCR ?kCR ?slfR ?iCR ?tIR ?supR ?lfR ?hcdR ?lcoR ?hvsR ?hfiR ?lceR ?gaR ?ggR ?nfR ?htop ?nn ?bn ?bb ?rn ?rb ?rr
    (case z_len => k_is)
    (case z_int => k_is)
    (case z_list => k_is)
    (case z_tuple => k_is)
    (case z_min => k_is)
    (case z_range => k_is)
    (case z_sorted => k_is)
    (case z_all => k_is)
    (case z_isinstance => k_is)
    (case z_bool => k_is)
    (case z_super => k_is)
    (case z_enumerate => k_is)
    (case z_MOST => k_is)
    (case gL => k_is)
    (case gN => k_is)
    (case gB => k_is)
    (case gR => k_is)
    (case gT => k_is)
    (case a_isint => k_is)
    (case l_isint => k_is)
    (case c_isint => k_is)
    (case k_isint => k_is)
    (case a_isnat => k_is)
    (case l_isnat => k_is)
    (case c_isnat => k_is)
    (case k_isnat => k_is)
    (case a_isrow => k_is)
    (case l_isrow => k_is)
    (case c_isrow => k_is)
    (case k_isrow => k_is)
    (case a_chblocks => k_is)
    (case l_chblocks => k_is)
    (case c_chblocks => k_is)
    (case k_chblocks => k_is)
    (case a_csize => k_is)
    (case l_csize => k_is)
    (case c_csize => k_is)
    (case k_csize => k_is)
    (case a_sched => k_is)
    (case l_sched => k_is)
    (case c_sched => k_is)
    (case k_sched => k_is)
    (case a_run => k_is)
    (case l_run => k_is)
    (case c_run => k_is)
    (case k_run => k_is)
    (case a_blocks => k_is)
    (case l_blocks => k_is)
    (case c_blocks => k_is)
    (case k_blocks => k_is)
    (case a_of => k_is)
    (case l_of => k_is)
    (case c_of => k_is)
    (case k_of => k_is)
    (case a_for => k_is)
    (case l_for => k_is)
    (case c_for => k_is)
    (case k_for => k_is)
    (case a_drawn => k_is)
    (case l_drawn => k_is)
    (case c_drawn => k_is)
    (case k_drawn => k_is)
    (case a_take => k_is)
    (case l_take => k_is)
    (case c_take => k_is)
    (case k_take => k_is)
    (case a_int => k_is)
    (case l_int => k_is)
    (case c_int => k_is)
    (case k_int => k_is)
    (case a_lblocks => k_is)
    (case l_lblocks => k_is)
    (case c_lblocks => k_is)
    (case k_lblocks => k_is)
    (case a_refused => k_is)
    (case l_refused => k_is)
    (case c_refused => k_is)
    (case k_refused => k_is)
    (case a_some => k_is)
    (case l_some => k_is)
    (case c_some => k_is)
    (case k_some => k_is)
    (case a_due => k_is)
    (case l_due => k_is)
    (case c_due => k_is)
    (case k_due => k_is)
    (case a_own => k_is)
    (case l_own => k_is)
    (case c_own => k_is)
    (case k_own => k_is)
    (case a_woven => k_is)
    (case l_woven => k_is)
    (case c_woven => k_is)
    (case k_woven => k_is)
    (case a_comes => k_is)
    (case l_comes => k_is)
    (case c_comes => k_is)
    (case k_comes => k_is)
    (case a_alone => k_is)
    (case l_alone => k_is)
    (case c_alone => k_is)
    (case k_alone => k_is)
    (case a_allref => k_is)
    (case l_allref => k_is)
    (case c_allref => k_is)
    (case k_allref => k_is)
    (case a_law => k_is)
    (case l_law => k_is)
    (case c_law => k_is)
    (case k_law => k_is)
    (case a_init => k_is)
    (case i_init => k_is)
    (case l_init => k_is)
    (case c_init => k_is)
    (case k_init => k_is)
    (case a_mstep => k_is)
    (case i_mstep => k_is)
    (case l_mstep => k_is)
    (case c_mstep => k_is)
    (case k_mstep => k_is)
    (case a_mcheck => k_is)
    (case i_mcheck => k_is)
    (case l_mcheck => k_is)
    (case c_mcheck => k_is)
    (case k_mcheck => k_is)
    (case a_mread => k_is)
    (case i_mread => k_is)
    (case l_mread => k_is)
    (case c_mread => k_is)
    (case k_mread => k_is)
    (case a_pwrote => k_is)
    (case g_pwrote => k_is)
    (case t_pwrote => k_is)
    (case r_pwrote => k_is)
    (case l_pwrote => k_is)
    (case c_pwrote => k_is)
    (case k_pwrote => k_is)
    (case pg => k_is)
    (case hd => k_is)
    (case po => k_is)
    (case sa => k_is)
    (case mk => k_is)
    (case kc => k_is)
    (case nz => k_is)
    (case nw => k_is)
    (case ns => k_is)
    (case nr => k_is)
    (case nk => k_is)
    (case opq => k_is)
    (case iniN => kx_is)
    (case ovN => kx_is)
    (case hdN => k_is)
    (case tkN => k_is)
    (case saN => k_is)
    (case exCN => k_is)
    (case exEN => k_is)
    (case tyCN => k_is)
    (case kCN => k_is)
    (case slfN => k_is)
    (case iCN => k_is)
    (case tIN => k_is)
    (case supN => ks_is)
    (case lfN => k_is)
    (case hcdN => k_is)
    (case lcoN => k_is)
    (case hvsN => exact rfl)
    (case hfiN => first | exact rfl | decide +kernel)
    (case lceN => k_is)
    (case gaN => k_is)
    (case ggN => k_is)
    (case nfN => k_is)
    (case iniB => kx_is)
    (case ovB => kx_is)
    (case hdB => k_is)
    (case tkB => k_is)
    (case saB => k_is)
    (case exCB => k_is)
    (case exEB => k_is)
    (case tyCB => k_is)
    (case kCB => k_is)
    (case slfB => k_is)
    (case iCB => k_is)
    (case tIB => k_is)
    (case supB => ks_is)
    (case lfB => k_is)
    (case hcdB => k_is)
    (case lcoB => k_is)
    (case hvsB => exact rfl)
    (case hfiB => first | exact rfl | decide +kernel)
    (case lceB => k_is)
    (case gaB => k_is)
    (case ggB => k_is)
    (case nfB => k_is)
    (case iniR => kx_is)
    (case ovR => kx_is)
    (case hdR => k_is)
    (case tkR => k_is)
    (case saR => k_is)
    (case exCR => k_is)
    (case exER => k_is)
    (case tyCR => k_is)
    (case kCR => k_is)
    (case slfR => k_is)
    (case iCR => k_is)
    (case tIR => k_is)
    (case supR => ks_is)
    (case lfR => k_is)
    (case hcdR => k_is)
    (case lcoR => k_is)
    (case hvsR => exact rfl)
    (case hfiR => first | exact rfl | decide +kernel)
    (case lceR => k_is)
    (case gaR => k_is)
    (case ggR => k_is)
    (case nfR => k_is)
    (case htop => first | exact rfl | decide +kernel)
    (case nn => kts_exm)
    (case bn => kts_exm)
    (case bb => kts_exm)
    (case rn => kts_exm)
    (case rb => kts_exm)
    (case rr => kts_exm)
#print axioms PySem.Challenge.cw_nowaittasks_k08_told_steps_each_row_come_holds
