import PyProof.Rows.All
import Wide.All
import OpenK.AllK
import Wide.FinOn
import HandS.ForMost
import HandS.ForExc
import HandS.ExcInit
import HandS.Nested
import HandS.HeadWalk
import KE.KExcSuper
import HandS.MakeKw
import HandS.ExcIs
import HandS.IsInst
import HandS.Lambda
import HandS.HeadHook4
import HandS.Head2
import HandS.Walk
import HandS.Flow
import HandS.Zip
import HandS.DictComp
import HandS.Codes
import PySem.Challenge.RW_manyvoices_k01_errors_made
set_option Elab.async false
set_option linter.all false
set_option maxRecDepth 100000
set_option maxHeartbeats 0
namespace Mv
open PySem PySem.Spec PySem.W PyProof.Rows L2 NdefX

/-- the written facts of an own error class over ValueError, whose __init__ begins with super().__init__(a text) -/
structure SupK (P : Program) (K : Frag) (mg : Str → Option Value) (C cc cda : Addr) : Prop where
  T : OexC K C
  code : ∃ ccl cdd vs ccs file tf, K.lookup cda = some ⟨ccl, cdd, .fields vs, ccs⟩ ∧ vs[2]? = some (Value.str file tf) ∧ ((P.main.file : Str) == file) = true
  cell : ∃ cl cld csl, K.lookup cc = some ⟨cl, cld, .cell (some (.ref C)), csl⟩
  cls : ∃ cd, clsIn K C = some cd
  self : mroIn K C (.ref C) = some true
  sup : mg "super" = none
  top : (P.main.scope.names.lookup ("super" : Str)).isSome = false
  meth : ks_superIn K C C "__init__" = some (some (.builtin "ValueError.__init__"))
  ve : subIn K (.ref C) (.type "ValueError") = some true
  opaq : nsIn K cStatics "thirdparty.any" = some none

abbrev exm (a C : Addr) (t1 : Addr) : Obj := { cls := .ref C, dict := none, data := .fields #[.ref t1, .none, .none, .none, .bool false, .none] }

section
variable {P : Program} {w : World} {A : Around} {E : Value → Shared → Prop} {K : Frag} {h : Heap} {g : Array GenState} {d : Drawn} {t : Nat} {os : OsState}
/-- the bound ValueError.__init__ is called: the error's args are laid anew -/
theorem call_mw {u e C t0 : Addr} {us : List Value} {Q : Value → Shared → Prop} (T : OexC K C) (hK : K.In h) (hu : h.get? u = some (kxs_mw "ValueError.__init__" e)) (he : h.get? e = some (exm e C t0)) (hl : us.length ≤ sizeLine)
    (hq : ∀ h' t1, (∀ b o, b ≠ e → h.get? b = some o → h'.get? b = some o) → h'.get? e = some (exm e C t1) → Q .none ⟨h', g, d, t, os⟩) :
    wpAny (model P w) A (call (.ref u) us) Q E ⟨h, g, d, t, os⟩ := by
  obtain ⟨nm, q, N, bs, bm, sn, sub, ab, col, dd, k0, k1, k2, k3, k5, hC, hbm⟩ := T.cls
  have FB := F.excBase_ValueError
  refine wpAny_call (codeAny_of_tree (show wpAny _ A.in1 (callAny (.ref u) ⟨us, []⟩) _ _ _ from ?_))
  unfold callAny
  refine wpAny_bind (wpAny_load hu (KFB.if_so rfl ?_))
  refine wpAny_bind (check_bound_init FB.toExcCallFacts (hK _ _ hC) he rfl (wpAny_bind (wpAny_pure (wpAny_pure ⟨plainId_quiet FB.init.plain _, codeAny_builtin FB.initEntry ?_⟩))))
  exact exc_init_tree (cls := .ref C) (t0 := t0) (dv := none) (c2 := .none) (c3 := .none) (b4 := .bool false) he hl fun h' k e1 _ => hq h' _ k e1
end
/-- o.m(e) on one line -/
theorem meth_eq {o e : Expr} {es : List Expr} {m : Str} {apos pos : Pos} {env : Env} (hl : (apos.endLine == pos.line) = true) (hf : methodCallForm (e :: es).length (backTo pos (starEach (e :: es) env)) [] = true) :
    eval (.Call (.Attribute o m apos) (e :: es) [] pos) env = (do
      let ov ← attributeBase o m env (eval o env)
      standAt apos.atName
      let (f, first) ← holding [ov] (getMethod ov m (plainOf o env))
      callWith pos f first (backTo pos (starEach (e :: es) env)) []) := by
  rw [eval]
  have e1 : ∀ ov, methodCall o m apos pos env ov ((e :: es).length + ([] : List Keyword).length) (backTo pos (starEach (e :: es) env)) (backToKw pos (keywordEach [] env)) = (do
      let (f, first) ← holding [ov] (getMethod ov m (plainOf o env))
      callWith pos f first (backTo pos (starEach (e :: es) env)) []) := fun ov => mcall_line (kws := []) hf hl
  simp only [e1]
section
variable {CX : CXT} {P : Program} {w : World} {K : Frag} {mg : Str → Option Value} {base : Heap} {C fI cc cda : Addr} {k : Nat}
/-- the cells of such an __init__: its own class -/
theorem cells_cls {h : Heap} {H : Hp} (D : SupK P K mg C cc cda) (hk : K.In h) (hf : ∀ b o, K.lookup b = some o → H b = none) : CellsAt [("__class__", cc)] ["__class__"] [some (V.ref C)] h H := by
  obtain ⟨cl, cld, csl, hc⟩ := D.cell
  have one : ∀ {y c}, List.lookup y [(("__class__" : Str), cc)] = some c → y = "__class__" ∧ c = cc := fun {y c} e => by
    rw [List.lookup_cons] at e
    split at e
    · rename_i q
      exact ⟨by simpa using q, (Option.some.inj e).symm⟩
    · cases e
  refine ⟨rfl, fun y c e => ?_, fun x y c e1 e2 => (one e1).1.trans (one e2).1.symm, fun i y e => ?_⟩
  · obtain ⟨-, rfl⟩ := one e
    exact ⟨hf _ _ hc, _, _, hk _ _ hc, rfl⟩
  · cases i with
    | zero =>
      cases e
      exact ⟨cc, by rw [List.lookup_cons]; simp, fun v ev => ⟨.ref C, by cases ev; rfl, _, hk _ _ hc, rfl⟩⟩
    | succ i => cases e

theorem sup_of {name qual txt : Str} {params : Arguments} {scope : Scope} {ar : Arg} {rst : List Stmt} {p0 p1 p2 p3 p4 p5 : Pos} {j : Nat} {kV doc pm ct oc : Value} {an od : Option Addr} {osl : Array (Option Value)} {N ps : List Str} {sp : Sp}
    (D : SupK P K mg C cc cda)
    (lk : K.lookup fI = some ⟨oc, od, .func (fnX name qual params (.Expr (.Call (.Attribute (.Call (.Name "super" p0) [] [] p1) "__init__" p2) [.Constant (.str txt) j p3] [] p4) p5 :: rst) scope [("__class__", cc)] .none kV doc pm an (.ref cda) ct), osl⟩)
    (hcd : codeIn K (.ref cda) qual = true) (S : NScope N (("self" : Str) :: ps) ["__class__"] scope) (hks : scope.names.lookup ("super" : Str) = some .globalImplicit)
    (hpos : (p2.endLine == p4.line) = true) (hp : (params.posonlyargs ++ params.args).head? = some ar) (har : ar.arg = "self") 
    (len : ∀ vs H Q E, sp vs H Q E → vs.length = (("self" : Str) :: ps).length)
    (hrest : ∀ (A : Around) (outer : List Env) (s : Shared) (H : Hp) (vs : List V) (Q : VK) (E : XK) (F : NF), F = ⟨name, qual, params, (.Expr (.Call (.Attribute (.Call (.Name "super" p0) [] [] p1) "__init__" p2) [.Constant (.str txt) j p3] [] p4) p5 :: rst), scope, [("__class__", cc)], cda⟩ → Room k (A.deeper (envF F fI s.heap.objs.size)) → sp vs H Q E →
      (∃ a, vs.head? = some (.ref a) ∧ H a = some (exo a C none)) ∧ ∃ t, PSs (ncx CX P w K mg base N F fI A outer s H E) rst t ∧ t { nx := fun _ H' => Q .non H', rt := Q } (startF N vs [some (.ref C)]) H) :
    FnOk P w K mg base CX (k + 1) fI (fnX name qual params (.Expr (.Call (.Attribute (.Call (.Name "super" p0) [] [] p1) "__init__" p2) [.Constant (.str txt) j p3] [] p4) p5 :: rst) scope [("__class__", cc)] .none kV doc pm an (.ref cda) ct) (("self" : Str) :: ps) sp := by
  refine ⟨len, fun A outer s H args us vs Q E hr e0 hb r hsp => ?_⟩
  obtain ⟨F, hF⟩ : ∃ F : NF, F = ⟨name, qual, params, (.Expr (.Call (.Attribute (.Call (.Name "super" p0) [] [] p1) "__init__" p2) [.Constant (.str txt) j p3] [] p4) p5 :: rst), scope, [("__class__", cc)], cda⟩ := ⟨_, rfl⟩
  have hl := len _ _ _ _ hsp
  have KX : K.In s.heap := e0.mod.kin.keeps fun b o e => (e0.bs b o e).1
  have lim : s.heap.NoLimit := e0.mod.nolimit.keeps fun b o e => (e0.bs b o e).1
  have hfree : ∀ b o, K.lookup b = some o → H b = none := fun b o e => (e0.bs b o (e0.mod.kin _ _ e)).2
  have CA := cells_cls D KX hfree
  have hloc : ∀ y ∈ (("self" : Str) :: ps).zip us, scope.names.lookup y.1 = some .local := fun ⟨n, v⟩ hy => S.par n (List.of_mem_zip hy).1
  refine codeAny_call_function hr.depth (KX _ _ lk) rfl S.co S.gen rfl (codeRec_of KX hcd) (hb _ _ _ _ ?_)
  refine wpAny_newFunctionEnv S.nocell hloc (fun h₁ hns hsb => ⟨lim.fresh _ hsb, ?_⟩) S.kind
  have kp : ∀ b o, s.heap.get? b = some o → h₁.get? b = some o := fun b o e => hsb.extBut b o (Nat.ne_of_lt (Heap.lt_size e)) (Heap.get?_push_of_some _ e)
  have hbody := hrest A outer s H vs Q E F hF
  have e1 : NScope N (("self" : Str) :: ps) ["__class__"] F.scope := by rw [hF]; exact S
  have CA' : CellsAt F.cl ["__class__"] [some (V.ref C)] s.heap H := by rw [hF]; exact CA
  obtain ⟨⟨a, hva, ha⟩, t, ht, hq⟩ := hbody (hr.deeper _) hsp
  have I : Inv (ncx CX P w K mg base N F fI A outer s H E) [] (startF N vs [some (.ref C)]) H { s with heap := h₁, toks := s.toks + ((("self" : Str) :: ps).zip us).length } := inv_startN e1 hr.hd e0 hl r CA' hns kp
  obtain ⟨ccl, cdd, vs', ccs, file, tf, hcode, hvs, hfile⟩ := D.code
  obtain ⟨cl, cld, csl, hcell⟩ := D.cell
  obtain ⟨cdC, hcl⟩ := D.cls
  subst hF
  have hev := meth_eq (o := .Call (.Name "super" p0) [] [] p1) (m := "__init__") (e := .Constant (.str txt) j p3) (es := []) (env := envX qual scope s.heap.objs.size fI (.ref cda) [("__class__", cc)]) hpos rfl
  refine ks_codeAny_funcAt (ks_wpAt_execs_cons (ks_wpAt_Expr_any (ks_wpAt_MethodCall ?_ hev) (by show (scope.kind == .module && _) = false; rw [S.kind]; rfl)))
  have K1 := I.kIn
  obtain ⟨m, hn, hlk⟩ := I.loc
  have hN0 : N[0]? = some ("self" : Str) := by
    have q := congrArg (fun l : List Str => l[0]?) S.pre
    rw [List.getElem?_take_of_lt (by simp)] at q
    exact q
  have hs0 : (startF N vs [some (V.ref C)])[0]? = some (some (.ref a)) := by
    cases vs with
    | nil => cases hva
    | cons v vs => cases hva; rfl
  obtain ⟨u0, r0, l0⟩ := hlk 0 "self" (.ref a) hN0 hs0 (.inl (S.par _ (by simp)))
  cases r0
  have hself : m "self" = some (Value.ref a) := by
    rcases l0 with ⟨_, e⟩ | ⟨e, _⟩
    · exact e
    · have e2 : scope.names.lookup ("self" : Str) = some .local := S.par _ (by simp)
      have e3 : scope.names.lookup ("self" : Str) = some .cell ∨ scope.names.lookup ("self" : Str) = some .free := e
      rw [e2] at e3
      rcases e3 with z | z <;> cases z
  obtain ⟨mb, b1, b2⟩ := I.mod.blt
  obtain ⟨t1, ho⟩ := exo_at I.hok ha
  obtain ⟨oC, hC1, hC2⟩ : ∃ oC, K.lookup C = some oC ∧ oC.data = .cls cdC := by
    unfold clsIn at hcl
    split at hcl
    · rename_i c d cd' sl hz
      cases hcl
      exact ⟨_, hz, rfl⟩
    · cases hcl
  refine ks_wpAt_super_base (env := envX qual scope s.heap.objs.size fI (.ref cda) [("__class__", cc)]) hks (S.frk _ (by simp)) (by decide) rfl (K1 _ _ lk) rfl hp rfl (K1 _ _ hcode) rfl hvs hfile D.top ?_
  rw [har]
  refine ks_loadName_global S.kind hks (Calls.loadGlobal_builtin (I.mod.glob.keeps I.bk) D.sup (b1.keeps I.bk) ((b2 _ (by decide)).trans (by first | rfl | decide +kernel)) ⟨rfl, ?_⟩)
  refine wpAny_loadName_free S.kind (S.frk _ (by simp)) (by rw [List.lookup_cons]; simp) ⟨_, K1 _ _ hcell, rfl⟩ ?_
  refine wpAny_loadName_local S.kind (S.par _ (by simp)) hn hself ?_
  refine ks_wpAny_isType_cls (K1 _ _ hC1) hC2 ⟨rfl, ?_⟩
  refine ks_wpAny_call_super (K1 _ _ hC1) hC2 ho rfl (fun c e => by cases e) (looks_mroIn K1 D.self) (fun h2 e2 k2 => ?_)
  have hm := D.meth
  unfold ks_superIn at hm
  rw [hcl] at hm
  have K2 : K.In h2 := K1.keeps k2
  have IA : PySem.W.InstAt h2 a (exm a C t1) C none := ⟨k2 _ _ ho, rfl, rfl, True.intro⟩
  have I2 := I.kept (h' := h2) (t' := s.toks + ((("self" : Str) :: ps).zip us).length) k2
  refine kxs_getMethod kxs_ValueError e2 (looks_opaque K2 D.opaq) (l₀ := cdC.mro) (fun A Q E s k q => wpAny_bind ((looks_clsIn K2 hcl) A _ E s k (wpAny_pure q))) rfl K2 hm (IA.type.andThen (looks_subIn K2 D.ve)) (ks_ne K2 IA hcl) (by decide) ?_
  have I3 := I2.kept (h' := h2.push (kxs_mw "ValueError.__init__" a)) (t' := s.toks + ((("self" : Str) :: ps).zip us).length + 1) (fun b o e => Heap.get?_push_of_some _ e)
  have hub : (h2.push (kxs_mw "ValueError.__init__" a)).get? h2.objs.size = some (kxs_mw "ValueError.__init__" a) := Heap.get?_push_at rfl rfl
  have I4 := I3.pins_of (pins' := [(h2.objs.size, kxs_mw "ValueError.__init__" a)]) (fun p hp => by
    obtain rfl := List.mem_singleton.mp hp
    exact ⟨hub, I2.hok.fresh (Nat.le_refl _), Nat.ne_of_gt I2.lt, I2.nofs (Nat.le_refl _), fun v e => by cases e⟩)
  refine kxs_callWith (i := "ValueError.__init__") (x := a) rfl (Calls.evalArgs_plain (thn ((pa_cons pe_str pa_nil).run p4 _ _ _ H (fun vs H' => vs = [V.str txt] ∧ H' = H) I4 ⟨rfl, rfl⟩) fun us3 s3 ⟨vs3, H3, I5, r3, q3⟩ => ?_))
  obtain ⟨rfl, rfl⟩ := q3
  have hpin := (I5.pin (h2.objs.size, kxs_mw "ValueError.__init__" a) (by simp)).1
  obtain ⟨t2, ho5⟩ := exo_at I5.hok ha
  have hlen : us3.length ≤ sizeLine := by
    rw [← Paired.length r3]
    exact (by decide : 1 ≤ sizeLine)
  obtain ⟨h5, g5, d5, tk5, os5⟩ := s3
  refine ⟨hpin, call_mw D.T I5.kIn hpin ho5 hlen fun h' t3 k5 e5 => ?_⟩
  have J := I5.write (t' := tk5) (x := a) (e := a) (o := exo a C none) (by rw [ha]; exact True.intro) (.inl rfl) k5 ⟨_, e5⟩ (exo_ok e5)
  have eu : upd H3 a (exo a C none) = H3 := by
    funext b
    by_cases hb : b = a
    · rw [hb, upd_same, ha]
    · rw [upd_ne hb]
  rw [eu] at J
  have J2 := J.pins_of (pins' := []) (fun p hp => nomatch hp)
  refine wpAt_of_wpAny (wpAny_mono (ht.run [] _ _ _ _ J2 hq) (fun fl s' hs => ?_) fun e s' hs => hs)
  have ends : ∀ {FF : NF} {σ' : L2.St} {H' : Hp} {v : V} {u : Value}, Inv (ncx CX P w K mg base N FF fI A outer s H3 E) [] σ' H' s' → L2.RelV v u → Q v H' → CE outer P w H3 s Q u s' := fun {FF σ' H' v u} Z rv q => ⟨v, H', Z.os, Z.bare, Z.base, Z.hok, rv, q⟩
  cases fl with
  | ret u =>
    obtain ⟨v, σ', H', Z, rv, q⟩ := hs
    exact ends Z rv q
  | next =>
    obtain ⟨σ', H', Z, q⟩ := hs
    exact ends (v := V.non) (u := Value.none) Z rfl q
  | brk => exact (let ⟨_, _, _, q⟩ := hs; False.elim q)
  | cont => exact (let ⟨_, _, _, q⟩ := hs; False.elim q)
end
end Mv
namespace Mv
open PySem PySem.Spec PySem.W PyProof.Rows L2 NdefX

/-- such an __init__, called with the new error and y: its field fld holds y -/
def spErr (C : Addr) (fld : Str) : Sp := fun vs H Q _ => ∃ (a : Addr) (y : V), vs = [.ref a, y] ∧ H a = some (exo a C none) ∧ ∀ dx, H dx = none → dx ≠ a → Q .non (upd (upd H dx (exd dx [(fld, y)])) a (exo a C (some dx)))
/-- an own error class of one field, by what its users ask -/
structure Err (P : Program) (w : World) (K : Frag) (mg : Str → Option Value) (base : Heap) (x : Str) (C : Addr) (fld : Str) : Prop where
  gC : mg x = some (.ref C)
  T : OexC K C
  init : ∃ (fI : Addr) (fd : FuncData) (ps : List Str), findIn K (.ref C) "__init__" = some (some (.ref fI)) ∧ typeIn K (.ref fI) = some (.type "function") ∧ FnOk P w K mg base CX0 2 fI fd ps (spErr C fld) ∧ Binds K fd ps []
  noF : findIn K (.ref C) fld = some none
  ga : findIn K (.ref C) "__getattribute__" = some (some (.builtin "BaseException.__getattribute__"))
  gg : findIn K (.ref C) "__getattr__" = some none
  hdC : hasDictIn K C = true
  te : exmOne K (.ref C) (.ref C) = some true

section
variable {X : Cx} {x fld : Str} {C : Addr} {e : Expr} {te : TE} {p pos : Pos}
/-- a reading by what is known behind it -/
def tWk (te : TE) : TE := fun σ H Q => ∃ R : VK, te σ H R ∧ ∀ y H1, R y H1 → Q y H1
theorem pe_wk (he : PE X e te) : PE X e (tWk te) := ⟨fun pins s σ H Q I ⟨R, h, k⟩ => thn (he.run pins s σ H R I h) fun u s1 ⟨v, H1, I1, r, q⟩ => ⟨v, H1, I1, r, k v H1 q⟩⟩
/-- X(e) where X is such a class -/
def tMkErr (C : Addr) (fld : Str) (te : TE) : L2.St → Hp → XK → Prop := fun σ H Q => te σ H fun y H1 => ∀ d, H1 d = none → Q (.ref C) (some d) (upd H1 d (.xd [(fld, y)]))
theorem del_back {H1 : Hp} {a dx : Addr} {o o2 : HO} {fs : List (Str × V)} {E : HO} (ha : H1 a = none) (hd : dx ≠ a) : upd (L2.del (upd (upd (upd H1 a o) dx E) a o2) a) dx (.xd fs) = upd H1 dx (.xd fs) := by
  funext b
  by_cases h1 : b = dx
  · rw [h1, upd_same, upd_same]
  · rw [upd_ne h1, upd_ne h1]
    by_cases h2 : b = a
    · rw [h2, L2.del_same, ha]
    · rw [L2.del_ne h2, upd_ne h2, upd_ne h1, upd_ne h2]
theorem pmk_err (T : Err X.prog X.w X.K X.mg X.base x C fld) (hr : Room 3 X.A) (hg : Gl X x) (he : PE X e te) (hdb : (x == ("__debug__" : Str)) = false := by decide)
    (hs : starEach (e :: []) X.env = (false, eval e X.env) :: starEach [] X.env := by rfl) (hpl : (backTo pos (starEach [] X.env)).any (·.1) = false := by rfl) :
    PMk X (.Call (.Name x p) [e] [] pos) (tMkErr C fld te) := by
  obtain ⟨fI, fd, ps, iC, tI, F, b⟩ := T.init
  have base := pmk_oex (X := X) (e := e) (es := []) (p := p) (pos := pos) T.T iC tI F hr b .nil pass0 hg T.gC (pa_cons (pe_wk he) pa_nil (by exact hs)) hdb hs hpl
  intro pins s σ H Q I h
  refine base pins s σ H Q I ⟨_, h, fun y H1 k => ⟨(by decide : 1 ≤ 1000), fun a ha => ?_⟩⟩
  refine ⟨a, y, rfl, upd_same, fun dx hdx hne => ?_⟩
  have hd1 : H1 dx = none := by
    rw [upd_ne hne] at hdx
    exact hdx
  refine ⟨rfl, dx, [(fld, y)], upd_same, ?_, hd1, ?_⟩
  · rw [upd_ne hne, upd_same]
  · have q := k dx hd1
    rw [← del_back (o := exo a C none) (o2 := exo a C (some dx)) (E := exd dx [(fld, y)]) ha hne] at q
    exact q
/-- raise X(e) -/
def tRaiseErr (C : Addr) (fld : Str) (W : WX) (te : TE) : TS := fun _ σ H => tMkErr C fld te σ H fun cls d H' => W cls d σ H'
theorem ps_raiseErr {W : WX} {pos2 : Pos} (hc : X.calm = true) (T : Err X.prog X.w X.K X.mg X.base x C fld) (hr : Room 3 X.A) (tk : Takes X W) (hg : Gl X x) (he : PE X e te) (hdb : (x == ("__debug__" : Str)) = false := by decide)
    (hs : starEach (e :: []) X.env = (false, eval e X.env) :: starEach [] X.env := by rfl) (hpl : (backTo pos (starEach [] X.env)).any (·.1) = false := by rfl) :
    PS X (.Raise (some (.Call (.Name x p) [e] [] pos)) none pos2) (tRaiseErr C fld W te) := ps_raise hc tk (pmk_err T hr hg he hdb hs hpl)
/-- n.fld in an except suite, n the error that it holds -/
def tFldErr (C : Addr) (fld : Str) (a : Addr) (cls : Value) (d : Option Addr) (te : TE) : TE := fun σ H Q => te σ H fun x H1 => x = .ref a ∧ cls = .ref C ∧ ∃ (dd : Addr) (v : V), d = some dd ∧ H1 dd = some (.xd [(fld, v)]) ∧ Q v H1
theorem pe_fldErr {a : Addr} {oe : Obj} {cls : Value} {d : Option Addr} {pn : List (Addr × Obj)} (T : Err X.prog X.w X.K X.mg X.base x C fld) (hz : Zc cls d oe) (hf : ∃ vs, oe.data = .fields vs) (he : PE (X.suite a ((a, oe) :: pn)) e te)
    (hb : attributeBase e fld X.env (eval e X.env) = eval e X.env := by rfl) (hdbl : (fld == ("__class__" : Str)) = false := by decide) :
    PE (X.suite a ((a, oe) :: pn)) (.Attribute e fld pos) (tFldErr C fld a cls d te) := by
  refine ⟨fun pins s σ H Q I h => ?_⟩
  refine attr_of hb (thn (he.run pins s σ H _ I h) fun u s1 ⟨y, H1, I1, rx, ex, ec, dd, v, ed, ea, q⟩ => ?_)
  subst ex ec ed
  cases rx
  have hx : ObjOk X.prog X.w H1 s1.heap dd (.xd [(fld, v)]) := I1.hok dd _ ea
  obtain ⟨mA, hns, hr⟩ := hx
  obtain ⟨od, ho, hl⟩ := lookIn_ns hns
  have l : List.lookup fld [(fld, v)] = some v := by simp [List.lookup]
  obtain ⟨u, hu, ru⟩ := RelO.some_of (v := v) (o := mA fld) (by rw [← l]; exact hr fld)
  obtain ⟨ha, -⟩ := I1.pin (a, oe) (List.mem_append_left _ List.mem_cons_self)
  have J : PySem.W.InstAt s1.heap a oe C (some od) := ⟨ha, hz.1, by obtain ⟨vs, hv⟩ := hf; unfold PySem.W.notCls; rw [hv] <;> rfl, by rw [hz.2]; exact ho⟩
  exact HandSPX.exc_get I1.kIn J T.ga T.gg T.T.exC (PySem.W.findObj_own T.hdC T.noF rfl (by rw [hl, hu])) (handed_of ru) ⟨v, H1, I1.tok _, ru, q⟩
end
end Mv
namespace Mv
open PySem PySem.Spec PySem.W PyProof.Rows L2 NdefX
section
variable {P : Program} {w : World} {K : Frag} {mg : Str → Option Value} {base : Heap} {C fI cc cda : Addr}
/-- __init__(self, par): super().__init__(a text); self.fld = par -/
theorem init1 {CX : CXT} {qual txt fld par : Str} {params : Arguments} {scope : Scope} {ar : Arg} {p0 p1 p2 p3 p4 p5 q1 q2 q3 q4 : Pos} {j : Nat} {kV doc pm ct oc : Value} {an od : Option Addr} {osl : Array (Option Value)}
    (D : SupK P K mg C cc cda) (noF : findIn K (.ref C) fld = some none)
    (lk : K.lookup fI = some ⟨oc, od, .func (fnX "__init__" qual params [.Expr (.Call (.Attribute (.Call (.Name "super" p0) [] [] p1) "__init__" p2) [.Constant (.str txt) j p3] [] p4) p5, .Assign [.Attribute (.Name "self" q1) fld q2] (.Name par q3) q4] scope [("__class__", cc)] .none kV doc pm an (.ref cda) ct), osl⟩)
    (hcd : codeIn K (.ref cda) qual = true) (S : NScope ["self", par, "__class__"] ["self", par] ["__class__"] scope) (hks : scope.names.lookup ("super" : Str) = some .globalImplicit)
    (hpos : (p2.endLine == p4.line) = true) (hp : (params.posonlyargs ++ params.args).head? = some ar) (har : ar.arg = "self") (hdb : (par == ("__debug__" : Str)) = false) (hcl : (par == ("__classdict__" : Str)) = false) :
    FnOk P w K mg base CX 1 fI (fnX "__init__" qual params [.Expr (.Call (.Attribute (.Call (.Name "super" p0) [] [] p1) "__init__" p2) [.Constant (.str txt) j p3] [] p4) p5, .Assign [.Attribute (.Name "self" q1) fld q2] (.Name par q3) q4] scope [("__class__", cc)] .none kV doc pm an (.ref cda) ct) ["self", par] (spErr C fld) := by
  refine sup_of (k := 0) D lk hcd S hks hpos hp har (fun vs H Q E h => ?_) (fun A outer s H vs Q E F hF hr h => ?_)
  · obtain ⟨a, y, rfl, _⟩ := h
    rfl
  · obtain ⟨a, y, rfl, ha, k⟩ := h
    subst hF
    refine ⟨⟨a, rfl, ha⟩, _, pss_one (ps_ost (pv 0 rfl (.inl (S.par _ (by simp)))) (pv 1 rfl (.inl (S.par _ (by simp))) hdb hcl)), ?_⟩
    exact ⟨y, rfl, _, rfl, a, C, rfl, D.T, noF, .inl ⟨ha, fun dx hdx hne => k dx hdx hne⟩⟩
end
end Mv
namespace Mv
open PySem PySem.Spec PySem.W PySem.HandSPX PyProof.Rows
/-! ### an own exception class is called with keywords, too -/
section
variable {P : Program} {w : World} {A : Around} {E : Value → Shared → Prop} {R : Result → Shared → Prop} {h : Heap} {g : Array GenState} {d : Drawn} {t : Nat} {os : OsState}
variable {nm q : Str} {C N : Addr} {bs bm bB : List Value} {hdct : Bool} {sn : List Str} {sub : List Value} {ab : Bool} {col : Option Bool} {dd : Option Addr} {k0 k1 k2 k3 k5 : Option Value} {B nid iid : String} {kw : List (Str × Value)} {us : List Value}
theorem kwCheckType {Q : Unit → Shared → Prop} (o : h.get? C = some (excClassObj nm q C N bs bm hdct sn sub ab col dd k0 k1 k2 k3 k5 nid)) (z : Q () ⟨h, g, d, t, os⟩) : wpAny (model P w) A (checkBuiltinCall "type.__call__" ⟨.ref C :: us, kw⟩) Q E ⟨h, g, d, t, os⟩ := by
  have s3 := tc_sub
  have ty : (⟨h, g, d, t, os⟩ : Shared).TypeIs (.ref C) "type" := ⟨_, o, rfl⟩
  simp only [checkBuiltinCall, tc_kind, tc_split]
  repeat (any_goals (first | assumption | with_reducible refine wpAny_loadPart_at o ?_ | with_reducible refine wpAny_onRaise ?_ | with_reducible refine wpAny_map ?_ | wp_step))
theorem kwCheckNew (F : ExcBaseFacts B nid iid bB) (c : ∀ X : String, bm.contains (.type X) = bB.contains (.type X)) {Q : Unit → Shared → Prop} (o : h.get? C = some (excClassObj nm q C N bs bm hdct sn sub ab col dd k0 k1 k2 k3 k5 nid)) (z : Q () ⟨h, g, d, t, os⟩) :
    wpAny (model P w) A (checkBuiltinCall nid ⟨.ref C :: us, kw⟩) Q E ⟨h, g, d, t, os⟩ := by
  have e1 : (Value.ref C :: bm).contains (.type B) = true := by rw [List.contains_cons, c, F.hasB, Bool.or_true]
  have e2 := F.noStar
  simp only [checkBuiltinCall, F.newKind, F.newSplit, F.newRow]
  repeat (first | refine wpAny_loadPart_at o ?_ | (refine wpAny_isSubtype_exc o ?_; rw [e1]) | refine wpAny_staticBase_exc o ?_ | refine wpAny_madeBy_exc o ?_ | simp only [bne_self_eq_false, Bool.false_eq_true, if_false] | wp_step)
  exact z
theorem kwNew (F : ExcBaseFacts B nid iid bB) (c : ∀ X : String, bm.contains (.type X) = bB.contains (.type X)) (o : h.get? C = some (excClassObj nm q C N bs bm hdct sn sub ab col dd k0 k1 k2 k3 k5 nid)) (l : us.length ≤ sizeLine)
    (z : R (.ok (.ret (.ref (h.objs.size + 1)))) ⟨(h.push (kdv_tup us)).push (excO C h.objs.size), g, d, t, os⟩) : codeAny (model P w) A (.builtin nid ⟨.ref C :: us, kw⟩) R ⟨h, g, d, t, os⟩ := by
  have fe := F.ends
  have e1 : (Value.ref C :: bm).contains (.type B) = true := by rw [List.contains_cons, c, F.hasB, Bool.or_true]
  have e2 : (Value.ref C :: bm).contains (.type "AttributeError") = false := by rw [List.contains_cons, c, F.noAttr]; rfl
  have e3 : (Value.ref C :: bm).contains (.type "NameError") = false := by rw [List.contains_cons, c, F.noName]; rfl
  refine codeAny_builtinAt F.entry ?_
  unfold Builtin.«BaseException.__new__»
  refine PySem.wpAt_bind ?_
  show PySem.wpAt _ _ _ (stack >>= _) _ _ _
  refine PySem.wpAt_bind (PySem.wpAt_stack fun p below => PySem.wpAt_of_wpAny ?_)
  wp_walk
  refine PySem.wpAt_of_wpAny ?_
  rw [F.owner]
  repeat (first | with_reducible refine wpAny_madeHere_exc F.canon o ?_ | with_reducible refine wpAny_loadPart_at o ?_ | (with_reducible refine wpAny_isSubtype_exc o ?_; first | rw [e1] | rw [e2] | rw [e3]) | wp_step)
  show R _ _
  rw [Heap.size_push]
  exact z
theorem kwTypeCall {fI : Addr} {Q : PySem.Fin → Shared → Prop} (F : ExcBaseFacts B nid iid bB) (c : ∀ X : String, bm.contains (.type X) = bB.contains (.type X)) (o : h.get? C = some (excClassObj nm q C N bs bm hdct sn sub ab col dd k0 k1 k2 k3 k5 nid)) (l : us.length ≤ sizeLine)
    (li : Looks (model P w) h (typeLookup (.ref C) "__init__") (some (.ref fI))) (lb : ∀ self, Looks (model P w) h (bindSpecial (.ref fI) self) (.ref fI, [self]))
    (z : codeAny (model P w) A (.call (.ref fI) ⟨.ref (h.objs.size + 1) :: us, kw⟩) (fun r s' => match r with | .ok (.ret v) => v = .none ∧ Q (.done (.ret (.ref (h.objs.size + 1)))) s' | .ok _ => False | .error e => E e s') ⟨(h.push (kdv_tup us)).push (excO C h.objs.size), g, d, t, os⟩) :
    wpAny (model P w) A (Builtin.«type.__call__» ⟨.ref C :: us, kw⟩) Q E ⟨h, g, d, t, os⟩ := by
  repeat (first | with_reducible refine wpAny_loadPart_at o ?_ | with_reducible refine wpAny_madeBy_exc o ?_ | wp_step)
  refine codeAny_call_builtin_code (Code.quiet_builtin _ F.quiet) (kwCheckNew F c o ?_)
  refine kwNew F c o l ?_
  show wpAny _ _ _ _ _ _
  have kp : ∀ b u, h.get? b = some u → ((h.push (kdv_tup us)).push (excO C h.objs.size)).get? b = some u := fun b u e => Heap.get?_push_of_some _ (Heap.get?_push_of_some _ e)
  have o1 := kp _ _ o
  have oe : ((h.push (kdv_tup us)).push (excO C h.objs.size)).get? (h.objs.size + 1) = some (excO C h.objs.size) := by heap_get
  have e1 : (Value.ref C :: bm).contains (.ref C) = true := by simp
  have li1 := li.keeps kp
  have lb1 := (lb (.ref (h.objs.size + 1))).keeps kp
  unfold isInstance
  repeat (first | with_reducible refine wpAny_loadPart_at oe ?_ | (with_reducible refine wpAny_isSubtype_exc o1 ?_; rw [e1]) | wp_step)
  show wpAny _ _ (typeLookup (.ref C) _) _ _ _
  refine li1.at ?_
  refine wpAny_holding (wpAny_bind (lb1.at ?_))
  refine wpAny_bind (wpAny_call (codeAny_mono z fun r s' y => ?_))
  rcases r with e | (v | _ | _ | _) <;> first | exact y | exact y.elim | skip
  obtain ⟨rfl, y⟩ := y
  first
    | exact wpAny_pure (wpAny_pure y)
    | (wp_walk; exact y)
theorem kwCall {fI : Addr} (F : ExcBaseFacts B nid iid bB) (c : ∀ X : String, bm.contains (.type X) = bB.contains (.type X)) (o : h.get? C = some (excClassObj nm q C N bs bm hdct sn sub ab col dd k0 k1 k2 k3 k5 nid)) (l : us.length ≤ sizeLine)
    (li : Looks (model P w) h (typeLookup (.ref C) "__init__") (some (.ref fI))) (lb : ∀ self, Looks (model P w) h (bindSpecial (.ref fI) self) (.ref fI, [self]))
    (z : codeAny (model P w) (A.under (.builtin "type.__call__" ⟨.ref C :: us, kw⟩)) (.call (.ref fI) ⟨.ref (h.objs.size + 1) :: us, kw⟩) (InitBack (h.objs.size + 1) R) ⟨(h.push (kdv_tup us)).push (excO C h.objs.size), g, d, t, os⟩) :
    codeAny (model P w) A (.call (.ref C) ⟨us, kw⟩) R ⟨h, g, d, t, os⟩ := by
  have s1 := tc_lookup
  have s2 := tc_bind (.ref C)
  have ty : (⟨h, g, d, t, os⟩ : Shared).TypeIs (.ref C) "type" := ⟨_, o, rfl⟩
  refine codeAny_of_tree ?_
  show wpAny _ _ (callAny (.ref C) _) _ _ _
  repeat (any_goals (first | assumption | with_reducible refine wpAny_loadPart_at o ?_ | wp_step))
  refine ⟨rfl, ?_⟩
  refine codeAny_call_builtin_at (Code.quiet_builtin _ (by decide +kernel)) entry_typeCall (kwCheckType o (kwTypeCall F c o l li lb ?_))
  refine codeAny_mono z fun r s' y => ?_
  rcases r with e | (v | _ | _ | _) <;> exact y
end
end Mv
namespace Mv
open PySem PySem.Spec PyProof.Rows L2 NdefX
/-! ### own errors as values -/
theorem upd_back {H1 : Hp} {a dx : Addr} {o o2 o3 : HO} (n : dx ≠ a) : upd (upd (upd H1 a o) dx o2) a o3 = upd (upd H1 dx o2) a o3 := by
  funext b
  by_cases h1 : b = a
  · rw [h1, upd_same, upd_same]
  · rw [upd_ne h1, upd_ne h1]
    by_cases h2 : b = dx
    · rw [h2, upd_same, upd_same]
    · rw [upd_ne h2, upd_ne h2, upd_ne h1]
section
variable {X : Cx} {pins : List (Addr × Obj)} {σ : L2.St} {H : Hp} {s : Shared} {C fI : Addr} {k : Nat} {fd : FuncData} {ps : List Str} {sp : Sp}
theorem run_mkV {Q : VK} {us xs : List Value} {kw : List (Str × Value)} {vs : List V} (T : OexC X.K C) (iC : PySem.W.findIn X.K (.ref C) "__init__" = some (some (.ref fI))) (tI : PySem.W.typeIn X.K (.ref fI) = some (.type "function"))
    (F1 : FnOk X.prog X.w X.K X.mg X.base CX0 k fI fd ps sp) (hr : Room (k + 1) X.A) (hb : ∀ (s : Shared) (a : Addr), X.K.In s.heap → BindsTo s fd ⟨.ref a :: us, kw⟩ (ps.zip (.ref a :: xs))) (r : Vals vs xs) (hl : us.length ≤ sizeLine) (I : Inv X pins σ H s)
    (h : ∀ a, H a = none → sp (.ref a :: vs) (upd H a (exo a C none)) (fun v H2 => v = .non ∧ Q (.ref a) H2) (fun _ _ _ => False)) : wpAny (model X.prog X.w) X.A (call (.ref C) us kw) (EP X pins σ Q) X.xe s := by
  obtain ⟨nm, q, N, bs, bm, sn, sub, ab, col, dd, k0, k1, k2, k3, k5, hC, hbm⟩ := T.cls
  obtain ⟨hp, g, dr, tk, os⟩ := s
  have hsz : hp.objs.size ≤ hp.objs.size + 1 := Nat.le_succ _
  have hq := h (hp.objs.size + 1) (I.hok.fresh hsz)
  have kk : ∀ b o, hp.get? b = some o → ((hp.push (PySem.W.kdv_tup us)).push (PySem.HandSPX.excO C hp.objs.size)).get? b = some o := fun b o e => Heap.get?_push_of_some _ (Heap.get?_push_of_some _ e)
  have at1 : ((hp.push (PySem.W.kdv_tup us)).push (PySem.HandSPX.excO C hp.objs.size)).get? (hp.objs.size + 1) = some (PySem.HandSPX.excO C hp.objs.size) := by heap_get
  have I2 : Inv X pins σ (upd H (hp.objs.size + 1) (exo (hp.objs.size + 1) C none)) ⟨(hp.push (PySem.W.kdv_tup us)).push (PySem.HandSPX.excO C hp.objs.size), g, dr, tk, os⟩ :=
    I.laid (t' := tk) (a := hp.objs.size + 1) (o := exo (hp.objs.size + 1) C none) kk hsz (exo_ok at1)
  have r2 : Vals (V.ref (hp.objs.size + 1) :: vs) (Value.ref (hp.objs.size + 1) :: xs) := .cons rfl r
  refine wpAny_call (kwCall PySem.F.excBase_ValueError (fun Y => PySem.HandSPX.refsVE_contains Y bm hbm) (I.kIn _ _ hC) hl (PySem.W.looks_findIn I.kIn iC) (fun self => PySem.W.bind_fn I.kIn self tI)
    (codeAny_mono (F1.run _ X.stack _ _ ⟨Value.ref (hp.objs.size + 1) :: us, kw⟩ (Value.ref (hp.objs.size + 1) :: xs) _ _ (fun _ _ _ => False) (hr.make C us kw) (I2.env0.make C us kw) (hb _ _ I2.kIn) r2 hq) fun r s' z => ?_))
  cases r with
  | error er => exact False.elim z
  | ok fl =>
    cases fl with
    | ret u =>
      obtain ⟨v, H2, I3, rv, ev, q3⟩ := I2.after z
      subst ev
      exact ⟨rv, V.ref (hp.objs.size + 1), H2, I3, rfl, q3⟩
    | next => exact False.elim z
    | brk => exact False.elim z
    | cont => exact False.elim z
end
/-- an own error class of one field, whose objects are kept -/
structure ErrV (P : Program) (w : World) (K : PySem.W.Frag) (mg : Str → Option Value) (base : Heap) (x : Str) (C : Addr) (fld : Str) (par : Str) : Prop where
  gC : mg x = some (.ref C)
  T : OexC K C
  init : ∃ (fI : Addr) (fd : FuncData) (ps : List Str), PySem.W.findIn K (.ref C) "__init__" = some (some (.ref fI)) ∧ PySem.W.typeIn K (.ref fI) = some (.type "function") ∧ FnOk P w K mg base CX0 2 fI fd ps (spErr C fld) ∧
    (∀ (s : Shared) (u v : Value), BindsTo s fd ⟨[u, v], []⟩ (ps.zip [u, v])) ∧ ∀ (s : Shared) (u v : Value), BindsTo s fd ⟨[u], [(par, v)]⟩ (ps.zip [u, v])
/-- a new error with this field -/
def onlyV (C : Addr) (fld : Str) (Q : VK) : List V → Hp → Prop
  | [y], H1 => ∀ a d, H1 a = none → H1 d = none → d ≠ a → Q (.ref a) (upd (upd H1 d (exd d [(fld, y)])) a (exo a C (some d)))
  | _, _ => False
theorem onlyV_one {C : Addr} {fld : Str} {Q : VK} {vs : List V} {us : List Value} {H1 : Hp} (r : Vals vs us) (h : onlyV C fld Q vs H1) : ∃ y u, vs = [y] ∧ us = [u] ∧ RelV y u ∧ ∀ a d, H1 a = none → H1 d = none → d ≠ a → Q (.ref a) (upd (upd H1 d (exd d [(fld, y)])) a (exo a C (some d))) := by
  cases r with
  | nil => exact h.elim
  | cons ru rr =>
    cases rr with
    | nil => exact ⟨_, _, rfl, rfl, ru, h⟩
    | cons _ _ => exact h.elim
def tMkV (C : Addr) (fld : Str) (te : TE) : TE := fun σ H Q => te σ H fun y H1 => ∀ a d, H1 a = none → H1 d = none → d ≠ a → Q (.ref a) (upd (upd H1 d (exd d [(fld, y)])) a (exo a C (some d)))
section
variable {X : Cx} {x fld par : Str} {C : Addr} {e : Expr} {te : TE} {p pos kpos : Pos}
theorem spErr_of {H1 : Hp} {y : V} {Q : VK} {a : Addr} {E : XK} (n : H1 a = none) (k : ∀ a d, H1 a = none → H1 d = none → d ≠ a → Q (.ref a) (upd (upd H1 d (exd d [(fld, y)])) a (exo a C (some d)))) :
    spErr C fld [.ref a, y] (upd H1 a (exo a C none)) (fun v H2 => v = .non ∧ Q (.ref a) H2) E := by
  refine ⟨a, y, rfl, upd_same, fun dx hdx hne => ⟨rfl, ?_⟩⟩
  rw [upd_back hne]
  rw [upd_ne hne] at hdx
  exact k a dx n hdx hne
theorem tMkV_ask {σ : L2.St} {H : Hp} {Q : VK} (h : tMkV C fld te σ H Q) : tCons te tNil σ H (onlyV C fld Q) := h
theorem pe_mkV (T : ErrV X.prog X.w X.K X.mg X.base x C fld par) (hr : Room 3 X.A) (hg : Gl X x) (he : PE X e te) (hdb : (x == ("__debug__" : Str)) = false := by decide)
    (hs : starEach (e :: []) X.env = (false, eval e X.env) :: starEach [] X.env := by rfl) (hpl : (backTo pos (starEach [] X.env)).any (·.1) = false := by rfl) : PE X (.Call (.Name x p) [e] [] pos) (tMkV C fld te) := by
  obtain ⟨fI, fd, ps, iC, tI, F, b1, b2⟩ := T.init
  refine ⟨fun pins s σ H Q I h => ?_⟩
  refine wpAny_Call_Name_kw (ld_glob I hg T.gC ?_ hdb)
  refine PySem.W.callWith_K (h₀ := X.base) I.ok.mod.kin T.T.kC (thn ((pa_cons he pa_nil hs).run pos pins s σ H (onlyV C fld Q) I ?_) fun us s1 ⟨vs, H1, I1, r, q⟩ => ⟨I1.kIn, ?_⟩) hs hpl
  · exact tMkV_ask h
  · obtain ⟨y, u, rfl, rfl, ru, k⟩ := onlyV_one r q
    exact run_mkV (us := [u]) (xs := [u]) (kw := []) (vs := [y]) T.T iC tI F hr (fun s a _ => b1 s _ _) (.cons ru .nil) (by show 1 ≤ sizeLine; decide) I1 fun a n => spErr_of n k
theorem pe_mkVK (T : ErrV X.prog X.w X.K X.mg X.base x C fld par) (hr : Room 3 X.A) (hg : Gl X x) (he : PE X e te) (hdb : (x == ("__debug__" : Str)) = false := by decide) (hall : (backToKw pos (keywordEach [⟨some par, e, kpos⟩] X.env)).all (·.1.isSome) = true := by rfl)
    (hks : (backToKw pos (keywordEach [⟨some par, e, kpos⟩] X.env)).filterMap (·.1) = [par] := by rfl) (hpl : ((backTo pos (starEach [] X.env)).any (·.1) || (backToKw pos (keywordEach [⟨some par, e, kpos⟩] X.env)).any (·.1.isNone)) = false := by rfl) :
    PE X (.Call (.Name x p) [] [⟨some par, e, kpos⟩] pos) (tMkV C fld te) := by
  obtain ⟨fI, fd, ps, iC, tI, F, b1, b2⟩ := T.init
  refine ⟨fun pins s σ H Q I h => ?_⟩
  refine wpAny_Call_Name_kw (ld_glob I hg T.gC ?_ hdb)
  refine PySem.W.callWith_KW0 (h₀ := X.base) I.ok.mod.kin T.T.kC hall (thn ((pk_cons he pk_nil).run pos pins s σ H (onlyV C fld Q) I (tMkV_ask h)) fun us s1 ⟨vs, H1, I1, r, q⟩ => ⟨I1.kIn, ?_⟩) hpl
  obtain ⟨y, u, rfl, rfl, ru, k⟩ := onlyV_one r q
  rw [hks]
  exact run_mkV (us := []) (xs := [u]) (kw := [(par, u)]) (vs := [y]) T.T iC tI F hr (fun s a _ => b2 s _ _) (.cons ru .nil) (by show 0 ≤ sizeLine; decide) I1 fun a n => spErr_of n k
end
/-- an own error class of no field -/
def spErr0 (C : Addr) : Sp := fun vs H Q _ => ∃ a : Addr, vs = [.ref a] ∧ H a = some (exo a C none) ∧ Q .non H
structure ErrV0 (P : Program) (w : World) (K : PySem.W.Frag) (mg : Str → Option Value) (base : Heap) (x : Str) (C : Addr) : Prop where
  gC : mg x = some (.ref C)
  T : OexC K C
  init : ∃ (fI : Addr) (fd : FuncData) (ps : List Str), PySem.W.findIn K (.ref C) "__init__" = some (some (.ref fI)) ∧ PySem.W.typeIn K (.ref fI) = some (.type "function") ∧ FnOk P w K mg base CX0 2 fI fd ps (spErr0 C) ∧ ∀ (s : Shared) (u : Value), BindsTo s fd ⟨[u], []⟩ (ps.zip [u])
def tMkV0 (C : Addr) : TE := fun _ H Q => ∀ a, H a = none → Q (.ref a) (upd H a (exo a C none))
theorem pe_mkV0 {X : Cx} {x : Str} {C : Addr} {p pos : Pos} (T : ErrV0 X.prog X.w X.K X.mg X.base x C) (hr : Room 3 X.A) (hg : Gl X x) (hdb : (x == ("__debug__" : Str)) = false := by decide) : PE X (.Call (.Name x p) [] [] pos) (tMkV0 C) := by
  obtain ⟨fI, fd, ps, iC, tI, F, b1⟩ := T.init
  refine ⟨fun pins s σ H Q I h => ?_⟩
  refine wpAny_Call_Name_kw (ld_glob I hg T.gC ?_ hdb)
  refine PySem.W.callWith_K0 I.kIn T.T.kC ?_
  exact run_mkV (us := []) (xs := []) (kw := []) (vs := []) T.T iC tI F hr (fun s a _ => b1 s _) .nil (by show 0 ≤ sizeLine; decide) I fun a n => ⟨a, rfl, upd_same, rfl, h a n⟩
end Mv
namespace Mv
open PySem PySem.Spec PySem.W PySem.Calls PyProof.Rows L2
/-! ### isinstance of an error that is kept, its dict laid or not -/
section
variable {P : Program} {w : World} {A : Around} {E : Value → Shared → Prop} {s : Shared} {K : Frag} {x D : Addr} {ox : Obj} {od : Option Obj}
theorem dataAny {C : Addr} {nm : Str} {a g : Value} (c : (clsIn K C).isSome = true) (f : findIn K (.ref C) nm = some (some a)) (y : specialIn K a "__get__" = some (some g)) (t : takesIn K a = some true) : findObj K C od nm = some (.bind g a) := by
  obtain ⟨cd, e⟩ := Option.isSome_iff_exists.mp c
  unfold findObj
  rw [e, Option.bind_some, f, Option.bind_some]
  simp [y, t]
theorem classOfV {Q : Option Value → Shared → Prop} (c : ExcC K D) (X : K.In s.heap) (I : InstAt s.heap x ox D od) (z : Q (some (.ref D)) { s with toks := s.toks + 1 }) : wpAny (model P w) A (getAttr? (.ref x) "__class__") Q E s := by
  have fo : findObj K D od "__class__" = some (.bind (.builtin "getset_descriptor.__get__") (.builtin "object.__class__")) :=
    dataAny (by obtain ⟨cd, e, _⟩ := any_some c.hd; rw [e]; rfl) c.ha c.hn c.ht
  obtain ⟨hh, gg, dw, tk, os⟩ := s
  have M0 := I.type (M := model P w)
  have M1 := looks_findIn (M := model P w) X c.hg
  have M2 := looks_findIn (M := model P w) X c.hk
  have M3 := looks_find (M := model P w) X I fo
  have isB : Looks (model P w) hh (isInstance (.ref x) (.type "BaseException")) true := M0.andThen (looks_subIn X c.hs)
  have u0 : (false && onTheHeap (Value.builtin "BaseException.__getattribute__")) = false := rfl
  have u2 : (Value.builtin "BaseException.__getattribute__" == Value.builtin "object.__getattribute__") = false := by decide +kernel
  have u1 : (onTheHeap (Value.ref D) && Value.builtin "BaseException.__getattribute__" == Value.builtin "object.__getattribute__") = false := by rw [u2]; rfl
  unfold getAttr? getAttrBy? getAttrBy
  refine wpAny_bind (wpAny_mkText (wpAny_bind (wpAny_attempt (wpAny_holding (wpAny_bind (M0.at (wpAny_bind (M1.at ?_))))))))
  show wpAny _ _ (if (onTheHeap (Value.ref D) && Value.builtin "BaseException.__getattribute__" == Value.builtin "object.__getattribute__") = true then _ else _) _ _ _
  rw [u1, if_neg Bool.false_ne_true]
  unfold getAttrByItsOwn hookBefore
  refine wpAny_bind ?_
  rw [if_pos (show onTheHeap (Value.ref D) = true from rfl)]
  refine M2.at ?_
  refine wpAny_bind (wpAny_attempt (wpAny_holding ?_))
  unfold callGetattribute
  rw [u0, if_neg Bool.false_ne_true]
  unfold boundAndCalled
  rw [PySem.F.excAttr_ValueError.ga.bind (.ref x)]
  refine wpAny_bind (wpAny_pure ?_)
  show wpAny _ _ (call (.builtin "BaseException.__getattribute__") [.ref x, .str "__class__" tk]) _ _ _
  refine wpAny_call (codeAny_call_builtin PySem.F.excAttr_ValueError.ga.plain PySem.F.entry_bexc_ga ?_)
  refine @check_slot (model P w) _ _ ⟨hh, gg, dw, tk + 1, os⟩ "BaseException.__getattribute__" "BaseException" "__getattribute__" (.ref x) [.str "__class__" tk] [] _ (by decide +kernel) (by decide +kernel) isB (PySem.F.args_bexc_ga (.ref x) (.str "__class__" tk)) ?_
  unfold Builtin.«object.__getattribute__»
  refine wpAny_bind (wpAny_of_eq (a := ((Value.ref x : Value), [Value.str "__class__" tk])) (by first | rfl | (simp only [slotArgs]; rfl)) ?_)
  refine wpAny_bind (wpAny_pure (wpAny_bind (M0.at (wpAny_bind (M3.at ?_)))))
  show wpAny _ _ (holding [Value.builtin "object.__class__"] (call (.builtin "getset_descriptor.__get__") [.builtin "object.__class__", .ref x, .ref D]) >>= ret) _ _ _
  refine wpAny_bind (wpAny_holding (wpAny_call (class_get (s := ⟨hh, gg, dw, tk + 1, os⟩) (ox := ox) (od := od) X I c.hm ?_)))
  refine wpAny_pure ?_
  show wpAny _ _ (handedOut (.ref D)) _ _ _
  rw [handedOut_of (v := .ref D) rfl]
  first
    | exact wpAny_pure (wpAny_pure z)
    | exact wpAny_pure z
    | exact wpAny_pure (wpAny_bind (wpAny_pure (wpAny_pure z)))
theorem kitV (c : ExcC K D) : KitX K (.ref x) (.ref D) (fun h => InstAt h x ox D od) where
  ty := fun _ _ _ I => I.type
  it := fun _ _ X _ => by
    obtain ⟨cd, e, _⟩ := any_some c.hd
    unfold clsIn at e
    split at e
    · rename_i q1 q2 q3 q4 ho
      intro A' Q' E' s' k z
      unfold isType loadHead
      exact wpAny_bind (wpAny_loadPart (k _ _ (X _ _ ho)) (wpAny_pure z))
    · cases e
  ne := fun h tp dd its n sl X htp => by
    obtain ⟨cd, e, _⟩ := any_some c.hd
    refine Bool.eq_false_iff.mpr fun z => ?_
    have e2 : D = tp := Value.ref.inj (beq_iff_eq.mp z)
    subst e2
    unfold clsIn at e
    split at e
    · rename_i q1 q2 q3 q4 ho
      have y := (X _ _ ho).symm.trans htp
      cases y
    · cases e
  ca := fun X I k => classOfV c X I k
end
/-- isinstance(e, c), e an error that is kept -/
def rIsV (K : Frag) : List V → Hp → VK → Prop := fun xs H Q => ∃ (a D : Addr) (d : Option Addr) (c : V) (cv : Value) (b : Bool), xs = [.ref a, c] ∧ H a = some (exo a D d) ∧ ExcC K D ∧ (∀ e, d = some e → ∃ fs, H e = some (exd e fs)) ∧ (∀ u, RelV c u → u = cv) ∧ kitOne K (.ref D) cv = some b ∧ Q (.bl b) H
theorem call_isV {X : Cx} : CallR X (.builtin "isinstance") (rIsV X.K) := by
  intro pins s σ H xs us Q I r h
  obtain ⟨a, D, d, c, cv, b, rfl, ha, hc, hd, hcv, e, q⟩ := h
  cases r with
  | cons rx rr =>
    cases rr with
    | cons rt rr =>
      cases rr
      cases rx
      have ec := hcv _ rt
      subst ec
      obtain ⟨t1, ho⟩ := exo_at I.hok ha
      have J : ∃ od, InstAt s.heap a ({ cls := .ref D, dict := d, data := .fields #[.ref t1, .none, .none, .none, .bool false, .none] } : Obj) D od := by
        cases d with
        | none => exact ⟨none, ho, rfl, rfl, trivial⟩
        | some dx =>
          obtain ⟨fs, hx⟩ := hd dx rfl
          obtain ⟨mA, hns, _⟩ := exd_at I.hok hx
          obtain ⟨od, h1, _⟩ := lookIn_ns hns
          exact ⟨some od, ho, rfl, rfl, h1⟩
      obtain ⟨od, J⟩ := J
      exact kia_one (kitV hc) I.kIn J e (fun z => nomatch z) fun tk => ⟨.bl b, H, I.kept (t' := tk) fun _ _ z => z, rfl, q⟩
/-- e.f, e an error that is kept -/
def tFldV (K : Frag) (fld : Str) (te : TE) : TE := fun σ H Q => te σ H fun x H1 => ∃ (a C dx : Addr) (fs : List (Str × V)) (v : V), x = .ref a ∧ H1 a = some (exo a C (some dx)) ∧ H1 dx = some (exd dx fs) ∧ ExcC K C ∧ findIn K (.ref C) fld = some none ∧ fs.lookup fld = some v ∧ Q v H1
theorem pe_fldV {X : Cx} {fld : Str} {e : Expr} {te : TE} {pos : Pos} (he : PE X e te) (hb : attributeBase e fld X.env (eval e X.env) = eval e X.env := by rfl) (hdbl : (fld == ("__class__" : Str)) = false := by decide) : PE X (.Attribute e fld pos) (tFldV X.K fld te) := by
  refine ⟨fun pins s σ H Q I h => ?_⟩
  refine attr_of hb (thn (he.run pins s σ H _ I h) fun u s1 ⟨y, H1, I1, rx, a, C, dx, fs, v, ex, ha, hx, hc, hno, hl, q⟩ => ?_)
  subst ex
  cases rx
  obtain ⟨t1, ho⟩ := exo_at I1.hok ha
  obtain ⟨mA, hns, hr⟩ := exd_at I1.hok hx
  obtain ⟨od, hd, lk⟩ := lookIn_ns hns
  obtain ⟨u, hu, ru⟩ := RelO.some_of (v := v) (o := mA fld) (by rw [← hl]; exact hr fld)
  have J : InstAt s1.heap a ({ cls := .ref C, dict := some dx, data := .fields #[.ref t1, .none, .none, .none, .bool false, .none] } : Obj) C (some od) := ⟨ho, rfl, rfl, hd⟩
  exact HandSPX.exc_get I1.kIn J hc.hg hc.hk hc.hs (findObj_own hc.hd hno rfl (by rw [lk, hu])) (handed_of ru) ⟨v, H1, I1.tok _, ru, q⟩
end Mv
namespace Mv
open PySem PySem.Spec PyProof.Rows L2 LamX NdefX
/-! ### a lambda that captures nothing, kept as a value and called later -/
structure LamF where
  qual : Str
  params : Arguments
  body : Expr
  scope : Scope
  c : Addr
def LamO (f : Addr) (F : LamF) : HO := .ext fun h => ∃ pm ctv : Value, h.get? f = some (PySem.W.kla_obj "<lambda>" F.qual F.params F.body F.scope [] pm F.c ctv)
theorem lamO_nt {f : Addr} {F : LamF} (ps : Array Value) : LamO f F ≠ .tbl ps := fun z => by
  unfold LamO at z
  cases z
theorem lamO_ok {P : Program} {w : World} {H : Hp} {h : Heap} {f : Addr} {F : LamF} {pm ctv : Value} (e : h.get? f = some (PySem.W.kla_obj "<lambda>" F.qual F.params F.body F.scope [] pm F.c ctv)) : ObjOk P w H h f (LamO f F) :=
  ⟨⟨pm, ctv, e⟩, ⟨_, e⟩, fun h1 h2 ⟨pm, ctv, a⟩ st => ⟨pm, ctv, st _ a⟩⟩
theorem lamO_at {P : Program} {w : World} {H : Hp} {h : Heap} {f : Addr} {F : LamF} (hok : HOk P w H h) (e : H f = some (LamO f F)) : ∃ pm ctv : Value, h.get? f = some (PySem.W.kla_obj "<lambda>" F.qual F.params F.body F.scope [] pm F.c ctv) := (hok f _ e).1
/-- no name of it is captured -/
theorem clo_nil {cells : List (Str × Addr)} : ∀ {names : List (Str × NameKind)}, (∀ y ∈ names, y.2 ≠ .free) → cloFrom cells names [] = []
  | [], _ => rfl
  | (n, k) :: r, h => by
    unfold cloFrom
    have hk : ¬ (k == NameKind.free) = true := fun z => h (n, k) List.mem_cons_self (beq_iff_eq.mp z)
    rw [if_neg hk]
    exact clo_nil fun y hy => h y (List.mem_cons_of_mem _ hy)
section
variable {X : Cx} {pins : List (Addr × Obj)} {σ : L2.St} {H : Hp} {s : Shared}
theorem lam_val {T : List (Addr × Str)} {c P : Addr} {params : Arguments} {body : Expr} {scope : Scope} {pos : Pos} {Q : VK} (I : Inv X pins σ H s) (TB : TabB X.base X.mg c P) (hcode : X.env.code = .ref c) (hm : (P, X.env.qual ++ "<lambda>") ∈ T) (hu : ∀ p ∈ T, p.1 = P → p.2 = X.env.qual ++ "<lambda>") (hT : Tabs T H)
    (hdef : defaultsOf params X.env = ([], [])) (hfr : ∀ y ∈ scope.names, y.2 ≠ .free)
    (k : ∀ (f c' : Addr) (H1 : Hp), ExtN H H1 → Tabs T H1 → H1 f = none → H1 c' = some (CodeO c' (X.env.qual ++ "<lambda>")) → Q (.ref f) (upd H1 f (LamO f ⟨X.env.qual ++ "<lambda>", params, body, scope, c'⟩))) :
    wpAny (model X.prog X.w) X.A (eval (.Lambda params body scope pos) X.env) (EP X pins σ Q) X.xe s := by
  obtain ⟨ps, hP, ht, ha⟩ := hT _ hm
  have hcl : closureFor scope X.env = pure [] := by
    rw [closure_ok fun y hy e => absurd e (hfr y hy), clo_nil hfr]
  have hP' : s.heap.get? P = some { cls := .none, data := .fields ps } := I.hok P _ hP
  have fin : ∀ {h' : Heap} {tk : Nat} {H1 : Hp} {c' : Addr} {ctv : Value}, Inv X pins σ H1 { s with heap := h', toks := tk } → ExtN H H1 → Tabs T H1 → H1 c' = some (CodeO c' (X.env.qual ++ "<lambda>")) →
      EP X pins σ Q (.ref h'.objs.size) { s with heap := h'.push (PySem.W.kla_obj "<lambda>" (X.env.qual ++ "<lambda>") params body scope [] ((X.mg "__name__").getD .none) c' ctv), toks := tk } := fun {h' tk H1 c' ctv} I1 e1 t1 hc => by
    have n1 : H1 h'.objs.size = none := I1.hok.fresh (Nat.le_refl _)
    have I2 : Inv X pins σ (upd H1 h'.objs.size (LamO h'.objs.size ⟨X.env.qual ++ "<lambda>", params, body, scope, c'⟩)) { s with heap := h'.push (PySem.W.kla_obj "<lambda>" (X.env.qual ++ "<lambda>") params body scope [] ((X.mg "__name__").getD .none) c' ctv), toks := tk } :=
      I1.laid (t' := tk) (a := h'.objs.size) (fun b o e => Heap.get?_push_of_some _ e) (Nat.le_refl _) (lamO_ok (pm := (X.mg "__name__").getD .none) (ctv := ctv) (Heap.get?_push_size _ rfl))
    exact ⟨.ref h'.objs.size, _, I2, rfl, k _ c' H1 e1 t1 n1 hc⟩
  refine PySem.W.kla_eval hdef ?_
  have bP : s.heap.BuiltinsAt X.mg P := TB.bm.keeps I.bk
  cases hc : codeAmong pos ps.toList with
  | none =>
    refine PySem.W.kla_makeFunction (mg := X.mg) (c := c) (P := P) (ps := ps) hcl I.ok.glob (I.mod.glob.keeps I.bk) hcode (TB.code.keeps I.bk) hP' ht hc TB.gP bP fun c' ctv h' tk hx hge hlt hrec htb => ?_
    obtain ⟨c2, oc, vs, t, e2, hoc, hd, hv⟩ := hrec
    cases e2
    have nC : H c' = none := I.hok.fresh hge
    have I1 := inv_table (t' := tk) (more := #[rawInt pos.line, rawInt pos.col, .ref c']) (h' := h') I hP hx htb hge ⟨oc, vs, t, hoc, hd, hv⟩
    have hE : ExtN H (upd (upd H P (.tbl (ps ++ #[rawInt pos.line, rawInt pos.col, .ref c']))) c' (CodeO c' (X.env.qual ++ "<lambda>"))) := fun b o e n => by
      have nb : b ≠ P := fun z => n ps (Option.some.inj (e.symm.trans (by rw [z]; exact hP)))
      rw [upd_ne (ne_of_none e nC), upd_ne nb]
      exact e
    have eL : (ps ++ #[rawInt pos.line, rawInt pos.col, .ref c']).toList = ps.toList ++ [rawInt pos.line, rawInt pos.col, .ref c'] := by simp
    refine fin I1 hE (fun p hp => ?_) upd_same
    by_cases hb : p.1 = P
    · rw [hu p hp hb, hb]
      refine ⟨_, by rw [upd_ne (ne_of_none hP nC), upd_same], by rw [eL]; exact PySem.TriplesOk_snoc _ _ _ _ ht, fun p' cv hcv => ?_⟩
      rw [eL] at hcv
      rcases among_app _ ht hcv with z | z
      · obtain ⟨c0, e1, e2⟩ := ha p' cv z
        exact ⟨c0, e1, hE _ _ e2 codeO_ne⟩
      · exact ⟨c', z, upd_same⟩
    · obtain ⟨ps', a1, a2, a3⟩ := hT p hp
      refine ⟨ps', by rw [upd_ne (ne_of_none a1 nC), upd_ne hb]; exact a1, a2, fun p' cv hcv => ?_⟩
      obtain ⟨c0, e1, e2⟩ := a3 p' cv hcv
      exact ⟨c0, e1, hE _ _ e2 codeO_ne⟩
  | some cv =>
    obtain ⟨c', e, hco⟩ := ha pos cv hc
    subst e
    refine PySem.W.kla_makeFunctionHit (mg := X.mg) (c := c) (P := P) (ps := ps) hcl I.ok.glob (I.mod.glob.keeps I.bk) hcode (TB.code.keeps I.bk) hP' ht hc bP fun ctv h' tk hx hsz => ?_
    exact fin (I.kept (t' := tk) hx) (ExtN.refl H) hT hco
/-- lambda x: body, as a value -/
def tLamV (T : List (Addr × Str)) (q : Str) (params : Arguments) (body : Expr) (scope : Scope) : TE := fun _ H Q => Tabs T H ∧ ∀ (f c' : Addr) (H1 : Hp), ExtN H H1 → Tabs T H1 → H1 f = none → H1 c' = some (CodeO c' q) → Q (.ref f) (upd H1 f (LamO f ⟨q, params, body, scope, c'⟩))
theorem pe_lamV {T : List (Addr × Str)} {c P : Addr} {q : Str} {params : Arguments} {body : Expr} {scope : Scope} {pos : Pos} (TB : TabB X.base X.mg c P) (hcode : X.env.code = .ref c) (hq : X.env.qual ++ "<lambda>" = q) (hm : (P, q) ∈ T) (hu : ∀ p ∈ T, p.1 = P → p.2 = q) (hdef : defaultsOf params X.env = ([], []))
    (hfr : ∀ y ∈ scope.names, y.2 ≠ .free) : PE X (.Lambda params body scope pos) (tLamV T q params body scope) := by
  subst hq
  exact ⟨fun pins s σ H Q I ⟨hT, h⟩ => lam_val I TB hcode hm hu hT hdef hfr h⟩
/-- such a lambda is called -/
theorem run_lamV {F : LamF} {f : Addr} {N ps : List Str} {k : Nat} {tb : TE} {us : List Value} {vs : List V} {Q : VK} (S : NScope N ps [] F.scope) (hr : Room (k + 1) X.A) (hbind : ∀ (pm ctv : Value) (us : List Value), us.length = ps.length → bindArgs (PySem.W.kla_fn "<lambda>" F.qual F.params F.body F.scope [] pm (.ref F.c) ctv) ⟨us, []⟩ = pure (ps.zip us))
    (hbody : ∀ (A : Around) (outer : List Env) (s : Shared) (H : Hp), Room k (A.deeper (envF ⟨"<lambda>", F.qual, F.params, [], F.scope, [], F.c⟩ f s.heap.objs.size)) → PE (ncx CX0 X.prog X.w X.K X.mg X.base N ⟨"<lambda>", F.qual, F.params, [], F.scope, [], F.c⟩ f A outer s H (fun _ _ _ => False)) F.body tb)
    (I : Inv X pins σ H s) (hf : H f = some (LamO f F)) (hc : H F.c = some (CodeO F.c F.qual)) (hl : vs.length = ps.length) (r : Vals vs us) (ht : tb (startF N vs []) H Q) : wpAny (model X.prog X.w) X.A (call (.ref f) us) (EP X pins σ Q) X.xe s := by
  obtain ⟨pm, ctv, of⟩ := lamO_at I.hok hf
  obtain ⟨⟨oc, cvs, t, hoc, hdc, hvc⟩, _, _⟩ := I.hok F.c _ hc
  have e0 := I.env0
  have rc : codeAny (model X.prog X.w) X.A (.call (.ref f) ⟨us, []⟩) (CR CX0 X.stack X.prog X.w H s Q (fun _ _ _ => False)) s := by
    refine PySem.W.kla_callFunE hr.depth of rfl S.co S.gen rfl ⟨F.c, oc, cvs, t, rfl, hoc, hdc, hvc⟩ ?_
    rw [hbind pm ctv us (by rw [← r.length]; exact hl)]
    refine wpAny_pure (wpAny_newFunctionEnv S.nocell (fun ⟨n, _⟩ hy => S.par n (List.of_mem_zip hy).1) (fun h₁ hns hsb => ⟨I.nolimit.fresh _ hsb, ?_⟩) S.kind)
    have kp : ∀ b o, s.heap.get? b = some o → h₁.get? b = some o := fun b o e => hsb.extBut b o (Nat.ne_of_lt (Heap.lt_size e)) (Heap.get?_push_of_some _ e)
    have CA : CellsAt ([] : List (Str × Addr)) [] [] s.heap H := ⟨rfl, fun y c e => (nomatch e), fun x y c e1 e2 => (nomatch e1), fun i y e => (nomatch e)⟩
    have J := inv_startN (N := N) (ps := ps) (fr := []) (F := ⟨"<lambda>", F.qual, F.params, [], F.scope, [], F.c⟩) (f := f) (CX := CX0) (E := fun _ _ _ => False) (tk := s.toks + (ps.zip us).length) S hr.hd e0 hl r CA hns kp
    refine PySem.W.kla_codeExpr (wpAny_mono ((hbody _ _ s H (hr.deeper _)).run [] _ _ H Q J ht) (fun v s' hq => ?_) fun e s' hq => hq)
    obtain ⟨w', H', J', rv, q⟩ := hq
    exact ⟨w', H', J'.os, J'.bare, J'.base, J'.hok, rv, q⟩
  refine wpAny_call (codeAny_mono rc fun r s' z => ?_)
  cases r with
  | error e => exact (show False from z).elim
  | ok fl =>
    cases fl with
    | ret u => exact I.after z
    | next => exact False.elim z
    | brk => exact False.elim z
    | cont => exact False.elim z
end
end Mv
namespace Mv
open PySem PySem.Spec PyProof.Rows L2 LamX NdefX
/-- lambda par: par.fld -/
structure FldLam (F : LamF) (fld : Str) : Prop where
  ex : ∃ (par : Str) (p1 p2 : Pos), F.body = .Attribute (.Name par p1) fld p2 ∧ NScope [par] [par] [] F.scope ∧ (par == ("__debug__" : Str)) = false ∧ (par == ("__classdict__" : Str)) = false ∧ (fld == ("__class__" : Str)) = false ∧
    ∀ (pm ctv : Value) (us : List Value), us.length = 1 → bindArgs (PySem.W.kla_fn "<lambda>" F.qual F.params F.body F.scope [] pm (.ref F.c) ctv) ⟨us, []⟩ = pure (([par] : List Str).zip us)
def tCallFld (K : PySem.W.Frag) (i : Nat) (te : TE) : TE := fun σ H Q => ∃ (f : Addr) (F : LamF) (fld : Str), FldLam F fld ∧ σ[i]? = some (some (.ref f)) ∧ H f = some (LamO f F) ∧ te σ H fun y H1 => ∃ (a C dx : Addr) (fs : List (Str × V)) (v : V), H1 f = some (LamO f F) ∧ H1 F.c = some (CodeO F.c F.qual) ∧
  y = .ref a ∧ H1 a = some (exo a C (some dx)) ∧ H1 dx = some (exd dx fs) ∧ ExcC K C ∧ PySem.W.findIn K (.ref C) fld = some none ∧ fs.lookup fld = some v ∧ Q v H1
def One (R : V → Hp → Prop) : List V → Hp → Prop
  | [y], H1 => R y H1
  | _, _ => False
theorem one_of {R : V → Hp → Prop} {vs : List V} {us : List Value} {H1 : Hp} (r : Vals vs us) (h : One R vs H1) : ∃ y u, vs = [y] ∧ us = [u] ∧ RelV y u ∧ R y H1 := by
  cases r with
  | nil => exact h.elim
  | cons ru rr =>
    cases rr with
    | nil => exact ⟨_, _, rfl, rfl, ru, h⟩
    | cons _ _ => exact h.elim
def FldAt (K : PySem.W.Frag) (f : Addr) (F : LamF) (fld : Str) (Q : VK) : V → Hp → Prop := fun y H1 => ∃ (a C dx : Addr) (fs : List (Str × V)) (v : V), H1 f = some (LamO f F) ∧ H1 F.c = some (CodeO F.c F.qual) ∧
  y = .ref a ∧ H1 a = some (exo a C (some dx)) ∧ H1 dx = some (exd dx fs) ∧ ExcC K C ∧ PySem.W.findIn K (.ref C) fld = some none ∧ fs.lookup fld = some v ∧ Q v H1
section
variable {X : Cx} {i k : Nat} {x : Str} {e : Expr} {te : TE} {p pos : Pos}
theorem lam_fn {f : Addr} {F : LamF} {pins : List (Addr × Obj)} {σ : L2.St} {H : Hp} {s : Shared} (I : Inv X pins σ H s) (hf : H f = some (LamO f F)) : PySem.W.FnAt f s.heap := by
  obtain ⟨pm, ctv, of⟩ := lamO_at I.hok hf
  exact ⟨_, _, _, _, of⟩
theorem pe_callFld (hr : Room (k + 1) X.A) (hN : X.N[i]? = some x) (hv : Vis X.env.scope x) (he : PE X e te) (hd : (x == ("__debug__" : Str)) = false := by decide) (hcd : (x == ("__classdict__" : Str)) = false := by decide)
    (hs : starEach (e :: []) X.env = (false, eval e X.env) :: starEach [] X.env := by rfl) (hpl : (backTo pos (starEach [] X.env)).any (·.1) = false := by rfl) : PE X (.Call (.Name x p) [e] [] pos) (tCallFld X.K i te) := by
  refine ⟨fun pins s σ H Q I ⟨f, F, fld, L, hi, hf, h⟩ => ?_⟩
  obtain ⟨par, p1, p2, hb, S, d1, d2, d3, hbind⟩ := L.ex
  refine wpAny_Call_Name_kw (thn ((pe_var (pos := p) hN hv hd hcd).run pins s σ H (fun v H1 => v = .ref f ∧ H1 = H) I ⟨.ref f, hi, rfl, rfl⟩) fun u s1 ⟨v, H1, I1, r1, q1⟩ => ?_)
  obtain ⟨rfl, rfl⟩ := q1
  cases r1
  refine PySem.W.callWith_F (first := []) (lam_fn I1 hf) (thn ((pa_cons he pa_nil hs).run pos pins s1 σ H1 (One (FldAt X.K f F fld Q)) I1 h) fun us s2 ⟨vs, H2, I2, r, q⟩ => ?_) hs hpl
  obtain ⟨y, u, rfl, rfl, ru, a, C, dx, fs, w, h1, h2, rfl, ha, hx, hc, hno, hl, q⟩ := one_of r q
  refine ⟨lam_fn I2 h1, ?_⟩
  refine run_lamV (N := [par]) (ps := [par]) (k := k) (vs := [.ref a]) (tb := tFldV X.K fld (tVar 0)) S hr hbind (fun A outer s H hr2 => ?_) I2 h1 h2 rfl (.cons ru .nil) ?_
  · rw [hb]
    exact pe_fldV (pv 0 rfl (.inl (S.par _ (by simp))) d1 d2) rfl d3
  · exact ⟨_, rfl, a, C, dx, fs, w, rfl, ha, hx, hc, hno, hl, q⟩
end
end Mv
namespace Mv
open PySem PySem.Spec PySem.W PyProof.Rows L2 NdefX
/-! ### the head's facts: the kit's Hook, the statics beside, and the __init__ of error classes (functions with a cell) -/
def frM (g : Addr → Option Obj) (n : Nat) : Frag := He.frT g (cStatics :: He.asD g n)
abbrev FnC : Type := Option (Str × Str × Arguments × FuncBody × Scope × Addr × Value × Addr)
/-- an error class of one field: its name, its field; its __init__: name, qualified name, parameters, body, scope -/
structure ErrD where
  cls : Str
  fld : Str
  qual : Str
  params : Arguments
  body : List Stmt
  scope : Scope
def ErrD.fn (d : ErrD) (K : Frag) : Addr := He.ma K (He.ga K d.cls) "__init__"
def fnC (K : Frag) (f : Addr) : FnC := match K.lookup f with
  | some ⟨_, _, .func fd, _⟩ => some (fd.name, fd.qualname, fd.params, fd.body, fd.scope, fd.globals, fd.defaults, fd.builtins)
  | _ => none
def ErrD.val (d : ErrD) : FnC := some ("__init__", d.qual, d.params, .stmts d.body, d.scope, mainGlobals, .none, builtinsNs)
def cellB (K : Frag) (cc C : Addr) : Bool := match K.lookup cc with
  | some ⟨_, _, .cell (some (.ref c)), _⟩ => c == C
  | _ => false
def fileB (K : Frag) (cda : Addr) (file : Str) : Bool := match K.lookup cda with
  | some ⟨_, _, .fields vs, _⟩ => (match (vs[2]? : Option Value) with
    | some (.str f _) => f == file
    | _ => false)
  | _ => false
def clo2 (K : Frag) (C : Addr) (qual file : Str) (cl : List (Str × Addr)) (cv : Value) : Bool := match cl, cv with
  | [(x, cc)], .ref cda => decide (x = "__class__") && (cellB K cc C && (codeIn K (.ref cda) qual && fileB K cda file))
  | _, _ => false
def closB (K : Frag) (f C : Addr) (qual file : Str) : Bool := match K.lookup f with
  | some ⟨_, _, .func fd, _⟩ => clo2 K C qual file fd.closure fd.code
  | _ => false
theorem clo2_ok {K : Frag} {C : Addr} {qual file : Str} {cl : List (Str × Addr)} {cv : Value} (h : clo2 K C qual file cl cv = true) : ∃ cc cda, cl = [(("__class__" : Str), cc)] ∧ cv = Value.ref cda ∧ cellB K cc C = true ∧ codeIn K (.ref cda) qual = true ∧ fileB K cda file = true := by
  unfold clo2 at h
  split at h
  · rename_i x cc cda
    obtain ⟨k1, k2⟩ := He.ba h
    obtain ⟨k3, k4⟩ := He.ba k2
    obtain ⟨k5, k6⟩ := He.ba k4
    exact ⟨cc, cda, by rw [of_decide_eq_true k1], rfl, k3, k5, k6⟩
  · cases h
/-- an error class's object -/
def exClsB (K : Frag) (C : Addr) : Bool := match K.lookup C with
  | some ⟨.type "type", _, .cls cd, sl⟩ => (match cd.mro, sl.toList with
    | .ref C' :: bm, [_, _, _, _, some (.builtin n), _] => C' == C && (n == "ValueError.__new__" && (!cd.hasDel && (cd.hasDict && PySem.HandSPX.refsVE bm)))
    | _, _ => false)
  | _ => false
def oB1 (a b : Option Bool) : Bool := decide (a = b)
def ErrD.ok (d : ErrD) (file : Str) (K : Frag) : Bool :=
  let C := He.ga K d.cls
  exClsB K C && (He.eqO (findIn K (.ref C) "__setattr__") (some (some (.builtin "object.__setattr__"))) && (oB1 (subIn K (.ref C) (.type "BaseException")) (some true) && (decide (typeIn K (.ref C) = some (.type "type")) && (keepIn K (.ref C) &&
  (He.eqO (findIn K (.ref C) "__init__") (some (some (.ref (d.fn K)))) && (decide (typeIn K (.ref (d.fn K)) = some (.type "function")) && (He.eqO (findIn K (.ref C) d.fld) (some none) && (He.eqO (findIn K (.ref C) "__getattribute__") (some (some (.builtin "BaseException.__getattribute__"))) &&
  (He.eqO (findIn K (.ref C) "__getattr__") (some none) && (hasDictIn K C && (oB1 (exmOne K (.ref C) (.ref C)) (some true) && (closB K (d.fn K) C d.qual file && (oB1 (mroIn K C (.ref C)) (some true) &&
  (He.eqO (ks_superIn K C C "__init__") (some (some (.builtin "ValueError.__init__"))) && (oB1 (subIn K (.ref C) (.type "ValueError")) (some true) && He.eqO (nsIn K cStatics "thirdparty.any") (some none))))))))))))))))
theorem exCls_of {K : Frag} {C : Addr} (q : exClsB K C = true) : (∃ nm q N bs bm sn sub ab col dd k0 k1 k2 k3 k5, K.lookup C = some (excClassObj nm q C N bs bm true sn sub ab col dd k0 k1 k2 k3 k5 "ValueError.__new__") ∧ PySem.HandSPX.refsVE bm = true) ∧ ∃ cd, clsIn K C = some cd := by
  unfold exClsB at q
  split at q
  · rename_i dd cd sl ho
    split at q
    · rename_i C' bm k0 k1 k2 k3 n k5 hm hs
      simp only [Bool.and_eq_true, beq_iff_eq, Bool.not_eq_true'] at q
      obtain ⟨rfl, rfl, hdel, hdi, ht⟩ := q
      refine ⟨?_, cd, by unfold clsIn; rw [ho]⟩
      obtain ⟨nm, bs, mro, ns, qn, hd, sn, sub, ab, col, del⟩ := cd
      dsimp only at hm hdel hdi
      subst hm hdel hdi
      have hsl : sl = #[k0, k1, k2, k3, some (.builtin "ValueError.__new__"), k5] := by
        obtain ⟨l⟩ := sl
        simp only at hs
        rw [hs]
      subst hsl
      exact ⟨nm, qn, ns, bs, bm, sn, sub, ab, col, dd, k0, k1, k2, k3, k5, ho, ht⟩
    · cases q
  · cases q
theorem closB_ok {K : Frag} {f C : Addr} {qual file : Str} {d : ErrD} (h : closB K f C qual file = true) (e : fnC K f = d.val) (hq : d.qual = qual) :
    ∃ oc od osl kV doc pm an ct cc cda, K.lookup f = some ⟨oc, od, .func (fnX "__init__" qual d.params d.body d.scope [("__class__", cc)] .none kV doc pm an (.ref cda) ct), osl⟩ ∧ codeIn K (.ref cda) qual = true ∧
      (∃ cl cld csl, K.lookup cc = some ⟨cl, cld, .cell (some (.ref C)), csl⟩) ∧ ∃ ccl cdd vs ccs tf, K.lookup cda = some ⟨ccl, cdd, .fields vs, ccs⟩ ∧ vs[2]? = some (Value.str file tf) := by
  unfold closB at h
  unfold fnC at e
  cases q : K.lookup f with
  | none =>
    rw [q] at h
    cases h
  | some o =>
    obtain ⟨oc, od, dt, osl⟩ := o
    rw [q] at h e
    cases dt with
    | func fd =>
      obtain ⟨n1, n2, n3, n4, n5, n6, n7, n8, n9, n10, n11, n12, n13, n14, n15⟩ := fd
      have e2 : (some (n1, n2, n3, n4, n5, n6, n8, n15) : FnC) = some (("__init__" : Str), d.qual, d.params, FuncBody.stmts d.body, d.scope, mainGlobals, Value.none, builtinsNs) := e
      simp only [Option.some.injEq, Prod.mk.injEq] at e2
      obtain ⟨h1, h2, h3, h4, h5, h6, h7, h8⟩ := e2
      subst h1 h2 h3 h4 h5 h6 h7 h8
      have h' : clo2 K C qual file n7 n13 = true := h
      obtain ⟨cc, cda, e7, e13, k3, k5, k6⟩ := clo2_ok h'
      subst e7 e13 hq
      refine ⟨oc, od, osl, n9, n10, n11, n12, n14, cc, cda, rfl, k5, ?_, ?_⟩
      · unfold cellB at k3
        split at k3
        · rename_i cl cld c csl hz
          rw [beq_iff_eq.mp k3] at hz
          exact ⟨cl, cld, csl, hz⟩
        · cases k3
      · unfold fileB at k6
        split at k6
        · rename_i ccl cdd vs ccs hz
          split at k6
          · rename_i f tf hv
            rw [beq_iff_eq.mp k6] at hv
            exact ⟨ccl, cdd, vs, ccs, tf, hz, hv⟩
          · cases k6
        · cases k6
    | _ => cases h
/-- the facts of an error class -/
theorem err_of {P : Program} {w : World} {K : Frag} {mg : Str → Option Value} {base : Heap} {d : ErrD} {txt par : Str} {ar : Arg} {p0 p1 p2 p3 p4 p5 q1 q2 q3 q4 : Pos} {j : Nat} (h : d.ok P.main.file K = true) (e : fnC K (d.fn K) = d.val) (hg : mg d.cls = some (.ref (He.ga K d.cls))) (sup : mg "super" = none)
    (top : (P.main.scope.names.lookup ("super" : Str)).isSome = false)
    (hbody : d.body = [.Expr (.Call (.Attribute (.Call (.Name "super" p0) [] [] p1) "__init__" p2) [.Constant (.str txt) j p3] [] p4) p5, .Assign [.Attribute (.Name "self" q1) d.fld q2] (.Name par q3) q4])
    (S : NScope ["self", par, "__class__"] ["self", par] ["__class__"] d.scope) (hks : d.scope.names.lookup ("super" : Str) = some .globalImplicit) (hpos : (p2.endLine == p4.line) = true) (hp : (d.params.posonlyargs ++ d.params.args).head? = some ar) (har : ar.arg = "self") (hdb : (par == ("__debug__" : Str)) = false) (hcl : (par == ("__classdict__" : Str)) = false)
    (hbind : ∀ (kV doc pm : Value) (an : Option Addr) (cl : List (Str × Addr)) (cdv ct : Value) (us : List Value), us.length = 2 → bindArgs (fnX "__init__" d.qual d.params d.body d.scope cl .none kV doc pm an cdv ct) ⟨us, []⟩ = pure ((["self", par] : List Str).zip us)) : Err P w K mg base d.cls (He.ga K d.cls) d.fld := by
  unfold ErrD.ok at h
  obtain ⟨c1, h⟩ := He.ba h
  obtain ⟨c2, h⟩ := He.ba h
  obtain ⟨c3, h⟩ := He.ba h
  obtain ⟨c4, h⟩ := He.ba h
  obtain ⟨c5, h⟩ := He.ba h
  obtain ⟨c6, h⟩ := He.ba h
  obtain ⟨c7, h⟩ := He.ba h
  obtain ⟨c8, h⟩ := He.ba h
  obtain ⟨c9, h⟩ := He.ba h
  obtain ⟨c10, h⟩ := He.ba h
  obtain ⟨c11, h⟩ := He.ba h
  obtain ⟨c12, h⟩ := He.ba h
  obtain ⟨c13, h⟩ := He.ba h
  obtain ⟨c14, h⟩ := He.ba h
  obtain ⟨c15, h⟩ := He.ba h
  obtain ⟨c16, c17⟩ := He.ba h
  obtain ⟨hcls, hcd⟩ := exCls_of c1
  obtain ⟨oc, od, osl, kV, doc, pm, an, ct, cc, cda, lk, hcode, hcell, ccl, cdd, vs, ccs, tf, hco, hv⟩ := closB_ok c13 e rfl
  have T : OexC K (He.ga K d.cls) := ⟨hcls, He.eqO_ok c2, of_decide_eq_true c3, of_decide_eq_true c4, c5⟩
  have D : SupK P K mg (He.ga K d.cls) cc cda := ⟨T, ⟨ccl, cdd, vs, ccs, _, tf, hco, hv, beq_self_eq_true _⟩, hcell, hcd, of_decide_eq_true c14, sup, top, He.eqO_ok c15, of_decide_eq_true c16, He.eqO_ok c17⟩
  rw [hbody] at lk
  have G := init1 (P := P) (w := w) (mg := mg) (base := base) (CX := CX0) D (He.eqO_ok c8) lk hcode S hks hpos hp har hdb hcl
  refine ⟨hg, T, ⟨_, _, _, He.eqO_ok c6, of_decide_eq_true c7, G.mono (by decide), .all fun us hl => ?_⟩, He.eqO_ok c8, He.eqO_ok c9, He.eqO_ok c10, c11, of_decide_eq_true c12⟩
  have q := hbind kV doc pm an [("__class__", cc)] (.ref cda) ct us hl
  rw [hbody] at q
  exact q
end Mv
namespace Mv
open PySem PySem.Spec PySem.W PyProof.Rows L2
abbrev AlM : Type := He.AlX × List FnC
def obsM (n : Nat) (fa : List He.Fa) (fn : List He.DefD) (tf : List He.Defn) (ex : Frag → Bool) (es : List ErrD) (g : Addr → Option Obj) : AlM :=
  ((He.obsT fa fn [] (frM g n), ex (frM g n) && He.tabsB g tf (frM g n)), es.map fun d => fnC (frM g n) (d.fn (frM g n)))
def valM (fn : List He.DefD) (es : List ErrD) (w : World) : AlM := ((He.valT fn [] w, true), es.map ErrD.val)
structure SaysM (fa : List He.Fa) (fn : List He.DefD) (tf : List He.Defn) (ex : Frag → Bool) (es : List ErrD) (w : World) (h : Heap) (K : Frag) : Prop where
  x : He.SaysX fa fn [] tf ex w h K
  e : es.map (fun d => fnC K (d.fn K)) = es.map ErrD.val
theorem saysM_of {n : Nat} {fa : List He.Fa} {fn : List He.DefD} {tf : List He.Defn} {ex : Frag → Bool} {es : List ErrD} {w : World} {h : Heap} (e : obsM n fa fn tf ex es h.get? = valM fn es w) : SaysM fa fn tf ex es w h (frM h.get? n) := by
  have e1 : He.obsT fa fn [] (frM h.get? n) = He.valT fn [] w := congrArg (fun z : AlM => z.1.1) e
  have e2 : (ex (frM h.get? n) && He.tabsB h.get? tf (frM h.get? n)) = true := congrArg (fun z : AlM => z.1.2) e
  have e3 : es.map (fun d => fnC (frM h.get? n) (d.fn (frM h.get? n))) = es.map ErrD.val := congrArg (fun z : AlM => z.2) e
  obtain ⟨h1, h2⟩ := He.ba e2
  have key : ∀ p ∈ tf, codeHdIn (frM h.get? n) (He.cT (frM h.get? n) p).1 (He.cT (frM h.get? n) p).2 = true ∧ ∃ o, h.get? (He.cT (frM h.get? n) p).2 = some o ∧ He.emptyTab o = true := fun p hp => by
    obtain ⟨h3, h4⟩ := He.ba (List.all_eq_true.mp h2 p hp)
    refine ⟨h3, ?_⟩
    cases q : h.get? (He.cT (frM h.get? n) p).2 with
    | none =>
      rw [q] at h4
      cases h4
    | some o =>
      rw [q] at h4
      exact ⟨o, rfl, h4⟩
  refine ⟨⟨e1, h1, fun p hp => (key p hp).1, fun p hp => ?_, fun p hp => ?_⟩, e3⟩
  · obtain ⟨_, o, q, z⟩ := key p hp
    exact He.frT_none q z
  · obtain ⟨_, o, q, z⟩ := key p hp
    rw [q, He.emptyTab_eq z]
def hookM (n : Nat) (fa : List He.Fa) (fn : List He.DefD) (tf : List He.Defn) (ex : Frag → Bool) (es : List ErrD) : Hook where
  α := AlM
  obs := fun s => obsM n fa fn tf ex es s.heap.get?
  val := fun w => valM fn es w
  says := fun w h => ∃ K : Frag, K.In h ∧ SaysM fa fn tf ex es w h K
  of := fun _ _ e => ⟨_, He.frT_in, saysM_of e⟩
  keeps := fun _ _ _ ⟨K, hK, c⟩ k => ⟨K, Frag.In.keeps hK k, ⟨⟨c.x.t, c.x.more, c.x.hd, c.x.out, fun p hp => k _ _ (c.x.empty p hp)⟩, c.e⟩⟩
theorem obsM_eq {n : Nat} {fa : List He.Fa} {fn : List He.DefD} {tf : List He.Defn} {ex : Frag → Bool} {es : List ErrD} {g : Addr → Option Obj} {s : Shared} (h : ∀ a, g a = s.heap.get? a) : obsM n fa fn tf ex es g = (hookM n fa fn tf ex es).obs s := by
  have e : g = s.heap.get? := funext h
  rw [e] <;> rfl
section
variable {fa : List He.Fa} {fn : List He.DefD} {tf : List He.Defn} {ex : Frag → Bool} {es : List ErrD} {w : World} {h : Heap} {K : Frag}
theorem SaysM.err (c : SaysM fa fn tf ex es w h K) {d : ErrD} (hd : d ∈ es) : fnC K (d.fn K) = d.val := by
  obtain ⟨i, hi, e⟩ := List.mem_iff_getElem.mp hd
  have e2 : (es.map fun d => fnC K (d.fn K))[i]? = (es.map ErrD.val)[i]? := by rw [c.e]
  rw [List.getElem?_map, List.getElem?_map, List.getElem?_eq_getElem hi, e] at e2
  exact Option.some.inj e2
theorem SaysM.fact (c : SaysM fa fn tf ex es w h K) {f : He.Fa} (hf : f ∈ fa) : f.ok K = true := c.x.t.d.facts hf
theorem SaysM.glo (c : SaysM fa fn tf ex es w h K) {mg : Str → Option Value} (X : K.In h) (G : h.Ns mainGlobals mg) {x : Str} (hf : He.Fa.glo x ∈ fa) : mg x = some (.ref (He.ga K x)) := He.glo_ok X G (c.fact hf)
theorem SaysM.free (c : SaysM fa fn tf ex es w h K) {mg : Str → Option Value} (X : K.In h) (G : h.Ns mainGlobals mg) {x : Str} (hf : He.Fa.free x ∈ fa) : mg x = none := He.free_ok X G (c.fact hf)
/-- a def of no defaults -/
def dD (a : Str × Option Str) (x q : Str) (st : Stmt) : He.DefD := ⟨a, x, q, defArgs st, defBody st, defScope st, [], []⟩
theorem SaysM.dfn (c : SaysM fa fn tf ex es w h K) {a : Str × Option Str} {x q : Str} {st : Stmt} (hd : dD a x q st ∈ fn) : ∃ fd, Fun K x q st (He.fAd K a) fd ∧ FunD K x q (defArgs st) (defBody st) (defScope st) [] [] (He.fAd K a) fd := by
  obtain ⟨fd, F⟩ := c.x.t.d.defs hd
  have F' : FunD K x q (defArgs st) (defBody st) (defScope st) [] [] (He.fAd K a) fd := F
  refine ⟨fd, ?_, F'⟩
  obtain ⟨⟨oc, od, dV, kV, doc, pm, an, cdv, ct, osl, ef, lk, hcd, dfl, kwd⟩, kp⟩ := F'
  rcases dfl with ⟨_, e⟩ | ⟨z, _⟩
  · subst e
    exact ⟨⟨oc, od, kV, doc, pm, an, cdv, ct, osl, ef, lk, hcd⟩, kp⟩
  · exact absurd rfl z
end
end Mv
namespace Mv
open PySem PySem.Spec PySem.W PyProof.Rows L2 NdefX
/-! ### the facts of error classes whose objects are kept -/
section
variable {P : Program} {w : World} {K : Frag} {mg : Str → Option Value} {base : Heap} {C fI cc cda : Addr}
/-- __init__(self): super().__init__(a text) -/
theorem init0 {CX : CXT} {qual txt : Str} {params : Arguments} {scope : Scope} {ar : Arg} {p0 p1 p2 p3 p4 p5 : Pos} {j : Nat} {kV doc pm ct oc : Value} {an od : Option Addr} {osl : Array (Option Value)}
    (D : SupK P K mg C cc cda)
    (lk : K.lookup fI = some ⟨oc, od, .func (fnX "__init__" qual params [.Expr (.Call (.Attribute (.Call (.Name "super" p0) [] [] p1) "__init__" p2) [.Constant (.str txt) j p3] [] p4) p5] scope [("__class__", cc)] .none kV doc pm an (.ref cda) ct), osl⟩)
    (hcd : codeIn K (.ref cda) qual = true) (S : NScope ["self", "__class__"] ["self"] ["__class__"] scope) (hks : scope.names.lookup ("super" : Str) = some .globalImplicit)
    (hpos : (p2.endLine == p4.line) = true) (hp : (params.posonlyargs ++ params.args).head? = some ar) (har : ar.arg = "self") :
    FnOk P w K mg base CX 1 fI (fnX "__init__" qual params [.Expr (.Call (.Attribute (.Call (.Name "super" p0) [] [] p1) "__init__" p2) [.Constant (.str txt) j p3] [] p4) p5] scope [("__class__", cc)] .none kV doc pm an (.ref cda) ct) ["self"] (spErr0 C) := by
  refine sup_of (k := 0) D lk hcd S hks hpos hp har (fun vs H Q E h => ?_) (fun A outer s H vs Q E F hF hr h => ?_)
  · obtain ⟨a, rfl, _⟩ := h
    rfl
  · obtain ⟨a, rfl, ha, k⟩ := h
    exact ⟨⟨a, rfl, ha⟩, _, pss_nil, k⟩
/-- what the head's facts say of an error class -/
theorem errS_of {d : ErrD} (h : d.ok P.main.file K = true) (e : fnC K (d.fn K) = d.val) (sup : mg "super" = none) (top : (P.main.scope.names.lookup ("super" : Str)).isSome = false) :
    OexC K (He.ga K d.cls) ∧ findIn K (.ref (He.ga K d.cls)) "__init__" = some (some (.ref (d.fn K))) ∧ typeIn K (.ref (d.fn K)) = some (.type "function") ∧ findIn K (.ref (He.ga K d.cls)) d.fld = some none ∧
    ∃ oc od osl kV doc pm an ct cc cda, K.lookup (d.fn K) = some ⟨oc, od, .func (fnX "__init__" d.qual d.params d.body d.scope [("__class__", cc)] .none kV doc pm an (.ref cda) ct), osl⟩ ∧ codeIn K (.ref cda) d.qual = true ∧ SupK P K mg (He.ga K d.cls) cc cda := by
  unfold ErrD.ok at h
  obtain ⟨c1, h⟩ := He.ba h
  obtain ⟨c2, h⟩ := He.ba h
  obtain ⟨c3, h⟩ := He.ba h
  obtain ⟨c4, h⟩ := He.ba h
  obtain ⟨c5, h⟩ := He.ba h
  obtain ⟨c6, h⟩ := He.ba h
  obtain ⟨c7, h⟩ := He.ba h
  obtain ⟨c8, h⟩ := He.ba h
  obtain ⟨c9, h⟩ := He.ba h
  obtain ⟨c10, h⟩ := He.ba h
  obtain ⟨c11, h⟩ := He.ba h
  obtain ⟨c12, h⟩ := He.ba h
  obtain ⟨c13, h⟩ := He.ba h
  obtain ⟨c14, h⟩ := He.ba h
  obtain ⟨c15, h⟩ := He.ba h
  obtain ⟨c16, c17⟩ := He.ba h
  obtain ⟨hcls, hcd⟩ := exCls_of c1
  obtain ⟨oc, od, osl, kV, doc, pm, an, ct, cc, cda, lk, hcode, hcell, ccl, cdd, vs, ccs, tf, hco, hv⟩ := closB_ok c13 e rfl
  have T : OexC K (He.ga K d.cls) := ⟨hcls, He.eqO_ok c2, of_decide_eq_true c3, of_decide_eq_true c4, c5⟩
  have D : SupK P K mg (He.ga K d.cls) cc cda := ⟨T, ⟨ccl, cdd, vs, ccs, _, tf, hco, hv, beq_self_eq_true _⟩, hcell, hcd, of_decide_eq_true c14, sup, top, He.eqO_ok c15, of_decide_eq_true c16, He.eqO_ok c17⟩
  exact ⟨T, He.eqO_ok c6, of_decide_eq_true c7, He.eqO_ok c8, oc, od, osl, kV, doc, pm, an, ct, cc, cda, lk, hcode, D⟩
theorem errV_of {d : ErrD} {txt par : Str} {ar : Arg} {p0 p1 p2 p3 p4 p5 q1 q2 q3 q4 : Pos} {j : Nat} (h : d.ok P.main.file K = true) (e : fnC K (d.fn K) = d.val) (hg : mg d.cls = some (.ref (He.ga K d.cls))) (sup : mg "super" = none)
    (top : (P.main.scope.names.lookup ("super" : Str)).isSome = false)
    (hbody : d.body = [.Expr (.Call (.Attribute (.Call (.Name "super" p0) [] [] p1) "__init__" p2) [.Constant (.str txt) j p3] [] p4) p5, .Assign [.Attribute (.Name "self" q1) d.fld q2] (.Name par q3) q4])
    (S : NScope ["self", par, "__class__"] ["self", par] ["__class__"] d.scope) (hks : d.scope.names.lookup ("super" : Str) = some .globalImplicit) (hpos : (p2.endLine == p4.line) = true) (hp : (d.params.posonlyargs ++ d.params.args).head? = some ar) (har : ar.arg = "self") (hdb : (par == ("__debug__" : Str)) = false) (hcl : (par == ("__classdict__" : Str)) = false)
    (hbind : ∀ (kV doc pm : Value) (an : Option Addr) (cl : List (Str × Addr)) (cdv ct : Value) (u v : Value), bindArgs (fnX "__init__" d.qual d.params d.body d.scope cl .none kV doc pm an cdv ct) ⟨[u, v], []⟩ = pure [(("self" : Str), u), (par, v)])
    (hbindK : ∀ (kV doc pm : Value) (an : Option Addr) (cl : List (Str × Addr)) (cdv ct : Value) (u v : Value), bindArgs (fnX "__init__" d.qual d.params d.body d.scope cl .none kV doc pm an cdv ct) ⟨[u], [(par, v)]⟩ = pure [(("self" : Str), u), (par, v)]) :
    ErrV P w K mg base d.cls (He.ga K d.cls) d.fld par ∧ findIn K (.ref (He.ga K d.cls)) d.fld = some none := by
  obtain ⟨T, iC, tI, noF, oc, od, osl, kV, doc, pm, an, ct, cc, cda, lk, hcode, D⟩ := errS_of (mg := mg) h e sup top
  rw [hbody] at lk hbind hbindK
  have G := init1 (P := P) (w := w) (mg := mg) (base := base) (CX := CX0) D noF lk hcode S hks hpos hp har hdb hcl
  exact ⟨⟨hg, T, _, _, _, iC, tI, G.mono (by decide), fun s u v => BindsTo.of_eq (hbind kV doc pm an [("__class__", cc)] (.ref cda) ct u v), fun s u v => BindsTo.of_eq (hbindK kV doc pm an [("__class__", cc)] (.ref cda) ct u v)⟩, noF⟩
theorem errV0_of {d : ErrD} {txt : Str} {ar : Arg} {p0 p1 p2 p3 p4 p5 : Pos} {j : Nat} (h : d.ok P.main.file K = true) (e : fnC K (d.fn K) = d.val) (hg : mg d.cls = some (.ref (He.ga K d.cls))) (sup : mg "super" = none)
    (top : (P.main.scope.names.lookup ("super" : Str)).isSome = false)
    (hbody : d.body = [.Expr (.Call (.Attribute (.Call (.Name "super" p0) [] [] p1) "__init__" p2) [.Constant (.str txt) j p3] [] p4) p5])
    (S : NScope ["self", "__class__"] ["self"] ["__class__"] d.scope) (hks : d.scope.names.lookup ("super" : Str) = some .globalImplicit) (hpos : (p2.endLine == p4.line) = true) (hp : (d.params.posonlyargs ++ d.params.args).head? = some ar) (har : ar.arg = "self")
    (hbind : ∀ (kV doc pm : Value) (an : Option Addr) (cl : List (Str × Addr)) (cdv ct : Value) (u : Value), bindArgs (fnX "__init__" d.qual d.params d.body d.scope cl .none kV doc pm an cdv ct) ⟨[u], []⟩ = pure [(("self" : Str), u)]) :
    ErrV0 P w K mg base d.cls (He.ga K d.cls) := by
  obtain ⟨T, iC, tI, noF, oc, od, osl, kV, doc, pm, an, ct, cc, cda, lk, hcode, D⟩ := errS_of (mg := mg) h e sup top
  rw [hbody] at lk hbind
  have G := init0 (P := P) (w := w) (mg := mg) (base := base) (CX := CX0) D lk hcode S hks hpos hp har
  exact ⟨hg, T, _, _, _, iC, tI, G.mono (by decide), fun s u => BindsTo.of_eq (hbind kV doc pm an [("__class__", cc)] (.ref cda) ct u)⟩
end
end Mv
namespace Mv
open PySem PySem.Spec PyProof.Rows L2
def top (i : Nat) : Stmt := PySem.Challenge.pw_manyvoices_k01_errors_made.main.body.getD i (.Pass ⟨0, 0, 0, 0⟩)
theorem same_new {H : Hp} {p : Addr} {o : HO} (h : H p = none) : Same H (upd H p o) := fun b u e => by
  rw [upd_ne (ne_of_none e h)]
  exact e
theorem same_put {H H1 : Hp} {p : Addr} {o : HO} (s : Same H H1) (h : H p = none) : Same H (upd H1 p o) := fun b u e => by
  rw [upd_ne (ne_of_none e h)]
  exact s b u e
theorem take_next {α : Type} {l : List α} {i : Nat} {x : α} (h : l[i]? = some x) : l.take (i + 1) = l.take i ++ [x] := by
  rw [List.take_add_one, h]
  rfl
theorem ifT {b : Bool} {A B : Prop} (h : b = true) (a : A) : if b = true then A else B := by rw [if_pos h]; exact a
theorem ifF {b : Bool} {A B : Prop} (h : b = false) (a : B) : if b = true then A else B := by rw [h]; exact a
theorem same_sqT {K : PySem.W.Frag} {H H' : Hp} {a : Addr} {xs : List V} (e : Same H H') (h : SqT K H a xs) : SqT K H' a xs := by
  rcases h with h | h
  · rcases h with h | ⟨o, h⟩
    · exact .inl (.inl (e _ _ h))
    · exact .inl (.inr ⟨o, e _ _ h⟩)
  · exact .inr h
theorem upd_nn {H : Hp} {a b : Addr} {o : HO} (h : upd H a o b = none) : b ≠ a ∧ H b = none := by
  by_cases e : b = a
  · rw [e, upd_same] at h
    cases h
  · rw [upd_ne e] at h
    exact ⟨e, h⟩
end Mv
namespace Mv
open PySem PySem.Spec PyProof.Rows L2 RZ L2
abbrev sSame : Stmt := top 34
/-! ### isinstance with several classes -/
def kitsB (a : String) : List String → Option Bool
  | [] => some false
  | b :: bs => match kitB a b with
    | some true => some true
    | some false => kitsB a bs
    | none => none
theorem kit_any {K : PySem.W.Frag} {a : String} : ∀ {bs : List String} {r : Bool}, kitsB a bs = some r → PySem.W.kitAny K (.type a) (bs.map Value.type) = some r
  | [], r, h => by
    cases h
    exact kitAny_nil
  | b :: bs, r, h => by
    unfold kitsB at h
    cases e : kitB a b with
    | none =>
      rw [e] at h
      cases h
    | some k =>
      rw [e] at h
      cases k with
      | true =>
        cases h
        exact kitAny_cons (kit_ty e) (fun q => by cases q) fun _ => rfl
      | false => exact kitAny_cons (kit_ty e) (fun _ => kit_any h) fun q => by cases q
theorem cls_tys : ∀ (bs : List String), Paired ClsV (bs.map V.ty) (bs.map Value.type)
  | [] => .nil
  | b :: bs => .cons (.ty b) (cls_tys bs)
theorem ty_lst {K : PySem.W.Frag} {H : Hp} {a : Addr} {xs : List V} (h : SqL K H a xs) : TyX K H (.ref a) (.type "list") := by
  rcases h with h | ⟨o, its, n, hk, hc, _⟩
  · rcases h with h | ⟨o, h⟩
    · exact .base (.lst h)
    · exact .base (.frz h)
  · exact .kList hk hc
theorem ty_tup {K : PySem.W.Frag} {H : Hp} {a : Addr} {xs : List V} (h : SqT K H a xs) : TyX K H (.ref a) (.type "tuple") := by
  rcases h with h | ⟨o, its, n, hk, hc, _⟩
  · rcases h with h | ⟨o, h⟩
    · exact .base (.tup h)
    · exact .fTuple h
  · exact .kTuple hk hc
theorem same_ty {K : PySem.W.Frag} {H H' : Hp} {x : V} {n : String} (s : Same H H') (h : TyX K H x (.type n)) : TyX K H' x (.type n) := by
  cases h with
  | base b =>
    refine .base ?_
    cases b with
    | non => exact .non
    | bl x => exact .bl x
    | int i => exact .int i
    | str z => exact .str z
    | flt z => exact .flt z
    | lst e => exact .lst (s _ _ e)
    | frz e => exact .frz (s _ _ e)
    | tup e => exact .tup (s _ _ e)
    | dK e => exact .dK (s _ _ e)
    | dT e => exact .dT (s _ _ e)
  | byt b => exact .byt b
  | set e => exact .set (s _ _ e)
  | kList e c => exact .kList e c
  | kTuple e c => exact .kTuple e c
  | kDict e c => exact .kDict e c
  | fTuple e => exact .fTuple (s _ _ e)
  | fDict e => exact .fDict (s _ _ e)
theorem walk_zipT {K : PySem.W.Frag} {a b : Addr} {xs ys : List V} (hl : xs.length = ys.length) : Walk (ItzT K a b) xs.length (fun H => SqT K H a xs ∧ SqT K H b ys) (YPair (fun i => xs[i]?) (fun i => ys[i]?)) := by
  refine ⟨fun i _ hi q => ?_, fun _ q => ⟨xs, ys, q.1, q.2, .inl (Nat.le_refl _)⟩, fun i H v H' _ q y => ?_⟩
  · exact ⟨xs, ys, xs[i], ys[i]'(hl ▸ hi), q.1, q.2, by simp [hi], by simp [hl ▸ hi]⟩
  · obtain ⟨T, x, z, h1, h2, h3, h4, h5⟩ := y
    exact ⟨T, x, z, h1, h2, h3, h4 xs q.1, h5 ys q.2⟩
theorem opR_or {X : Cx} {f : Value → Value → Sem Value} {r r' : R2} (h : OpR X f r) (h' : OpR X f r') : OpR X f (fun x y H Q => r x y H Q ∨ r' x y H Q) := fun pins s σ H x y v u Q I rx ry q =>
  q.elim (h pins s σ H x y v u Q I rx ry) (h' pins s σ H x y v u Q I rx ry)
/-! ### alike data -/
/-- found and due are alike, to the depth n -/
inductive SmD (K : PySem.W.Frag) (H : Hp) : Nat → V → V → Prop where
  | int (n : Nat) (i : Int) : SmD K H n (.int i) (.int i)
  | bl (n : Nat) (b : Bool) : SmD K H n (.bl b) (.bl b)
  | non (n : Nat) : SmD K H n .non .non
  | str (n : Nat) (z : Str) : SmD K H n (.str z) (.str z)
  | dic (n : Nat) {a : Addr} (h : H a = some (.dK [])) : SmD K H n (.ref a) (.ref a)
  | lst {n : Nat} {a b : Addr} {xs ys : List V} (h1 : SqL K H a xs) (h2 : SqL K H b ys) (hl : xs.length = ys.length) (hz : xs.length ≤ 1000) (h : ∀ (i : Nat) (x y : V), xs[i]? = some x → ys[i]? = some y → SmD K H n x y) : SmD K H (n + 1) (.ref a) (.ref b)
  | tup {n : Nat} {a b : Addr} {xs ys : List V} (h1 : SqT K H a xs) (h2 : SqT K H b ys) (hl : xs.length = ys.length) (hz : xs.length ≤ 1000) (h : ∀ (i : Nat) (x y : V), xs[i]? = some x → ys[i]? = some y → SmD K H n x y) : SmD K H (n + 1) (.ref a) (.ref b)
theorem SmD.same {K : PySem.W.Frag} {H H' : Hp} {n : Nat} {x y : V} (s : Same H H') (h : SmD K H n x y) : SmD K H' n x y := by
  induction h with
  | int n i => exact .int n i
  | bl n b => exact .bl n b
  | non n => exact .non n
  | str n z => exact .str n z
  | dic n h => exact .dic n (s _ _ h)
  | lst h1 h2 hl hz _ ih => exact .lst (s.seq h1) (s.seq h2) hl hz ih
  | tup h1 h2 hl hz _ ih => exact .tup (same_sqT s h1) (same_sqT s h2) hl hz ih
def spSame (K : PySem.W.Frag) (n : Nat) : Sp := fun vs H Q _ => ∃ x y, vs = [x, y] ∧ SmD K H n x y ∧ ∀ H', Same H H' → Q (.bl true) H'
def spPrev (K : PySem.W.Frag) : Nat → Sp
  | 0 => fun _ _ _ _ => False
  | n + 1 => spSame K n
/-- the type that both have -/
theorem SmD.ty {K : PySem.W.Frag} {H : Hp} {n : Nat} {x y : V} (h : SmD K H n x y) : ∃ t, t ∈ ["int", "bool", "NoneType", "str", "dict", "list", "tuple"] ∧ TyX K H x (.type t) ∧ TyX K H y (.type t) := by
  cases h with
  | int n i => exact ⟨"int", by simp, .base (.int _), .base (.int _)⟩
  | bl n b => exact ⟨"bool", by simp, .base (.bl _), .base (.bl _)⟩
  | non n => exact ⟨"NoneType", by simp, .base .non, .base .non⟩
  | str n z => exact ⟨"str", by simp, .base (.str _), .base (.str _)⟩
  | dic n h => exact ⟨"dict", by simp, .base (.dK h), .base (.dK h)⟩
  | lst h1 h2 hl hz h => exact ⟨"list", by simp, ty_lst h1, ty_lst h2⟩
  | tup h1 h2 hl hz h => exact ⟨"tuple", by simp, ty_tup h1, ty_tup h2⟩
structure ST (mg : Str → Option Value) (f : Addr) : Prop where
  isi : mg "isinstance" = none
  list : mg "list" = none
  tuple : mg "tuple" = none
  len : mg "len" = none
  all : mg "all" = none
  zip : mg "zip" = none
  bool : mg "bool" = none
  int : mg "int" = none
  self : mg "_law_same" = some (.ref f)
section
variable {P : Program} {w : World} {K : PySem.W.Frag} {mg : Str → Option Value} {base : Heap}
theorem scSm : FnScope ["_law_found", "_law_due", "_law_left", "_law_right"] ["_law_found", "_law_due"] (defScope sSame) := ⟨rfl, rfl, rfl, by decide +kernel, rfl, by decide +kernel, by decide +kernel⟩
theorem same_step {f : Addr} {fd : FuncData} {n k : Nat} (F : Fun K "_law_same" "_law_same" sSame f fd) (T : ST mg f) (b : Binds K fd ["_law_found", "_law_due"] []) (G : FnOk P w K mg base CX0 k f fd ["_law_found", "_law_due"] (spPrev K n)) : FnOk P w K mg base CX0 (k + 1) f fd ["_law_found", "_law_due"] (spSame K n) := by
  refine F.ok scSm (fun vs H Q E h => ?_) (fun cdv A outer s H vs Q E hr h => ?_)
  · obtain ⟨x, y, rfl, _⟩ := h
    rfl
  · obtain ⟨x, y, rfl, hd, kq⟩ := h
    have hkF := F.kp
    refine ⟨_, pss_cons (ps_if (pt_val (pe_callB call_isiT (by rfl) T.isi (by decide +kernel) (pa_cons (pv 1) (pa_cons (pe_tup (pa_cons (pe_bltn (v := .ty "list") (by rfl) T.list (by decide +kernel) rfl) (pa_cons (pe_bltn (v := .ty "tuple") (by rfl) T.tuple (by decide +kernel) rfl) pa_nil))) pa_nil))))
        (pss_cons (ps_if (PW.pt (pw_or (pt_cmpR op_ne (pe_callB call_isi (by rfl) T.isi (by decide +kernel) (pa_cons (pv 0) (pa_cons (pe_bltn (v := .ty "list") (by rfl) T.list (by decide +kernel) rfl) pa_nil))) (pe_callB call_isi (by rfl) T.isi (by decide +kernel) (pa_cons (pv 1) (pa_cons (pe_bltn (v := .ty "list") (by rfl) T.list (by decide +kernel) rfl) pa_nil))) (nomark _))
            (pw_or1 (pt_cmpR op_ne (pe_callB call_isi (by rfl) T.isi (by decide +kernel) (pa_cons (pv 0) (pa_cons (pe_bltn (v := .ty "tuple") (by rfl) T.tuple (by decide +kernel) rfl) pa_nil))) (pe_callB call_isi (by rfl) T.isi (by decide +kernel) (pa_cons (pv 1) (pa_cons (pe_bltn (v := .ty "tuple") (by rfl) T.tuple (by decide +kernel) rfl) pa_nil))) (nomark _))))) (pss_one (ps_ret pe_bl)) pss_nil)
          (pss_one (ps_ret (pe_and (pe_cmpR op_eq (pe_callB call_len_seq (by rfl) T.len PySem.boot_len (pa_cons (pv 0) pa_nil)) (pe_callB call_len_seq (by rfl) T.len PySem.boot_len (pa_cons (pv 1) pa_nil)) (nomark _))
            (pe_one (pe_callB (cr_all rfl) (by rfl) T.all (by decide +kernel) (pa_cons (pe_lc (own := [("_law_left", 2), ("_law_right", 3)]) (g := gTup _ 2 (gCons (gName 2) (gCons (gName 3) gNil))) (tt := tYes) rfl scSm.nd (pi_zipA (by rfl) T.zip (pa_cons (pv 0) (pa_cons (pv 1) pa_nil)))
              (blkOk_by (N := ["_law_found", "_law_due", "_law_left", "_law_right"]) (sc := defScope sSame) (by decide +kernel))
              (fun _ _ _ _ _ => pg_tup rfl (pgs_cons (pg_name (i := 2) scSm.nd rfl (Or.inl rfl)) (pgs_cons (pg_name (i := 3) scSm.nd rfl (Or.inl rfl)) pgs_nil))) (fun _ _ _ _ _ => pts_nil)
              (fun _ _ _ _ _ => pe_call G hr rfl T.self hkF b .nil pass0 (pa_cons (pv 2) (pa_cons (pv 3) pa_nil)))) pa_nil)))))))
        pss_nil)
      (pss_cons (ps_if (pt_val (pe_callB call_isiT (by rfl) T.isi (by decide +kernel) (pa_cons (pv 1) (pa_cons (pe_tup (pa_cons (pe_bltn (v := .ty "bool") (by rfl) T.bool (by decide +kernel) rfl) (pa_cons (pe_bltn (v := .ty "int") (by rfl) T.int (by decide +kernel) rfl) pa_nil))) pa_nil))))
        (pss_one (ps_ret (pe_and (pe_callB call_isi (by rfl) T.isi (by decide +kernel) (pa_cons (pv 0) (pa_cons (pe_bltn (v := .ty "int") (by rfl) T.int (by decide +kernel) rfl) pa_nil)))
          (pe_and (pe_cmpR op_eq (pe_callB call_isi (by rfl) T.isi (by decide +kernel) (pa_cons (pv 0) (pa_cons (pe_bltn (v := .ty "bool") (by rfl) T.bool (by decide +kernel) rfl) pa_nil))) (pe_callB call_isi (by rfl) T.isi (by decide +kernel) (pa_cons (pv 1) (pa_cons (pe_bltn (v := .ty "bool") (by rfl) T.bool (by decide +kernel) rfl) pa_nil))) (nomark _))
            (pe_one (pe_cmpR op_eq (pv 0) (pv 1) (nomark _))))))) pss_nil)
      (pss_one (ps_ret (pe_and (pe_not (pe_callB call_isiT (by rfl) T.isi (by decide +kernel) (pa_cons (pv 0) (pa_cons (pe_tup (pa_cons (pe_bltn (v := .ty "bool") (by rfl) T.bool (by decide +kernel) rfl) (pa_cons (pe_bltn (v := .ty "int") (by rfl) T.int (by decide +kernel) rfl) (pa_cons (pe_bltn (v := .ty "list") (by rfl) T.list (by decide +kernel) rfl) (pa_cons (pe_bltn (v := .ty "tuple") (by rfl) T.tuple (by decide +kernel) rfl) pa_nil))))) pa_nil))))
        (pe_one (pe_cmpR (opR_or op_eq (op_eq_dictA hr.units0)) (pv 0) (pv 1) (nomark _))))))), ?_⟩
    cases hd with
    | int n i =>
      refine ⟨_, rfl, (by show 2 ≤ sizeLine; decide), fun tp ht => ?_⟩
      refine ⟨_, tp, [.ty "list", .ty "tuple"], _, _, false, rfl, upd_same, cls_tys ["list", "tuple"], .base (.int i), kit_any (bs := ["list", "tuple"]) (by decide +kernel), false, rfl, ?_⟩
      refine iteF ?_
      refine ⟨_, rfl, (by show 2 ≤ sizeLine; decide), fun tq hq => ?_⟩
      have sm := (same_new (o := .tup [.ty "list", .ty "tuple"]) ht).trans (same_new (o := .tup [.ty "bool", .ty "int"]) hq)
      refine ⟨_, tq, [.ty "bool", .ty "int"], _, _, true, rfl, upd_same, cls_tys ["bool", "int"], .base (.int i), kit_any (bs := ["bool", "int"]) (by decide +kernel), true, rfl, ?_⟩
      refine iteT ?_
      refine ⟨_, rfl, _, _, _, _, true, rfl, .ty "int", .base (.int i), kit_ty (by decide +kernel), true, rfl, ?_⟩
      refine iteT ?_
      refine ⟨_, rfl, _, _, _, _, false, rfl, .ty "bool", .base (.int i), kit_ty (by decide +kernel), _, rfl, _, _, _, _, false, rfl, .ty "bool", .base (.int i), kit_ty (by decide +kernel), rfl, _, rfl, ?_⟩
      refine iteT ?_
      refine ⟨_, rfl, _, rfl, rfl, ?_⟩
      rw [decide_eq_true rfl]
      exact kq _ sm
    | bl n i =>
      refine ⟨_, rfl, (by show 2 ≤ sizeLine; decide), fun tp ht => ?_⟩
      refine ⟨_, tp, [.ty "list", .ty "tuple"], _, _, false, rfl, upd_same, cls_tys ["list", "tuple"], .base (.bl i), kit_any (bs := ["list", "tuple"]) (by decide +kernel), false, rfl, ?_⟩
      refine iteF ?_
      refine ⟨_, rfl, (by show 2 ≤ sizeLine; decide), fun tq hq => ?_⟩
      have sm := (same_new (o := .tup [.ty "list", .ty "tuple"]) ht).trans (same_new (o := .tup [.ty "bool", .ty "int"]) hq)
      refine ⟨_, tq, [.ty "bool", .ty "int"], _, _, true, rfl, upd_same, cls_tys ["bool", "int"], .base (.bl i), kit_any (bs := ["bool", "int"]) (by decide +kernel), true, rfl, ?_⟩
      refine iteT ?_
      refine ⟨_, rfl, _, _, _, _, true, rfl, .ty "int", .base (.bl i), kit_ty (by decide +kernel), true, rfl, ?_⟩
      refine iteT ?_
      refine ⟨_, rfl, _, _, _, _, true, rfl, .ty "bool", .base (.bl i), kit_ty (by decide +kernel), _, rfl, _, _, _, _, true, rfl, .ty "bool", .base (.bl i), kit_ty (by decide +kernel), rfl, _, rfl, ?_⟩
      refine iteT ?_
      refine ⟨_, rfl, _, rfl, rfl, ?_⟩
      rw [decide_eq_true rfl]
      exact kq _ sm
    | non n =>
      have ty0 : TyX K H _ (.type _) := .base .non
      refine ⟨_, rfl, (by show 2 ≤ sizeLine; decide), fun tp ht => ?_⟩
      have sm1 := same_new (o := .tup [.ty "list", .ty "tuple"]) ht
      refine ⟨_, tp, [.ty "list", .ty "tuple"], _, _, false, rfl, upd_same, cls_tys ["list", "tuple"], same_ty sm1 ty0, kit_any (bs := ["list", "tuple"]) (by decide +kernel), false, rfl, ?_⟩
      refine iteF ?_
      refine ⟨_, rfl, (by show 2 ≤ sizeLine; decide), fun tq hq => ?_⟩
      have sm2 := sm1.trans (same_new (o := .tup [.ty "bool", .ty "int"]) hq)
      refine ⟨_, tq, [.ty "bool", .ty "int"], _, _, false, rfl, upd_same, cls_tys ["bool", "int"], same_ty sm2 ty0, kit_any (bs := ["bool", "int"]) (by decide +kernel), false, rfl, ?_⟩
      refine iteF ?_
      refine ⟨_, rfl, (by show 4 ≤ sizeLine; decide), fun tr hr3 => ?_⟩
      have sm3 := sm2.trans (same_new (o := .tup [.ty "bool", .ty "int", .ty "list", .ty "tuple"]) hr3)
      refine ⟨_, tr, [.ty "bool", .ty "int", .ty "list", .ty "tuple"], _, _, false, rfl, upd_same, cls_tys ["bool", "int", "list", "tuple"], same_ty sm3 ty0, kit_any (bs := ["bool", "int", "list", "tuple"]) (by decide +kernel), ?_⟩
      refine ⟨_, rfl, true, rfl, ?_⟩
      refine iteT ?_
      refine ⟨_, rfl, _, rfl, .inl ⟨rfl, by rw [decide_eq_true rfl]; exact kq _ sm3⟩⟩
    | str n z =>
      have ty0 : TyX K H _ (.type _) := .base (.str z)
      refine ⟨_, rfl, (by show 2 ≤ sizeLine; decide), fun tp ht => ?_⟩
      have sm1 := same_new (o := .tup [.ty "list", .ty "tuple"]) ht
      refine ⟨_, tp, [.ty "list", .ty "tuple"], _, _, false, rfl, upd_same, cls_tys ["list", "tuple"], same_ty sm1 ty0, kit_any (bs := ["list", "tuple"]) (by decide +kernel), false, rfl, ?_⟩
      refine iteF ?_
      refine ⟨_, rfl, (by show 2 ≤ sizeLine; decide), fun tq hq => ?_⟩
      have sm2 := sm1.trans (same_new (o := .tup [.ty "bool", .ty "int"]) hq)
      refine ⟨_, tq, [.ty "bool", .ty "int"], _, _, false, rfl, upd_same, cls_tys ["bool", "int"], same_ty sm2 ty0, kit_any (bs := ["bool", "int"]) (by decide +kernel), false, rfl, ?_⟩
      refine iteF ?_
      refine ⟨_, rfl, (by show 4 ≤ sizeLine; decide), fun tr hr3 => ?_⟩
      have sm3 := sm2.trans (same_new (o := .tup [.ty "bool", .ty "int", .ty "list", .ty "tuple"]) hr3)
      refine ⟨_, tr, [.ty "bool", .ty "int", .ty "list", .ty "tuple"], _, _, false, rfl, upd_same, cls_tys ["bool", "int", "list", "tuple"], same_ty sm3 ty0, kit_any (bs := ["bool", "int", "list", "tuple"]) (by decide +kernel), ?_⟩
      refine ⟨_, rfl, true, rfl, ?_⟩
      refine iteT ?_
      refine ⟨_, rfl, _, rfl, .inl ⟨rfl, by rw [decide_eq_true rfl]; exact kq _ sm3⟩⟩
    | @dic n a hda =>
      have ty0 : TyX K H _ (.type _) := .base (.dK hda)
      refine ⟨_, rfl, (by show 2 ≤ sizeLine; decide), fun tp ht => ?_⟩
      have sm1 := same_new (o := .tup [.ty "list", .ty "tuple"]) ht
      refine ⟨_, tp, [.ty "list", .ty "tuple"], _, _, false, rfl, upd_same, cls_tys ["list", "tuple"], same_ty sm1 ty0, kit_any (bs := ["list", "tuple"]) (by decide +kernel), false, rfl, ?_⟩
      refine iteF ?_
      refine ⟨_, rfl, (by show 2 ≤ sizeLine; decide), fun tq hq => ?_⟩
      have sm2 := sm1.trans (same_new (o := .tup [.ty "bool", .ty "int"]) hq)
      refine ⟨_, tq, [.ty "bool", .ty "int"], _, _, false, rfl, upd_same, cls_tys ["bool", "int"], same_ty sm2 ty0, kit_any (bs := ["bool", "int"]) (by decide +kernel), false, rfl, ?_⟩
      refine iteF ?_
      refine ⟨_, rfl, (by show 4 ≤ sizeLine; decide), fun tr hr3 => ?_⟩
      have sm3 := sm2.trans (same_new (o := .tup [.ty "bool", .ty "int", .ty "list", .ty "tuple"]) hr3)
      refine ⟨_, tr, [.ty "bool", .ty "int", .ty "list", .ty "tuple"], _, _, false, rfl, upd_same, cls_tys ["bool", "int", "list", "tuple"], same_ty sm3 ty0, kit_any (bs := ["bool", "int", "list", "tuple"]) (by decide +kernel), ?_⟩
      refine ⟨_, rfl, true, rfl, ?_⟩
      refine iteT ?_
      refine ⟨_, rfl, _, rfl, .inr ⟨a, a, [], [], rfl, rfl, sm3 _ _ hda, sm3 _ _ hda, rfl, (fun p hp => nomatch hp), kq _ sm3⟩⟩
    | @lst n a b xs ys h1 h2 hl hz hh =>
      refine ⟨_, rfl, (by show 2 ≤ sizeLine; decide), fun tp ht => ?_⟩
      have sm1 := same_new (o := .tup [.ty "list", .ty "tuple"]) ht
      have g1 := Same.seq sm1 h1
      have g2 := Same.seq sm1 h2
      refine ⟨_, tp, [.ty "list", .ty "tuple"], _, _, true, rfl, upd_same, cls_tys ["list", "tuple"], ty_lst g2, kit_any (bs := ["list", "tuple"]) (by decide +kernel), true, rfl, ?_⟩
      refine iteT ?_
      refine ⟨_, rfl, _, _, _, _, true, rfl, .ty "list", ty_lst g1, kit_ty (by decide +kernel), _, rfl, _, _, _, _, true, rfl, .ty "list", ty_lst g2, kit_ty (by decide +kernel), rfl, _, rfl, ?_⟩
      refine ifF (by simp) ?_
      refine ⟨_, rfl, _, _, _, _, false, rfl, .ty "tuple", ty_lst g1, kit_ty (by decide +kernel), _, rfl, _, _, _, _, false, rfl, .ty "tuple", ty_lst g2, kit_ty (by decide +kernel), rfl, _, rfl, ?_⟩
      refine ifF (by simp) ?_
      refine ⟨_, rfl, a, xs, rfl, .inl g1, _, rfl, b, ys, rfl, .inl g2, rfl, _, rfl, ?_⟩
      refine ifT (by simp [hl]) ?_
      refine ⟨_, rfl, _, rfl, a, b, xs, ys, rfl, .inl ⟨g1, g2, fun D hD => ?_⟩⟩
      refine lc_it (walk_zip (n := xs.length) (by rw [← hl]; simp)) (fun i H' => Same (upd H tp (.tup [.ty "list", .ty "tuple"])) H' ∧ H' D = some (.lst ((List.replicate i true).map V.bl))) ⟨same_new hD, upd_same⟩ (fun i H' _ p => ⟨Same.seq p.1 g1, Same.seq p.1 g2⟩) ?_ ?_
      · rintro i x Hi Hi' hi ⟨sm, hd⟩ ⟨Tp, u, v, rfl, nT, rfl, hu, hv⟩
        refine ⟨Tp, [u, v], rfl, .inl (.inl upd_same), rfl, u, [v], rfl, ?_⟩
        refine ⟨v, [], rfl, rfl, ?_⟩
        refine ⟨rfl, ?_⟩
        unfold tYes
        refine iteT ?_
        have sm2 := sm.trans (same_new (o := .tup [u, v]) nT)
        refine ⟨_, rfl, _, rfl, u, v, rfl, ((hh i u v hu hv).same sm1).same sm2, fun H2 s2 => ?_⟩
        have e : H2 D = some (.lst ((List.replicate i true).map V.bl)) := s2 _ _ (by rw [upd_ne (ne_of_none hd nT)]; exact hd)
        refine ⟨_, e, ?_, same_put (sm2.trans s2) hD, ?_⟩
        · rw [List.length_map, List.length_replicate]
          exact small1000 (by omega)
        · rw [upd_same, List.replicate_succ', List.map_append]
          rfl
      · rintro H2 ⟨sm, hd⟩
        refine ⟨D, List.replicate xs.length true, rfl, SqL.of hd, ?_⟩
        have e : (List.replicate xs.length true).all id = true := by simp
        rw [e]
        exact kq _ (sm1.trans sm)
    | @tup n a b xs ys h1 h2 hl hz hh =>
      refine ⟨_, rfl, (by show 2 ≤ sizeLine; decide), fun tp ht => ?_⟩
      have sm1 := same_new (o := .tup [.ty "list", .ty "tuple"]) ht
      have g1 := same_sqT sm1 h1
      have g2 := same_sqT sm1 h2
      refine ⟨_, tp, [.ty "list", .ty "tuple"], _, _, true, rfl, upd_same, cls_tys ["list", "tuple"], ty_tup g2, kit_any (bs := ["list", "tuple"]) (by decide +kernel), true, rfl, ?_⟩
      refine iteT ?_
      refine ⟨_, rfl, _, _, _, _, false, rfl, .ty "list", ty_tup g1, kit_ty (by decide +kernel), _, rfl, _, _, _, _, false, rfl, .ty "list", ty_tup g2, kit_ty (by decide +kernel), rfl, _, rfl, ?_⟩
      refine ifF (by simp) ?_
      refine ⟨_, rfl, _, _, _, _, true, rfl, .ty "tuple", ty_tup g1, kit_ty (by decide +kernel), _, rfl, _, _, _, _, true, rfl, .ty "tuple", ty_tup g2, kit_ty (by decide +kernel), rfl, _, rfl, ?_⟩
      refine ifF (by simp) ?_
      refine ⟨_, rfl, a, xs, rfl, .inr g1, _, rfl, b, ys, rfl, .inr g2, rfl, _, rfl, ?_⟩
      refine ifT (by simp [hl]) ?_
      refine ⟨_, rfl, _, rfl, a, b, xs, ys, rfl, .inr ⟨g1, g2, fun D hD => ?_⟩⟩
      refine lc_it (walk_zipT hl) (fun i H' => Same (upd H tp (.tup [.ty "list", .ty "tuple"])) H' ∧ H' D = some (.lst ((List.replicate i true).map V.bl))) ⟨same_new hD, upd_same⟩ (fun i H' _ p => ⟨same_sqT p.1 g1, same_sqT p.1 g2⟩) ?_ ?_
      · rintro i x Hi Hi' hi ⟨sm, hd⟩ ⟨Tp, u, v, rfl, nT, rfl, hu, hv⟩
        refine ⟨Tp, [u, v], rfl, .inl (.inl upd_same), rfl, u, [v], rfl, ?_⟩
        refine ⟨v, [], rfl, rfl, ?_⟩
        refine ⟨rfl, ?_⟩
        unfold tYes
        refine iteT ?_
        have sm2 := sm.trans (same_new (o := .tup [u, v]) nT)
        refine ⟨_, rfl, _, rfl, u, v, rfl, ((hh i u v hu hv).same sm1).same sm2, fun H2 s2 => ?_⟩
        have e : H2 D = some (.lst ((List.replicate i true).map V.bl)) := s2 _ _ (by rw [upd_ne (ne_of_none hd nT)]; exact hd)
        refine ⟨_, e, ?_, same_put (sm2.trans s2) hD, ?_⟩
        · rw [List.length_map, List.length_replicate]
          exact small1000 (by omega)
        · rw [upd_same, List.replicate_succ', List.map_append]
          rfl
      · rintro H2 ⟨sm, hd⟩
        refine ⟨D, List.replicate xs.length true, rfl, SqL.of hd, ?_⟩
        have e : (List.replicate xs.length true).all id = true := by simp
        rw [e]
        exact kq _ (sm1.trans sm)
/-- to every depth, by so many levels -/
theorem ok_same {f : Addr} {fd : FuncData} (F : Fun K "_law_same" "_law_same" sSame f fd) (T : ST mg f) (b : Binds K fd ["_law_found", "_law_due"] []) : ∀ n, FnOk P w K mg base CX0 (n + 1) f fd ["_law_found", "_law_due"] (spSame K n)
  | 0 => same_step (k := 0) F T b ⟨fun _ _ _ _ z => z.elim, fun _ _ _ _ _ _ _ _ _ _ _ _ _ z => z.elim⟩
  | n + 1 => same_step F T b (ok_same F T b n)
end
end Mv
namespace Mv
open PySem PySem.Spec PyProof.Rows L2
abbrev sObj : Stmt := top 35
theorem sqT_of {K : PySem.W.Frag} {H : Hp} {a : Addr} {xs : List V} (h : H a = some (.tup xs)) : SqT K H a xs := .inl (.inl h)
theorem sqL_of {K : PySem.W.Frag} {H : Hp} {a : Addr} {xs : List V} (h : H a = some (.lst xs)) : SqL K H a xs := .inl (.inl h)
theorem dp_ints {K : PySem.W.Frag} {H : Hp} : ∀ (ns : List Int), DpAll K H (ns.map V.int) (ns.map PyData.int)
  | [] => .nil
  | n :: ns => .cons (.int n) (dp_ints ns)
theorem lay_ints : ∀ (ns : List Int), PyData.canLayAll0 (ns.map PyData.int) = true
  | [] => rfl
  | n :: ns => by
    show (PyData.canLay0 (.int n) && PyData.canLayAll0 (ns.map PyData.int)) = true
    rw [lay_ints ns]
    rfl
theorem deep_ints : ∀ (ns : List Int), PyData.depthAll (ns.map PyData.int) = 0
  | [] => rfl
  | n :: ns => by
    show max (PyData.depth (.int n)) (PyData.depthAll (ns.map PyData.int)) = 0
    rw [deep_ints ns]
    rfl
theorem shaped_ints (ns : List Int) : SeqAt.shaped (.list (ns.map PyData.int)) = true := by
  unfold SeqAt.shaped
  have e1 : (PyData.list (ns.map PyData.int)).canLay0 = true := lay_ints ns
  have e2 : (PyData.list (ns.map PyData.int)).depth ≤ 64 := by
    show PyData.depthAll (ns.map PyData.int) + 1 ≤ 64
    rw [deep_ints]
    omega
  rw [e1, decide_eq_true e2]
  rfl
theorem eqv_ints_nil (ns : List Int) : PyData.eqv (.list (ns.map PyData.int)) (.list []) = ns.isEmpty := by
  cases ns <;> rfl
def spObj (K : PySem.W.Frag) : Sp := fun vs H Q _ => ∃ (a : Addr) (ns : List Int), vs = [.ref a] ∧ SqL K H a (ns.map V.int) ∧ ∀ v H', Same H H' → SmD K H' 3 v v → Q v H'
structure OT (mg : Str → Option Value) : Prop where
  abs : mg "abs" = none
  int : mg "int" = none
section
variable {P : Program} {w : World} {K : PySem.W.Frag} {mg : Str → Option Value} {base : Heap}
theorem scOb : FnScope ["_law_script", "_law_cell", "_law_menu"] ["_law_script"] (defScope sObj) := ⟨rfl, rfl, rfl, by decide +kernel, rfl, by decide +kernel, by decide +kernel⟩
theorem fmod_lo {a m : Int} (h : 0 < m) : 0 ≤ a.fmod m := by
  rw [Int.fmod_eq_emod_of_nonneg _ (Int.le_of_lt h)]
  exact Int.emod_nonneg _ (by omega)
theorem fmod_hi {a m : Int} (h : 0 < m) : a.fmod m < m := by
  rw [Int.fmod_eq_emod_of_nonneg _ (Int.le_of_lt h)]
  exact Int.emod_lt_of_pos _ h
theorem self_tup {H : Hp} {a : Addr} {xs : List V} {n : Nat} (h : SqT K H a xs) (hz : xs.length ≤ 1000) (e : ∀ x ∈ xs, SmD K H n x x) : SmD K H (n + 1) (.ref a) (.ref a) := by
  refine .tup h h rfl hz fun i x y e1 e2 => ?_
  rw [e1] at e2
  cases e2
  exact e x (List.mem_of_getElem? e1)
theorem ok_obj {f : Addr} {fd : FuncData} (F : Fun K "_law_object" "_law_object" sObj f fd) (T : OT mg) : FnOk P w K mg base CX0 1 f fd ["_law_script"] (spObj K) := by
  refine F.ok scOb (fun vs H Q E h => ?_) (fun cdv A outer s H vs Q E hr h => ?_)
  · obtain ⟨a, ns, rfl, _⟩ := h
    rfl
  · obtain ⟨a, ns, rfl, hS, k⟩ := h
    refine ⟨_, C8.pss_cut (ps_set (i := 1) scOb.nd rfl (.inl rfl) (pe_ifExp (pt_cmpR (op_neD hr.units) (pv 0) (pe_lst pa_nil) (nomark _)) (pe_callB call_abs (by rfl) T.abs (by decide +kernel) (pa_cons (pe_ix ix_list (pv 0) pe_int (fun _ _ => rfl)) pa_nil)) pe_int))
      (pss_cons (ps_set (i := 2) scOb.nd rfl (.inl rfl) (pe_lst (pa_cons (pe_op op_sub (pe_op op_pow pe_int pe_int) (pe_op op_modN (pv 1) pe_int)) (pa_cons pe_str (pa_cons (pe_tup (pa_cons (pe_op op_modN (pv 1) pe_int) (pa_cons pe_str pa_nil))) (pa_cons pe_non
        (pa_cons (pe_tup (pa_cons (pe_tup (pa_cons pe_int (pa_cons pe_bl pa_nil))) (pa_cons (pe_tup (pa_cons pe_int (pa_cons pe_bl pa_nil))) pa_nil))) (pa_cons (pe_lst (pa_cons (pe_op op_modN (pv 1) pe_int) pa_nil)) (pa_cons (pe_un un_neg pe_int) pa_nil)))))))))
      (pss_one (ps_ret (pe_ix ix_list (pv 2) (pe_op op_modN (pe_callTy call_int1 (by rfl) T.int (by decide +kernel) (pa_cons (pe_op op_fdivN (pv 1) pe_int) pa_nil)) pe_int) (fun _ _ => rfl))))), ?_⟩
    refine ⟨fun σ H' => (∃ m : Int, σ = [some (.ref a), some (.int m), none]) ∧ Same H H', ?_, ?_⟩
    · refine ⟨_, rfl, (by show 0 ≤ sizeLine; decide), fun e he => ?_⟩
      have s0 := same_new (o := .lst []) he
      refine ⟨.list (ns.map PyData.int), .list [], .lst (s0.seq hS) (dp_ints ns), .lst (sqL_of upd_same) .nil, shaped_ints ns, rfl, ?_⟩
      rw [eqv_ints_nil]
      cases ns with
      | nil =>
        refine ⟨_, rfl, ?_⟩
        refine iteF ?_
        exact ⟨⟨0, rfl⟩, s0⟩
      | cons n ns =>
        refine ⟨_, rfl, ?_⟩
        refine iteT ?_
        exact ⟨_, rfl, a, _, 0, _, rfl, rfl, s0.seq hS, atI_nat (j := 0) rfl, n, rfl, ⟨_, rfl⟩, s0⟩
    · rintro σ H1 ⟨⟨m, rfl⟩, s1⟩
      refine ⟨_, _, rfl, rfl, ⟨by decide, by decide, by decide⟩, _, rfl, _, _, rfl, rfl, (show (9 : Int) ≠ 0 by decide), _, _, rfl, rfl, ?_⟩
      refine ⟨_, rfl, _, _, rfl, rfl, (show (5 : Int) ≠ 0 by decide), (by show 2 ≤ sizeLine; decide), fun b1 h1 => ?_⟩
      refine ⟨(by show 2 ≤ sizeLine; decide), fun b2 h2 => ?_⟩
      refine ⟨(by show 2 ≤ sizeLine; decide), fun b3 h3 => ?_⟩
      refine ⟨(by show 2 ≤ sizeLine; decide), fun b4 h4 => ?_⟩
      refine ⟨_, rfl, _, _, rfl, rfl, (show (7 : Int) ≠ 0 by decide), (by show 1 ≤ sizeLine; decide), fun b5 h5 => ?_⟩
      refine ⟨_, rfl, (by show 7 ≤ sizeLine; decide), fun L hL => ?_⟩
      obtain ⟨i, hi, ei⟩ : ∃ i : Nat, i < 7 ∧ (m.fdiv 63).fmod 7 = (i : Int) := by
        have q0 := fmod_lo (a := m.fdiv 63) (m := 7) (by decide)
        have q1 := fmod_hi (a := m.fdiv 63) (m := 7) (by decide)
        exact ⟨((m.fdiv 63).fmod 7).toNat, by omega, (Int.toNat_of_nonneg q0).symm⟩
      have n12 : b1 ≠ b2 := fun z => (upd_nn h2).1 z.symm
      have t1 := s1.trans (same_new (o := .tup [V.int (m.fmod 5), V.str "x"]) h1)
      have t2 := t1.trans (same_new (o := .tup [V.int 1, V.bl true]) h2)
      have u3 := same_new (o := .tup [V.int 0, V.bl false]) h3
      have u4 := same_new (o := .tup [V.ref b2, V.ref b3]) h4
      have u5 := same_new (o := .lst [V.int (m.fmod 7)]) h5
      have u6 := same_new (o := .lst [V.int (10 ^ 11 - m.fmod 9), V.str "some", V.ref b1, V.non, V.ref b4, V.ref b5, V.int (-3)]) hL
      have g1 := u6 _ _ (u5 _ _ (u4 _ _ (u3 _ _ (same_new (o := .tup [V.int 1, V.bl true]) h2 _ _ upd_same))))
      have g2 := u6 _ _ (u5 _ _ (u4 _ _ (u3 _ _ upd_same)))
      have g3 := u6 _ _ (u5 _ _ (u4 _ _ upd_same))
      have g4 := u6 _ _ (u5 _ _ upd_same)
      have g5 := u6 _ _ upd_same
      have sT := t2.trans (u3.trans (u4.trans (u5.trans u6)))
      obtain ⟨v, hv, hs⟩ : ∃ v, ([V.int (10 ^ 11 - m.fmod 9), V.str "some", V.ref b1, V.non, V.ref b4, V.ref b5, V.int (-3)] : List V)[i]? = some v ∧ SmD K (upd (upd (upd (upd (upd (upd H1 b1 (.tup [V.int (m.fmod 5), V.str "x"])) b2 (.tup [V.int 1, V.bl true])) b3 (.tup [V.int 0, V.bl false])) b4 (.tup [V.ref b2, V.ref b3])) b5 (.lst [V.int (m.fmod 7)])) L (.lst [V.int (10 ^ 11 - m.fmod 9), V.str "some", V.ref b1, V.non, V.ref b4, V.ref b5, V.int (-3)])) 3 v v := by
        match i, hi with
        | 0, _ => exact ⟨_, rfl, .int _ _⟩
        | 1, _ => exact ⟨_, rfl, .str _ _⟩
        | 2, _ => exact ⟨_, rfl, self_tup (n := 2) (sqT_of g1) (by show 2 ≤ 1000; decide) (fun x hx => (by simp only [List.mem_cons, List.not_mem_nil, or_false] at hx; rcases hx with rfl | rfl; exact .int _ _; exact .str _ _))⟩
        | 3, _ => exact ⟨_, rfl, .non _⟩
        | 4, _ =>
          refine ⟨_, rfl, self_tup (n := 2) (sqT_of g4) (by show 2 ≤ 1000; decide) fun x hx => ?_⟩
          simp only [List.mem_cons, List.not_mem_nil, or_false] at hx
          rcases hx with rfl | rfl
          · exact self_tup (n := 1) (sqT_of g2) (by show 2 ≤ 1000; decide) (fun x hx => (by simp only [List.mem_cons, List.not_mem_nil, or_false] at hx; rcases hx with rfl | rfl; exact .int _ _; exact .bl _ _))
          · exact self_tup (n := 1) (sqT_of g3) (by show 2 ≤ 1000; decide) (fun x hx => (by simp only [List.mem_cons, List.not_mem_nil, or_false] at hx; rcases hx with rfl | rfl; exact .int _ _; exact .bl _ _))
        | 5, _ => exact ⟨_, rfl, .lst (n := 2) (sqL_of g5) (sqL_of g5) rfl (by show 1 ≤ 1000; decide) fun i x y e1 e2 => (by rw [e1] at e2; cases e2; match i, e1 with | 0, e1 => (cases e1; exact .int _ _))⟩
        | 6, _ => exact ⟨_, rfl, .int _ _⟩
      refine ⟨_, rfl, _, rfl, _, _, rfl, rfl, (show (63 : Int) ≠ 0 ∧ (63 : Int).natAbs < 1073741824 by decide), .inl ⟨_, rfl, _, _, rfl, rfl, (show (7 : Int) ≠ 0 by decide), L, _, _, v, rfl, rfl, sqL_of upd_same, ?_, k v _ sT hs⟩⟩
      rw [ei]
      exact atI_nat hv
end
end Mv
namespace Mv
open PySem PySem.Spec PyProof.Rows L2 LamX
/-! ### statements told by what holds ahead of and behind them -/
def Ho (X : Cx) (st : Stmt) (pre post : L2.St → Hp → Prop) : Prop := ∃ t, PS X st t ∧ ∀ D σ H, pre σ H → (∀ σ' H', post σ' H' → D.nx σ' H') → t D σ H
def Hos (X : Cx) (sts : List Stmt) (pre post : L2.St → Hp → Prop) : Prop := ∃ t, PSs X sts t ∧ ∀ D σ H, pre σ H → (∀ σ' H', post σ' H' → D.nx σ' H') → t D σ H
theorem Ho.cons {X : Cx} {st : Stmt} {r : List Stmt} {a b c : L2.St → Hp → Prop} (h : Ho X st a b) (g : Hos X r b c) : Hos X (st :: r) a c := by
  obtain ⟨t, ht, kt⟩ := h
  obtain ⟨u, hu, ku⟩ := g
  refine ⟨_, C8.pss_cut ht hu, fun D σ H ha k => ⟨b, kt _ σ H ha fun _ _ q => q, fun σ' H' hb => ku D σ' H' hb k⟩⟩
theorem Hos.nil {X : Cx} {a : L2.St → Hp → Prop} : Hos X [] a a := ⟨_, pss_nil, fun _ _ _ ha k => k _ _ ha⟩
def Hr (X : Cx) (sts : List Stmt) (pre : L2.St → Hp → Prop) (post : V → Hp → Prop) : Prop := ∃ t, PSs X sts t ∧ ∀ D σ H, pre σ H → (∀ v H', post v H' → D.rt v H') → t D σ H
theorem Ho.consR {X : Cx} {st : Stmt} {r : List Stmt} {a b : L2.St → Hp → Prop} {c : V → Hp → Prop} (h : Ho X st a b) (g : Hr X r b c) : Hr X (st :: r) a c := by
  obtain ⟨t, ht, kt⟩ := h
  obtain ⟨u, hu, ku⟩ := g
  refine ⟨_, C8.pss_cut ht hu, fun D σ H ha k => ⟨b, kt _ σ H ha fun _ _ q => q, fun σ' H' hb => ku D σ' H' hb k⟩⟩
def stAt (l : List Stmt) (i : Nat) : Stmt := l.getD i (.Pass ⟨0, 0, 0, 0⟩)
/-- values told by what holds ahead of them -/
def Hv (X : Cx) (e : Expr) (pre : L2.St → Hp → Prop) (post : V → Hp → Hp → Prop) : Prop := ∃ t, PE X e t ∧ ∀ σ H Q, pre σ H → (∀ v H', post v H H' → Q v H') → t σ H Q
/-! ### the classes -/
def KORD : List Str := ["BadBegins", "BadBegun", "BadBox", "BadCondition", "BadConstant", "BadFaults", "BadForm", "BadGoal", "BadGroup", "BadIndex", "BadMany", "BadPlaces", "BadPromise", "BadRule", "BadRun", "BadWish", "BadWord", "NoPlace", "NoRule", "NoSort", "NoTerms", "NotHeard", "NotStopping", "NotThere", "TooMany", "UnlikePlaces", "BadDeed", "BadText", "NameInUse", "NoName", "NoText"]
theorem kord_one : ∀ x ∈ KORD, ((KORD.map fun y => decide (x = y)).filter id).length = 1 := by decide +kernel
abbrev sKinds : Stmt := top 36
abbrev cA (K : PySem.W.Frag) (x : Str) : Addr := He.ga K x
structure KT (K : PySem.W.Frag) (mg : Str → Option Value) : Prop where
  isi : mg "isinstance" = none
  len : mg "len" = none
  gl : ∀ y ∈ KORD, mg y = some (.ref (cA K y))
  ex : ∀ y ∈ KORD, ExcC K (cA K y)
  kit : ∀ x ∈ KORD, ∀ y ∈ KORD, PySem.W.kitOne K (.ref (cA K x)) (.ref (cA K y)) = some (decide (x = y))
/-- the error at a, of the class x -/
def ExAt (K : PySem.W.Frag) (H : Hp) (a : Addr) (x : Str) : Prop := ∃ d, H a = some (exo a (cA K x) d) ∧ ∀ e, d = some e → ∃ fs, H e = some (exd e fs)
theorem exo_lst {e C : Addr} {d : Option Addr} {xs : List V} : exo e C d ≠ .lst xs := fun z => by
  unfold exo at z
  cases z
theorem exd_lst {e : Addr} {fs : List (Str × V)} {xs : List V} : exd e fs ≠ .lst xs := fun z => by
  unfold exd at z
  cases z
theorem ExAt.put {K : PySem.W.Frag} {H : Hp} {a L : Addr} {x : Str} {xs : List V} {o : HO} (h : ExAt K H a x) (hL : H L = some (.lst xs)) : ExAt K (upd H L o) a x := by
  obtain ⟨d, h1, h2⟩ := h
  refine ⟨d, by rw [upd_ne (at_ne hL h1 (Ne.symm exo_lst))]; exact h1, fun e he => ?_⟩
  obtain ⟨fs, h3⟩ := h2 e he
  exact ⟨fs, by rw [upd_ne (at_ne hL h3 (Ne.symm exd_lst))]; exact h3⟩
theorem ExAt.same {K : PySem.W.Frag} {H H' : Hp} {a : Addr} {x : Str} (h : ExAt K H a x) (s : Same H H') : ExAt K H' a x := by
  obtain ⟨d, h1, h2⟩ := h
  refine ⟨d, s _ _ h1, fun e he => ?_⟩
  obtain ⟨fs, h3⟩ := h2 e he
  exact ⟨fs, s _ _ h3⟩
theorem ExAt.ext {K : PySem.W.Frag} {H H' : Hp} {a : Addr} {x : Str} (h : ExAt K H a x) (s : ExtN H H') : ExAt K H' a x := by
  obtain ⟨d, h1, h2⟩ := h
  refine ⟨d, s _ _ h1 (fun ps => exo_tbl), fun e he => ?_⟩
  obtain ⟨fs, h3⟩ := h2 e he
  exact ⟨fs, s _ _ h3 (fun ps z => by unfold exd at z; cases z)⟩
/-- isinstance(_law_e, y), one behind the other -/
inductive Isis : List Expr → List Str → Prop
  | nil : Isis [] []
  | cons {es : List Expr} {ys : List Str} {y : Str} {p1 p2 p3 p4 : Pos} (t : Isis es ys) : Isis (.Call (.Name "isinstance" p1) [.Name "_law_e" p2, .Name y p3] [] p4 :: es) (y :: ys)
section
variable {X : Cx} {i : Nat}
theorem pa_isis (T : KT X.K X.mg) (hN : X.N[i]? = some "_law_e") (hv : Vis X.env.scope "_law_e") (gi : Gl X "isinstance") (gy : ∀ y ∈ KORD, Gl X y ∧ (y == ("__debug__" : Str)) = false) {x : Str} (hx : x ∈ KORD) {es : List Expr} {ys : List Str} (h : Isis es ys) (hy : ∀ y ∈ ys, y ∈ KORD) :
    ∃ t, PA X es t ∧ ∀ (σ : L2.St) (H : Hp) (Q : List V → Hp → Prop) (a : Addr), σ[i]? = some (some (.ref a)) → ExAt X.K H a x → Q (ys.map fun y => V.bl (decide (x = y))) H → t σ H Q := by
  induction h with
  | nil => exact ⟨_, pa_nil, fun _ _ _ _ _ _ q => q⟩
  | @cons es ys y p1 p2 p3 p4 h ih =>
    obtain ⟨t, ht, k⟩ := ih fun z hz => hy z (List.mem_cons_of_mem _ hz)
    have my := hy y List.mem_cons_self
    obtain ⟨g1, g2⟩ := gy y my
    refine ⟨_, pa_cons (pe_callB call_isV gi T.isi (by decide +kernel) (pa_cons (pe_var hN hv) (pa_cons (pe_glob (v := .ref (cA X.K y)) g1 (T.gl y my) rfl g2) pa_nil))) ht, fun σ H Q a hs ha q => ?_⟩
    obtain ⟨d, h1, h2⟩ := ha
    exact ⟨_, hs, a, cA X.K x, d, _, _, _, rfl, h1, T.ex x hx, h2, fun u z => z, T.kit x hx y my, k σ H _ a hs ⟨d, h1, h2⟩ q⟩
end
end Mv
namespace Mv
open PySem PySem.Spec PyProof.Rows L2 LamX
abbrev nKi : List Str := ["_law_e", "_law_found", "_law_is_so"]
theorem scKi : FnScope nKi ["_law_e"] (defScope sKinds) := ⟨rfl, rfl, rfl, by decide +kernel, rfl, by decide +kernel, by decide +kernel⟩
abbrev kiB : List Stmt := defBody sKinds
theorem kiB_eq : kiB = [stAt kiB 0, stAt kiB 1, stAt kiB 2, stAt kiB 3, stAt kiB 4, stAt kiB 5, stAt kiB 6, stAt kiB 7, stAt kiB 8] := rfl
def spKinds (K : PySem.W.Frag) : Sp := fun vs H Q _ => ∃ (a : Addr) (x : Str), vs = [.ref a] ∧ x ∈ KORD ∧ ExAt K H a x ∧ ∀ H', Same H H' → Q (.int 1) H'
theorem gy_kinds : ∀ y ∈ KORD, (defScope sKinds).names.lookup y = some .globalImplicit ∧ (y == ("__debug__" : Str)) = false := by decide +kernel
section
variable {P : Program} {w : World} {K : PySem.W.Frag} {mg : Str → Option Value} {base : Heap} {f : Addr} {cdv : Value} {A : Around} {outer : List Env} {s : Shared} {H0 : Hp} {E0 : XK}
abbrev KX (P : Program) (w : World) (K : PySem.W.Frag) (mg : Str → Option Value) (base : Heap) (f : Addr) (cdv : Value) (A : Around) (outer : List Env) (s : Shared) (H : Hp) (E : XK) : Cx := (cxOf CX0 P w K mg base nKi "_law_kinds" (defScope sKinds) f cdv A outer s H E).nox
/-- so far: the answers bs, all else as at the start -/
def KS (K : PySem.W.Frag) (Hs : Hp) (a : Addr) (x : Str) (bs : List Bool) (σ : L2.St) (H : Hp) : Prop := ∃ L v, σ = [some (.ref a), some (.ref L), v] ∧ H L = some (.lst (bs.map V.bl)) ∧ Hs L = none ∧ ExAt K H a x ∧ Same Hs H
theorem ho_first {a : Addr} {x : Str} {Hs : Hp} (T : KT K mg) (hx : x ∈ KORD) {es : List Expr} {ys : List Str} {p1 p2 p3 : Pos} (h : Isis es ys) (hy : ∀ y ∈ ys, y ∈ KORD) (hl : ys.length ≤ 100) :
    Ho (KX P w K mg base f cdv A outer s H0 E0) (.Assign [.Name "_law_found" p1] (.List es p2) p3) (fun σ H => H = Hs ∧ ExAt K H a x ∧ σ = [some (.ref a), none, none]) (KS K Hs a x (ys.map fun y => decide (x = y))) := by
  obtain ⟨t, ht, k⟩ := pa_isis (X := KX P w K mg base f cdv A outer s H0 E0) (i := 0) T rfl (.inl rfl) rfl (fun y hy => gy_kinds y hy) hx h hy
  refine ⟨_, ps_set (i := 1) scKi.nd rfl (.inl rfl) (pe_lst ht), ?_⟩
  rintro D σ H ⟨rfl, ha, rfl⟩ kk
  refine k _ H _ a rfl ha ?_
  refine ⟨by rw [List.length_map]; exact Nat.le_trans hl (by show 100 ≤ sizeLine; decide), fun L hL => ?_⟩
  refine kk _ _ ⟨L, _, rfl, ?_, hL, ha.same (same_new hL), same_new hL⟩
  rw [upd_same, List.map_map]
  rfl
theorem ho_ext {a : Addr} {x : Str} {Hs : Hp} (T : KT K mg) (hx : x ∈ KORD) {bs : List Bool} {es : List Expr} {ys : List Str} {p1 p2 p3 p4 p5 : Pos} (h : Isis es ys) (hy : ∀ y ∈ ys, y ∈ KORD) (hl : bs.length + ys.length ≤ 100) (hp : (p2.endLine == p4.line) = true := by rfl) :
    Ho (KX P w K mg base f cdv A outer s H0 E0) (.Expr (.Call (.Attribute (.Name "_law_found" p1) "extend" p2) [.List es p3] [] p4) p5) (KS K Hs a x bs) (KS K Hs a x (bs ++ ys.map fun y => decide (x = y))) := by
  obtain ⟨t, ht, k⟩ := pa_isis (X := KX P w K mg base f cdv A outer s H0 E0) (i := 0) T rfl (.inl rfl) rfl (fun y hy => gy_kinds y hy) hx h hy
  refine ⟨_, ps_expr (pe_bm PySem.F.plainAttrs_list PySem.F.slot_list_extend PySem.F.type_list_extend mt_extend (pv 1) (pa_cons (pe_lst ht) pa_nil) (hline := hp)), ?_⟩
  rintro D σ H ⟨L, v, rfl, hL, hn, ha, sm⟩ kk
  refine ⟨_, rfl, .inl ⟨rfl, _, SqL.of hL⟩, ?_⟩
  refine k _ H _ a rfl ha ?_
  refine ⟨by rw [List.length_map]; exact Nat.le_trans (show ys.length ≤ 100 by omega) (by show 100 ≤ sizeLine; decide), fun p hp => ?_⟩
  have s1 := same_new (o := .lst (ys.map fun y => V.bl (decide (x = y)))) hp
  have hL1 := s1 _ _ hL
  refine ⟨L, p, bs.map V.bl, _, rfl, rfl, hL1, upd_same, ?_, ?_⟩
  · rw [List.length_map, List.length_map]
    exact Nat.le_trans hl (by show 100 ≤ sizeLine; decide)
  · refine kk _ _ ⟨L, v, rfl, ?_, hn, (ha.same s1).put hL1, same_put (sm.trans s1) hn⟩
    rw [upd_same, List.map_append, List.map_map]
    rfl
abbrev B1 (x : Str) : List Bool := (["BadBegins", "BadBegun", "BadBox", "BadCondition"] : List Str).map fun y => decide (x = y)
abbrev B2 (x : Str) : List Bool := B1 x ++ (["BadConstant", "BadFaults", "BadForm", "BadGoal"] : List Str).map fun y => decide (x = y)
abbrev B3 (x : Str) : List Bool := B2 x ++ (["BadGroup", "BadIndex", "BadMany", "BadPlaces"] : List Str).map fun y => decide (x = y)
abbrev B4 (x : Str) : List Bool := B3 x ++ (["BadPromise", "BadRule", "BadRun", "BadWish"] : List Str).map fun y => decide (x = y)
abbrev B5 (x : Str) : List Bool := B4 x ++ (["BadWord", "NoPlace", "NoRule", "NoSort"] : List Str).map fun y => decide (x = y)
abbrev B6 (x : Str) : List Bool := B5 x ++ (["NoTerms", "NotHeard", "NotStopping", "NotThere"] : List Str).map fun y => decide (x = y)
abbrev B7 (x : Str) : List Bool := B6 x ++ (["TooMany", "UnlikePlaces", "BadDeed", "BadText"] : List Str).map fun y => decide (x = y)
abbrev B8 (x : Str) : List Bool := B7 x ++ (["NameInUse", "NoName", "NoText"] : List Str).map fun y => decide (x = y)
theorem kord_b8 (x : Str) : B8 x = KORD.map fun y => decide (x = y) := rfl
theorem ok_kinds {fd : FuncData} (F : Fun K "_law_kinds" "_law_kinds" sKinds f fd) (T : KT K mg) : FnOk P w K mg base CX0 1 f fd ["_law_e"] (spKinds K) := by
  refine F.ok scKi (fun vs H Q E h => ?_) (fun cdv A outer s H vs Q E hr h => ?_)
  · obtain ⟨a, x, rfl, _⟩ := h
    rfl
  · obtain ⟨a, x, rfl, hx, ha, k⟩ := h
    have e8 : ∀ y ∈ KORD, y ∈ KORD := fun _ z => z
    have c0 : Ho (KX P w K mg base f cdv A outer s H E) (stAt kiB 0) _ _ := ho_first (a := a) (x := x) (Hs := H) T hx (ys := ["BadBegins", "BadBegun", "BadBox", "BadCondition"]) (.cons (.cons (.cons (.cons .nil)))) (by decide +kernel) (by decide)
    have c1 : Ho (KX P w K mg base f cdv A outer s H E) (stAt kiB 1) _ _ := ho_ext (a := a) (x := x) (Hs := H) (bs := B1 x) T hx (ys := ["BadConstant", "BadFaults", "BadForm", "BadGoal"]) (.cons (.cons (.cons (.cons .nil)))) (by decide +kernel) (show 8 ≤ 100 by decide)
    have c2 : Ho (KX P w K mg base f cdv A outer s H E) (stAt kiB 2) _ _ := ho_ext (a := a) (x := x) (Hs := H) (bs := B2 x) T hx (ys := ["BadGroup", "BadIndex", "BadMany", "BadPlaces"]) (.cons (.cons (.cons (.cons .nil)))) (by decide +kernel) (show 12 ≤ 100 by decide)
    have c3 : Ho (KX P w K mg base f cdv A outer s H E) (stAt kiB 3) _ _ := ho_ext (a := a) (x := x) (Hs := H) (bs := B3 x) T hx (ys := ["BadPromise", "BadRule", "BadRun", "BadWish"]) (.cons (.cons (.cons (.cons .nil)))) (by decide +kernel) (show 16 ≤ 100 by decide)
    have c4 : Ho (KX P w K mg base f cdv A outer s H E) (stAt kiB 4) _ _ := ho_ext (a := a) (x := x) (Hs := H) (bs := B4 x) T hx (ys := ["BadWord", "NoPlace", "NoRule", "NoSort"]) (.cons (.cons (.cons (.cons .nil)))) (by decide +kernel) (show 20 ≤ 100 by decide)
    have c5 : Ho (KX P w K mg base f cdv A outer s H E) (stAt kiB 5) _ _ := ho_ext (a := a) (x := x) (Hs := H) (bs := B5 x) T hx (ys := ["NoTerms", "NotHeard", "NotStopping", "NotThere"]) (.cons (.cons (.cons (.cons .nil)))) (by decide +kernel) (show 24 ≤ 100 by decide)
    have c6 : Ho (KX P w K mg base f cdv A outer s H E) (stAt kiB 6) _ _ := ho_ext (a := a) (x := x) (Hs := H) (bs := B6 x) T hx (ys := ["TooMany", "UnlikePlaces", "BadDeed", "BadText"]) (.cons (.cons (.cons (.cons .nil)))) (by decide +kernel) (show 28 ≤ 100 by decide)
    have c7 : Ho (KX P w K mg base f cdv A outer s H E) (stAt kiB 7) _ _ := ho_ext (a := a) (x := x) (Hs := H) (bs := B7 x) T hx (ys := ["NameInUse", "NoName", "NoText"]) (.cons (.cons (.cons .nil))) (by decide +kernel) (show 31 ≤ 100 by decide)
    have r : Hr (KX P w K mg base f cdv A outer s H E) [stAt kiB 8] (KS K H a x (B8 x)) (fun v H' => v = .int 1 ∧ Same H H') := by
      refine ⟨_, pss_one (ps_ret (pe_callB call_len_seq (by rfl) T.len PySem.boot_len (pa_cons (pe_lc (own := [("_law_is_so", 2)]) (g := gName 2) rfl scKi.nd (pi_list (pv 1)) (blkOk_by (N := nKi) (sc := defScope sKinds) (by decide +kernel)) (fun _ _ _ _ _ => pg_name (i := 2) scKi.nd rfl (Or.inl rfl))
        (fun _ _ _ _ _ => pts_one (pt_val (pv 2))) (fun _ _ _ _ _ => pv 2)) pa_nil))), ?_⟩
      rintro D σ H1 ⟨L, v, rfl, hL, hn, hx1, sm⟩ kk
      refine ⟨_, rfl, L, rfl, ⟨_, sqL_of hL⟩, fun R hR => ?_⟩
      refine lc_it (walk_list (xs := (B8 x).map V.bl)) (fun j H' => Same H1 H' ∧ H' R = some (.lst ((((B8 x).take j).filter id).map V.bl))) ⟨same_new hR, upd_same⟩ (fun j H' _ q => sqL_of (q.1 _ _ hL)) ?_ ?_
      · rintro j y H2 H2' hj ⟨s2, hd⟩ ⟨rfl, hy⟩
        refine ⟨rfl, ?_⟩
        rw [List.getElem?_map] at hy
        cases eq : (B8 x)[j]? with
        | none =>
          rw [eq] at hy
          cases hy
        | some b =>
          rw [eq] at hy
          cases hy
          refine ⟨_, rfl, b, rfl, ?_⟩
          cases b with
          | false =>
            refine iteF ?_
            refine ⟨s2, ?_⟩
            rw [take_next eq, List.filter_append]
            show H2' R = some (.lst ((((B8 x).take j).filter id ++ []).map V.bl))
            rw [List.append_nil]
            exact hd
          | true =>
            refine iteT ?_
            refine ⟨_, rfl, _, hd, ?_, same_put s2 hR, ?_⟩
            · rw [List.length_map]
              have q1 := List.length_filter_le id ((B8 x).take j)
              rw [List.length_take] at q1
              have q2 : (B8 x).length = 31 := by rw [kord_b8, List.length_map]; rfl
              exact small1000 (by omega)
            · rw [upd_same, take_next eq, List.filter_append, List.map_append]
              rfl
      · rintro H2 ⟨s2, hd⟩
        have e : (((B8 x).take ((B8 x).map V.bl).length).filter id).length = 1 := by
          rw [List.length_map, List.take_length, kord_b8]
          exact kord_one x hx
        refine ⟨R, _, rfl, .inl (sqL_of hd), kk _ _ ⟨?_, sm.trans s2⟩⟩
        rw [List.length_map, e]
        rfl
    obtain ⟨t, ht, kt⟩ := c0.consR (c1.consR (c2.consR (c3.consR (c4.consR (c5.consR (c6.consR (c7.consR r)))))))
    refine ⟨t, ht, kt _ _ _ ⟨rfl, ha, rfl⟩ fun v H' hv => ?_⟩
    obtain ⟨rfl, s2⟩ := hv
    exact k H' s2
end
end Mv
namespace Mv
open PySem PySem.Spec PyProof.Rows L2 LamX NdefX
/-! ### two errors and a lambda, together -/
def TripAt (K : PySem.W.Frag) (H : Hp) (y : V) (p : Addr) (c : Str × Str) : Prop := ∃ (a1 a2 f d1 d2 : Addr) (F : LamF), H p = some (.tup [.ref a1, .ref a2, .ref f]) ∧ H a1 = some (exo a1 (cA K c.1) (some d1)) ∧ H d1 = some (exd d1 [(c.2, y)]) ∧
  H a2 = some (exo a2 (cA K c.1) (some d2)) ∧ H d2 = some (exd d2 [(c.2, y)]) ∧ H f = some (LamO f F) ∧ FldLam F c.2 ∧ H F.c = some (CodeO F.c F.qual)
/-- all stays but lists and tables -/
def Sty (H H' : Hp) : Prop := ∀ b o, H b = some o → (∀ ps, o ≠ .tbl ps) → (∀ xs, o ≠ .lst xs) → H' b = some o
theorem Sty.ext {H H' : Hp} (e : ExtN H H') : Sty H H' := fun b o h n _ => e b o h n
theorem Sty.same {H H' : Hp} (e : Same H H') : Sty H H' := fun b o h _ _ => e b o h
theorem Sty.put {H H' : Hp} {L : Addr} {xs : List V} {o2 : HO} (e : Sty H H') (hL : H' L = some (.lst xs)) : Sty H (upd H' L o2) := fun b o h n m => by
  have q := e b o h n m
  have nb : b ≠ L := fun z => by
    rw [z, hL] at q
    exact m xs (Option.some.inj q).symm
  rw [upd_ne nb]
  exact q
theorem exd_nt {e : Addr} {fs : List (Str × V)} (ps : Array Value) : exd e fs ≠ .tbl ps := fun z => by
  unfold exd at z
  cases z
theorem lamO_lst {f : Addr} {F : LamF} (xs : List V) : LamO f F ≠ .lst xs := fun z => by
  unfold LamO at z
  cases z
theorem codeO_lst {c : Addr} {q : Str} (xs : List V) : CodeO c q ≠ .lst xs := fun z => by
  unfold CodeO at z
  cases z
theorem TripAt.sty {K : PySem.W.Frag} {H H' : Hp} {y : V} {p : Addr} {c : Str × Str} (h : TripAt K H y p c) (s : Sty H H') : TripAt K H' y p c := by
  obtain ⟨a1, a2, f, d1, d2, F, h1, h2, h3, h4, h5, h6, h7, h8⟩ := h
  exact ⟨a1, a2, f, d1, d2, F, s _ _ h1 (fun _ z => by cases z) (fun _ z => by cases z), s _ _ h2 (fun _ => exo_tbl) (fun _ => exo_lst), s _ _ h3 exd_nt (fun _ => exd_lst), s _ _ h4 (fun _ => exo_tbl) (fun _ => exo_lst), s _ _ h5 exd_nt (fun _ => exd_lst),
    s _ _ h6 lamO_nt lamO_lst, h7, s _ _ h8 (fun _ => codeO_ne _) codeO_lst⟩
theorem ext_new {H : Hp} {a : Addr} {o : HO} (n : H a = none) : ExtN H (upd H a o) := ExtN.of (same_new n)
theorem tabs_new {T : List (Addr × Str)} {H : Hp} {a : Addr} {o : HO} (t : Tabs T H) (n : H a = none) : Tabs T (upd H a o) := t.ext (same_new n)
/-- an expression that makes such -/
structure TripE (X : Cx) (T : List (Addr × Str)) (e : Expr) (c : Str × Str) : Prop where
  tup : ∃ l k p, e = Expr.Tuple l k p
  ex : ∃ t, PE X e t ∧ ∀ (σ : L2.St) (H : Hp) (Q : VK) (y : V), σ[0]? = some (some y) → Tabs T H → (∀ p H', ExtN H H' → Tabs T H' → TripAt X.K H' y p c → Q (.ref p) H') → t σ H Q
section
variable {X : Cx}
theorem pe_trip {T : List (Addr × Str)} {c P : Addr} {q x fld par : Str} {params : Arguments} {scope : Scope} {p1 p2 p3 p4 p5 p6 p7 p8 q1 q2 tp : Pos} {kk : Nat} (EV : ErrV X.prog X.w X.K X.mg X.base x (cA X.K x) fld fld) (hr : Room 3 X.A) (hN : X.N[0]? = some ("_law_a" : Str)) (hv : Vis X.env.scope "_law_a")
    (hg : Gl X x) (hdb : (x == ("__debug__" : Str)) = false)
    (TB : TabB X.base X.mg c P) (hcode : X.env.code = .ref c) (hq : X.env.qual ++ "<lambda>" = q) (hm : (P, q) ∈ T) (hu : ∀ p ∈ T, p.1 = P → p.2 = q) (hdef : defaultsOf params X.env = ([], [])) (hfr : ∀ y ∈ scope.names, y.2 ≠ .free)
    (hL : ∀ c', FldLam ⟨q, params, .Attribute (.Name par q1) fld q2, scope, c'⟩ fld) :
    TripE X T (.Tuple [.Call (.Name x p1) [.Name "_law_a" p2] [] p3, .Call (.Name x p4) [] [⟨some fld, .Name "_law_a" p5, p6⟩] p7, .Lambda params (.Attribute (.Name par q1) fld q2) scope p8] kk tp) (x, fld) := by
  refine ⟨⟨_, _, _, rfl⟩, _, pe_tup (pa_cons (pe_mkV EV hr hg (pe_var hN hv) hdb) (pa_cons (pe_mkVK EV hr hg (pe_var hN hv) hdb) (pa_cons (pe_lamV TB hcode hq hm hu hdef hfr) pa_nil))), ?_⟩
  intro σ H Q y hσ hT k
  refine ⟨y, hσ, fun a1 d1 n1 m1 ne1 => ?_⟩
  have e1 := (ext_new (o := exd d1 [(fld, y)]) m1)
  have f1 : upd H d1 (exd d1 [(fld, y)]) a1 = none := by rw [upd_ne (Ne.symm ne1)]; exact n1
  have e2 := e1.trans (ext_new (o := exo a1 (cA X.K x) (some d1)) f1)
  have t1 := tabs_new (o := exo a1 (cA X.K x) (some d1)) (tabs_new (o := exd d1 [(fld, y)]) hT m1) f1
  have s1 : Same H (upd (upd H d1 (exd d1 [(fld, y)])) a1 (exo a1 (cA X.K x) (some d1))) := (same_new m1).trans (same_new f1)
  have g1 : upd (upd H d1 (exd d1 [(fld, y)])) a1 (exo a1 (cA X.K x) (some d1)) a1 = some (exo a1 (cA X.K x) (some d1)) := upd_same
  have g2 : upd (upd H d1 (exd d1 [(fld, y)])) a1 (exo a1 (cA X.K x) (some d1)) d1 = some (exd d1 [(fld, y)]) := by rw [upd_ne ne1, upd_same]
  generalize hG : upd (upd H d1 (exd d1 [(fld, y)])) a1 (exo a1 (cA X.K x) (some d1)) = G at e2 t1 s1 g1 g2
  refine ⟨y, hσ, fun a2 d2 n2 m2 ne2 => ?_⟩
  have f2 : upd G d2 (exd d2 [(fld, y)]) a2 = none := by rw [upd_ne (Ne.symm ne2)]; exact n2
  have t2 := tabs_new (o := exo a2 (cA X.K x) (some d2)) (tabs_new (o := exd d2 [(fld, y)]) t1 m2) f2
  have s2 : Same G (upd (upd G d2 (exd d2 [(fld, y)])) a2 (exo a2 (cA X.K x) (some d2))) := (same_new m2).trans (same_new f2)
  have g3 : upd (upd G d2 (exd d2 [(fld, y)])) a2 (exo a2 (cA X.K x) (some d2)) a2 = some (exo a2 (cA X.K x) (some d2)) := upd_same
  have g4 : upd (upd G d2 (exd d2 [(fld, y)])) a2 (exo a2 (cA X.K x) (some d2)) d2 = some (exd d2 [(fld, y)]) := by rw [upd_ne ne2, upd_same]
  generalize hM : upd (upd G d2 (exd d2 [(fld, y)])) a2 (exo a2 (cA X.K x) (some d2)) = M at t2 s2 g3 g4
  refine ⟨t2, fun f c' H1 ex tb nf hc => ?_⟩
  have s3 := same_new (o := LamO f ⟨q, params, .Attribute (.Name par q1) fld q2, scope, c'⟩) nf
  refine ⟨(by show 3 ≤ sizeLine; decide), fun p np => ?_⟩
  have s4 := same_new (o := .tup [.ref a1, .ref a2, .ref f]) np
  have E : ExtN H (upd (upd H1 f (LamO f ⟨q, params, .Attribute (.Name par q1) fld q2, scope, c'⟩)) p (.tup [.ref a1, .ref a2, .ref f])) := ((ExtN.of (s1.trans s2)).trans ex).trans (ExtN.of (s3.trans s4))
  have up : ∀ b o, M b = some o → (∀ ps, o ≠ .tbl ps) → upd (upd H1 f (LamO f ⟨q, params, .Attribute (.Name par q1) fld q2, scope, c'⟩)) p (.tup [.ref a1, .ref a2, .ref f]) b = some o := fun b o h n => (s3.trans s4) _ _ (ex _ _ h n)
  exact k p _ E (tabs_new (tabs_new tb nf) np) ⟨a1, a2, f, d1, d2, _, upd_same, up _ _ (s2 _ _ g1) (fun _ => exo_tbl), up _ _ (s2 _ _ g2) exd_nt, up _ _ g3 (fun _ => exo_tbl), up _ _ g4 exd_nt, s4 _ _ upd_same, hL c', s4 _ _ (s3 _ _ hc)⟩

theorem pa_trips {T : List (Addr × Str)} {es : List Expr} {cs : List (Str × Str)} (h : Paired (TripE X T) es cs) :
    ∃ t, PA X es t ∧ ∀ (σ : L2.St) (H : Hp) (Q : List V → Hp → Prop) (y : V), σ[0]? = some (some y) → Tabs T H → (∀ ps H', ExtN H H' → Tabs T H' → Paired (TripAt X.K H' y) ps cs → Q (ps.map V.ref) H') → t σ H Q := by
  induction h with
  | nil => exact ⟨_, pa_nil, fun σ H Q y _ hT k => k [] H (ExtN.refl H) hT .nil⟩
  | cons r _ ih =>
    obtain ⟨t, ht, kt⟩ := ih
    obtain ⟨u, hu, ku⟩ := r.ex
    obtain ⟨l, kk, p, rfl⟩ := r.tup
    refine ⟨_, pa_cons hu ht, fun σ H Q y hσ hT k => ?_⟩
    refine ku σ H _ y hσ hT fun p H1 e1 t1 tr1 => ?_
    refine kt σ H1 _ y hσ t1 fun ps H2 e2 t2 trs => ?_
    exact k (p :: ps) H2 (e1.trans e2) t2 (.cons (tr1.sty (Sty.ext e2)) trs)
end
/-- L is no object of H0, or a table there -/
def NOld (H0 : Hp) (L : Addr) : Prop := ∀ o, H0 L = some o → ∃ ps, o = .tbl ps
theorem nold_of {H0 H : Hp} {L : Addr} (e : ExtN H0 H) (n : H L = none) : NOld H0 L := fun o h => Classical.byContradiction fun z => by
  have q := e _ _ h fun ps y => z ⟨ps, y⟩
  rw [n] at q
  cases q
theorem ext_put {H0 H : Hp} {L : Addr} {o : HO} (e : ExtN H0 H) (n : NOld H0 L) : ExtN H0 (upd H L o) := fun b u h m => by
  have nb : b ≠ L := fun z => by
    rw [z] at h
    obtain ⟨ps, y⟩ := n _ h
    exact m ps y
  rw [upd_ne nb]
  exact e b u h m
theorem tabs_put {T : List (Addr × Str)} {H : Hp} {L : Addr} {xs ys : List V} (t : Tabs T H) (h : H L = some (.lst xs)) : Tabs T (upd H L (.lst ys)) := by
  intro p hp
  obtain ⟨ps, h1, h2, h3⟩ := t p hp
  refine ⟨ps, by rw [upd_ne (at_ne h h1 (fun z => by cases z))]; exact h1, h2, fun pos cv hc => ?_⟩
  obtain ⟨c, e1, e2⟩ := h3 pos cv hc
  exact ⟨c, e1, by rw [upd_ne (at_ne h e2 (fun z => codeO_lst _ z.symm))]; exact e2⟩
section
variable {X : Cx} {T : List (Addr × Str)} {H0 : Hp} {y : V} {cs cs2 : List (Str × Str)} {es : List Expr} {e : Expr} {c : Str × Str}
def PSt (K : PySem.W.Frag) (T : List (Addr × Str)) (H0 : Hp) (y : V) (cs : List (Str × Str)) (σ : L2.St) (H : Hp) : Prop := ∃ (L : Addr) (ps : List Addr), σ = [some y, some (.ref L)] ∧ H L = some (.lst (ps.map V.ref)) ∧ NOld H0 L ∧ Paired (TripAt K H y) ps cs ∧ Tabs T H ∧ ExtN H0 H
theorem pair_sty {K : PySem.W.Frag} {H H' : Hp} {ps : List Addr} (h : Paired (TripAt K H y) ps cs) (s : Sty H H') : Paired (TripAt K H' y) ps cs := L2.Paired.mapP h fun _ _ q => q.sty s
theorem pair_len {α β : Type} {R : α → β → Prop} {as : List α} {bs : List β} (h : Paired R as bs) : as.length = bs.length := by
  induction h with
  | nil => rfl
  | cons _ _ ih => rw [List.length_cons, List.length_cons, ih]
theorem pair_app {α β : Type} {R : α → β → Prop} {as as2 : List α} {bs bs2 : List β} (h : Paired R as bs) (g : Paired R as2 bs2) : Paired R (as ++ as2) (bs ++ bs2) := by
  induction h with
  | nil => exact g
  | cons r _ ih => exact .cons r ih
theorem small1k {n : Nat} (h : n ≤ 1000) : n ≤ sizeLine := Nat.le_trans h (by show 1000 ≤ sizeLine; decide)
theorem ho_tfirst {p1 p2 p3 : Pos} (nd : X.N.Nodup) (hN : X.N[1]? = some ("_law_found" : Str)) (hl : X.env.scope.names.lookup ("_law_found" : Str) = some .local) (h : Paired (TripE X T) es cs) (hz : cs.length ≤ 100) :
    Ho X (.Assign [.Name "_law_found" p1] (.List es p2) p3) (fun σ H => H = H0 ∧ Tabs T H ∧ σ = [some y, none]) (PSt X.K T H0 y cs) := by
  obtain ⟨t, ht, kt⟩ := pa_trips h
  refine ⟨_, ps_set (i := 1) nd hN (.inl hl) (pe_lst ht) (hf := .inr hl), ?_⟩
  rintro D σ H ⟨rfl, hT, rfl⟩ k
  refine kt _ H _ y rfl hT fun ps H1 e1 t1 trs => ?_
  have hlen := pair_len trs
  refine ⟨by rw [List.length_map]; exact small1k (by omega), fun L hL => k _ _ ⟨L, ps, rfl, upd_same, nold_of e1 hL, pair_sty trs (Sty.same (same_new hL)), tabs_new t1 hL, e1.trans (ext_new hL)⟩⟩
theorem ho_tapp {p1 p2 p4 p5 : Pos} (hN : X.N[1]? = some ("_law_found" : Str)) (hv : Vis X.env.scope "_law_found") (h : TripE X T e c) (hz : cs.length ≤ 100) (hp : (p2.endLine == p4.line) = true := by rfl) :
    Ho X (.Expr (.Call (.Attribute (.Name "_law_found" p1) "append" p2) [e] [] p4) p5) (PSt X.K T H0 y cs) (PSt X.K T H0 y (cs ++ [c])) := by
  obtain ⟨t, ht, kt⟩ := h.ex
  obtain ⟨l, kk, p, rfl⟩ := h.tup
  refine ⟨_, ps_expr (pe_bm PySem.F.plainAttrs_list PySem.F.slot_list_append PySem.F.type_list_append mt_append (pe_var hN hv) (pa_cons ht pa_nil) (hline := hp)), ?_⟩
  rintro D σ H ⟨L, ps, rfl, hL, hn, trs, hT, ex⟩ k
  refine ⟨_, rfl, .inl ⟨rfl, _, SqL.of hL⟩, ?_⟩
  refine kt _ H _ y rfl hT fun p H1 e1 t1 tr => ?_
  have hL1 := e1 _ _ hL (fun _ z => by cases z)
  have hlen := pair_len trs
  refine ⟨L, _, _, rfl, rfl, hL1, by rw [List.length_map]; exact Nat.lt_of_lt_of_le (show ps.length < 1000 by omega) (by show 1000 ≤ sizeLine; decide), ?_⟩
  have s1 : Sty H1 (upd H1 L (.lst (ps.map V.ref ++ [V.ref p]))) := Sty.put (fun b o h _ _ => h) hL1
  refine k _ _ ⟨L, ps ++ [p], rfl, ?_, hn, ?_, tabs_put t1 hL1, ext_put (ex.trans e1) hn⟩
  · rw [upd_same, List.map_append]
    rfl
  · exact pair_app ((pair_sty trs (Sty.ext e1)) |> fun z => pair_sty z s1) (.cons (tr.sty s1) .nil)
theorem ho_text {p1 p2 p3 p4 p5 : Pos} (hN : X.N[1]? = some ("_law_found" : Str)) (hv : Vis X.env.scope "_law_found") (h : Paired (TripE X T) es cs2) (hz : cs.length + cs2.length ≤ 100) (hp : (p2.endLine == p4.line) = true := by rfl) :
    Ho X (.Expr (.Call (.Attribute (.Name "_law_found" p1) "extend" p2) [.List es p3] [] p4) p5) (PSt X.K T H0 y cs) (PSt X.K T H0 y (cs ++ cs2)) := by
  obtain ⟨t, ht, kt⟩ := pa_trips h
  refine ⟨_, ps_expr (pe_bm PySem.F.plainAttrs_list PySem.F.slot_list_extend PySem.F.type_list_extend mt_extend (pe_var hN hv) (pa_cons (pe_lst ht) pa_nil) (hline := hp)), ?_⟩
  rintro D σ H ⟨L, ps, rfl, hL, hn, trs, hT, ex⟩ k
  refine ⟨_, rfl, .inl ⟨rfl, _, SqL.of hL⟩, ?_⟩
  refine kt _ H _ y rfl hT fun ps2 H1 e1 t1 trs2 => ?_
  have hlen := pair_len trs
  have hlen2 := pair_len trs2
  refine ⟨by rw [List.length_map]; exact small1k (by omega), fun q hq => ?_⟩
  have hL1 := (same_new (o := .lst (ps2.map V.ref)) hq) _ _ (e1 _ _ hL (fun _ z => by cases z))
  refine ⟨L, q, _, _, rfl, rfl, hL1, upd_same, by rw [List.length_map, List.length_map]; exact small1k (by omega), ?_⟩
  have s0 : Sty H1 (upd H1 q (.lst (ps2.map V.ref))) := Sty.same (same_new hq)
  have s1 : Sty H1 (upd (upd H1 q (.lst (ps2.map V.ref))) L (.lst (ps.map V.ref ++ ps2.map V.ref))) := Sty.put s0 hL1
  refine k _ _ ⟨L, ps ++ ps2, rfl, ?_, hn, ?_, tabs_put (tabs_new t1 hq) hL1, ext_put ((ex.trans e1).trans (ext_new hq)) hn⟩
  · rw [upd_same, List.map_append]
  · exact pair_app ((pair_sty trs (Sty.ext e1)) |> fun z => pair_sty z s1) (pair_sty trs2 s1)
theorem hr_tret {p1 p2 p3 p4 : Pos} (hN : X.N[1]? = some ("_law_found" : Str)) (hv : Vis X.env.scope "_law_found") (h : Paired (TripE X T) es cs2) (hz : cs.length + cs2.length ≤ 100) :
    Hr X [.Return (some (.BinOp (.Name "_law_found" p1) .Add (.List es p2) p3)) p4] (PSt X.K T H0 y cs) (fun v H => ∃ (R : Addr) (ps : List Addr), v = .ref R ∧ H R = some (.lst (ps.map V.ref)) ∧ NOld H0 R ∧ Paired (TripAt X.K H y) ps (cs ++ cs2) ∧ Tabs T H ∧ ExtN H0 H) := by
  obtain ⟨t, ht, kt⟩ := pa_trips h
  refine ⟨_, pss_one (ps_ret (pe_op op_cat (pe_var hN hv) (pe_lst ht))), ?_⟩
  rintro D σ H ⟨L, ps, rfl, hL, hn, trs, hT, ex⟩ k
  refine ⟨_, rfl, ?_⟩
  refine kt _ H _ y rfl hT fun ps2 H1 e1 t1 trs2 => ?_
  have hlen := pair_len trs
  have hlen2 := pair_len trs2
  refine ⟨by rw [List.length_map]; exact small1k (by omega), fun q hq => ?_⟩
  have s0 := same_new (o := .lst (ps2.map V.ref)) hq
  have hL1 := s0 _ _ (e1 _ _ hL (fun _ z => by cases z))
  refine ⟨L, q, _, _, rfl, rfl, hL1, upd_same, by rw [List.length_map, List.length_map]; exact small1k (by omega), fun R hR => ?_⟩
  have s1 := s0.trans (same_new (o := .lst (ps.map V.ref ++ ps2.map V.ref)) hR)
  have ex2 := ((ex.trans e1).trans (ext_new (o := .lst (ps2.map V.ref)) hq))
  refine k _ _ ⟨R, ps ++ ps2, rfl, ?_, nold_of ex2 hR, ?_, tabs_new (tabs_new t1 hq) hR, ex2.trans (ext_new hR)⟩
  · rw [upd_same, List.map_append]
  · exact pair_app ((pair_sty trs (Sty.ext e1)) |> fun z => pair_sty z (Sty.same s1)) (pair_sty trs2 (Sty.same s1))
end
end Mv
namespace Mv
open PySem PySem.Spec PyProof.Rows L2 LamX NdefX
def elts : Stmt → List Expr
  | .Assign _ (.List es _) _ => es
  | .Expr (.Call _ [e] [] _) _ => (match e with
    | .List es _ => es
    | e => [e])
  | .Return (some (.BinOp _ _ (.List es _) _)) _ => es
  | _ => []
abbrev elt (b : List Stmt) (i j : Nat) : Expr := (elts (stAt b i)).getD j (.Name "" ⟨0, 0, 0, 0⟩)
abbrev nPr : List Str := ["_law_a", "_law_found"]
abbrev EVs (P : Program) (w : World) (K : PySem.W.Frag) (mg : Str → Option Value) (base : Heap) (c : Str × Str) : Prop := ErrV P w K mg base c.1 (cA K c.1) c.2 c.2
def spPairs (K : PySem.W.Frag) (T : List (Addr × Str)) (cs : List (Str × Str)) : Sp := fun vs H Q _ => ∃ y, vs = [y] ∧ Tabs T H ∧ ∀ (R : Addr) (ps : List Addr) H', H' R = some (.lst (ps.map V.ref)) → NOld H R → Paired (TripAt K H' y) ps cs → Tabs T H' → ExtN H H' → Q (.ref R) H'

abbrev sFP : Stmt := top 37
abbrev bFP : List Stmt := defBody sFP
abbrev qFP : Str := "_law_first_pairs.<locals>.<lambda>"
theorem scFP : FnScope nPr ["_law_a"] (defScope sFP) := ⟨rfl, rfl, rfl, by decide +kernel, rfl, by decide +kernel, by decide +kernel⟩
abbrev XFP (P : Program) (w : World) (K : PySem.W.Frag) (mg : Str → Option Value) (base : Heap) (f c : Addr) (A : Around) (outer : List Env) (s : Shared) (H : Hp) (E : XK) : Cx := (cxOf C8.CX0 P w K mg base nPr "_law_first_pairs" (defScope sFP) f (.ref c) A outer s H E).nox
abbrev CFP : List (Str × Str) := [("BadWord", "word"), ("BadForm", "thing"), ("BadConstant", "number"), ("BadCondition", "index"), ("BadPlaces", "words"), ("BadBegins", "words"), ("BadRule", "index"), ("BadPromise", "index"), ("BadFaults", "word"), ("NoRule", "name"), ("BadRun", "thing"), ("BadGoal", "index")]
section
variable {P : Program} {w : World} {K : PySem.W.Frag} {mg : Str → Option Value} {base : Heap} {f c PT : Addr} {A : Around} {outer : List Env} {s : Shared} {H0 : Hp} {E0 : XK} {T : List (Addr × Str)}
theorem tr_BadWord (EV : EVs P w K mg base ("BadWord", "word")) (hr : Room 3 (XFP P w K mg base f c A outer s H0 E0).A) (TB : TabB base mg c PT) (hm : (PT, qFP) ∈ T) (hu : ∀ p ∈ T, p.1 = PT → p.2 = qFP) :
    TripE (XFP P w K mg base f c A outer s H0 E0) T (elt bFP 0 0) ("BadWord", "word") :=
  pe_trip (X := XFP P w K mg base f c A outer s H0 E0) EV hr rfl (.inl rfl) rfl (by decide +kernel) TB rfl (by kernel_rfl) hm hu rfl (by decide +kernel) (fun c' => ⟨"_law_e", _, _, rfl, nscope_by (by kernel_rfl), by decide +kernel, by decide +kernel, by decide +kernel, fun pm ctv us hl => match us, hl with | [_], _ => rfl⟩)
theorem tr_BadForm (EV : EVs P w K mg base ("BadForm", "thing")) (hr : Room 3 (XFP P w K mg base f c A outer s H0 E0).A) (TB : TabB base mg c PT) (hm : (PT, qFP) ∈ T) (hu : ∀ p ∈ T, p.1 = PT → p.2 = qFP) :
    TripE (XFP P w K mg base f c A outer s H0 E0) T (elt bFP 0 1) ("BadForm", "thing") :=
  pe_trip (X := XFP P w K mg base f c A outer s H0 E0) EV hr rfl (.inl rfl) rfl (by decide +kernel) TB rfl (by kernel_rfl) hm hu rfl (by decide +kernel) (fun c' => ⟨"_law_p", _, _, rfl, nscope_by (by kernel_rfl), by decide +kernel, by decide +kernel, by decide +kernel, fun pm ctv us hl => match us, hl with | [_], _ => rfl⟩)
theorem tr_BadConstant (EV : EVs P w K mg base ("BadConstant", "number")) (hr : Room 3 (XFP P w K mg base f c A outer s H0 E0).A) (TB : TabB base mg c PT) (hm : (PT, qFP) ∈ T) (hu : ∀ p ∈ T, p.1 = PT → p.2 = qFP) :
    TripE (XFP P w K mg base f c A outer s H0 E0) T (elt bFP 1 0) ("BadConstant", "number") :=
  pe_trip (X := XFP P w K mg base f c A outer s H0 E0) EV hr rfl (.inl rfl) rfl (by decide +kernel) TB rfl (by kernel_rfl) hm hu rfl (by decide +kernel) (fun c' => ⟨"_law_e", _, _, rfl, nscope_by (by kernel_rfl), by decide +kernel, by decide +kernel, by decide +kernel, fun pm ctv us hl => match us, hl with | [_], _ => rfl⟩)
theorem tr_BadCondition (EV : EVs P w K mg base ("BadCondition", "index")) (hr : Room 3 (XFP P w K mg base f c A outer s H0 E0).A) (TB : TabB base mg c PT) (hm : (PT, qFP) ∈ T) (hu : ∀ p ∈ T, p.1 = PT → p.2 = qFP) :
    TripE (XFP P w K mg base f c A outer s H0 E0) T (elt bFP 2 0) ("BadCondition", "index") :=
  pe_trip (X := XFP P w K mg base f c A outer s H0 E0) EV hr rfl (.inl rfl) rfl (by decide +kernel) TB rfl (by kernel_rfl) hm hu rfl (by decide +kernel) (fun c' => ⟨"_law_e", _, _, rfl, nscope_by (by kernel_rfl), by decide +kernel, by decide +kernel, by decide +kernel, fun pm ctv us hl => match us, hl with | [_], _ => rfl⟩)
theorem tr_BadPlaces (EV : EVs P w K mg base ("BadPlaces", "words")) (hr : Room 3 (XFP P w K mg base f c A outer s H0 E0).A) (TB : TabB base mg c PT) (hm : (PT, qFP) ∈ T) (hu : ∀ p ∈ T, p.1 = PT → p.2 = qFP) :
    TripE (XFP P w K mg base f c A outer s H0 E0) T (elt bFP 3 0) ("BadPlaces", "words") :=
  pe_trip (X := XFP P w K mg base f c A outer s H0 E0) EV hr rfl (.inl rfl) rfl (by decide +kernel) TB rfl (by kernel_rfl) hm hu rfl (by decide +kernel) (fun c' => ⟨"_law_e", _, _, rfl, nscope_by (by kernel_rfl), by decide +kernel, by decide +kernel, by decide +kernel, fun pm ctv us hl => match us, hl with | [_], _ => rfl⟩)
theorem tr_BadBegins (EV : EVs P w K mg base ("BadBegins", "words")) (hr : Room 3 (XFP P w K mg base f c A outer s H0 E0).A) (TB : TabB base mg c PT) (hm : (PT, qFP) ∈ T) (hu : ∀ p ∈ T, p.1 = PT → p.2 = qFP) :
    TripE (XFP P w K mg base f c A outer s H0 E0) T (elt bFP 4 0) ("BadBegins", "words") :=
  pe_trip (X := XFP P w K mg base f c A outer s H0 E0) EV hr rfl (.inl rfl) rfl (by decide +kernel) TB rfl (by kernel_rfl) hm hu rfl (by decide +kernel) (fun c' => ⟨"_law_e", _, _, rfl, nscope_by (by kernel_rfl), by decide +kernel, by decide +kernel, by decide +kernel, fun pm ctv us hl => match us, hl with | [_], _ => rfl⟩)
theorem tr_BadRule (EV : EVs P w K mg base ("BadRule", "index")) (hr : Room 3 (XFP P w K mg base f c A outer s H0 E0).A) (TB : TabB base mg c PT) (hm : (PT, qFP) ∈ T) (hu : ∀ p ∈ T, p.1 = PT → p.2 = qFP) :
    TripE (XFP P w K mg base f c A outer s H0 E0) T (elt bFP 5 0) ("BadRule", "index") :=
  pe_trip (X := XFP P w K mg base f c A outer s H0 E0) EV hr rfl (.inl rfl) rfl (by decide +kernel) TB rfl (by kernel_rfl) hm hu rfl (by decide +kernel) (fun c' => ⟨"_law_e", _, _, rfl, nscope_by (by kernel_rfl), by decide +kernel, by decide +kernel, by decide +kernel, fun pm ctv us hl => match us, hl with | [_], _ => rfl⟩)
theorem tr_BadPromise (EV : EVs P w K mg base ("BadPromise", "index")) (hr : Room 3 (XFP P w K mg base f c A outer s H0 E0).A) (TB : TabB base mg c PT) (hm : (PT, qFP) ∈ T) (hu : ∀ p ∈ T, p.1 = PT → p.2 = qFP) :
    TripE (XFP P w K mg base f c A outer s H0 E0) T (elt bFP 6 0) ("BadPromise", "index") :=
  pe_trip (X := XFP P w K mg base f c A outer s H0 E0) EV hr rfl (.inl rfl) rfl (by decide +kernel) TB rfl (by kernel_rfl) hm hu rfl (by decide +kernel) (fun c' => ⟨"_law_e", _, _, rfl, nscope_by (by kernel_rfl), by decide +kernel, by decide +kernel, by decide +kernel, fun pm ctv us hl => match us, hl with | [_], _ => rfl⟩)
theorem tr_BadFaults (EV : EVs P w K mg base ("BadFaults", "word")) (hr : Room 3 (XFP P w K mg base f c A outer s H0 E0).A) (TB : TabB base mg c PT) (hm : (PT, qFP) ∈ T) (hu : ∀ p ∈ T, p.1 = PT → p.2 = qFP) :
    TripE (XFP P w K mg base f c A outer s H0 E0) T (elt bFP 7 0) ("BadFaults", "word") :=
  pe_trip (X := XFP P w K mg base f c A outer s H0 E0) EV hr rfl (.inl rfl) rfl (by decide +kernel) TB rfl (by kernel_rfl) hm hu rfl (by decide +kernel) (fun c' => ⟨"_law_e", _, _, rfl, nscope_by (by kernel_rfl), by decide +kernel, by decide +kernel, by decide +kernel, fun pm ctv us hl => match us, hl with | [_], _ => rfl⟩)
theorem tr_NoRule (EV : EVs P w K mg base ("NoRule", "name")) (hr : Room 3 (XFP P w K mg base f c A outer s H0 E0).A) (TB : TabB base mg c PT) (hm : (PT, qFP) ∈ T) (hu : ∀ p ∈ T, p.1 = PT → p.2 = qFP) :
    TripE (XFP P w K mg base f c A outer s H0 E0) T (elt bFP 8 0) ("NoRule", "name") :=
  pe_trip (X := XFP P w K mg base f c A outer s H0 E0) EV hr rfl (.inl rfl) rfl (by decide +kernel) TB rfl (by kernel_rfl) hm hu rfl (by decide +kernel) (fun c' => ⟨"_law_e", _, _, rfl, nscope_by (by kernel_rfl), by decide +kernel, by decide +kernel, by decide +kernel, fun pm ctv us hl => match us, hl with | [_], _ => rfl⟩)
theorem tr_BadRun (EV : EVs P w K mg base ("BadRun", "thing")) (hr : Room 3 (XFP P w K mg base f c A outer s H0 E0).A) (TB : TabB base mg c PT) (hm : (PT, qFP) ∈ T) (hu : ∀ p ∈ T, p.1 = PT → p.2 = qFP) :
    TripE (XFP P w K mg base f c A outer s H0 E0) T (elt bFP 8 1) ("BadRun", "thing") :=
  pe_trip (X := XFP P w K mg base f c A outer s H0 E0) EV hr rfl (.inl rfl) rfl (by decide +kernel) TB rfl (by kernel_rfl) hm hu rfl (by decide +kernel) (fun c' => ⟨"_law_p", _, _, rfl, nscope_by (by kernel_rfl), by decide +kernel, by decide +kernel, by decide +kernel, fun pm ctv us hl => match us, hl with | [_], _ => rfl⟩)
theorem tr_BadGoal (EV : EVs P w K mg base ("BadGoal", "index")) (hr : Room 3 (XFP P w K mg base f c A outer s H0 E0).A) (TB : TabB base mg c PT) (hm : (PT, qFP) ∈ T) (hu : ∀ p ∈ T, p.1 = PT → p.2 = qFP) :
    TripE (XFP P w K mg base f c A outer s H0 E0) T (elt bFP 9 0) ("BadGoal", "index") :=
  pe_trip (X := XFP P w K mg base f c A outer s H0 E0) EV hr rfl (.inl rfl) rfl (by decide +kernel) TB rfl (by kernel_rfl) hm hu rfl (by decide +kernel) (fun c' => ⟨"_law_e", _, _, rfl, nscope_by (by kernel_rfl), by decide +kernel, by decide +kernel, by decide +kernel, fun pm ctv us hl => match us, hl with | [_], _ => rfl⟩)
theorem bFP_eq : defBody sFP = [stAt bFP 0, stAt bFP 1, stAt bFP 2, stAt bFP 3, stAt bFP 4, stAt bFP 5, stAt bFP 6, stAt bFP 7, stAt bFP 8, stAt bFP 9] := rfl
theorem ok_FP {oc : Value} {od : Option Addr} {kV doc pm ct : Value} {an : Option Addr} {osl : Array (Option Value)} (lk : K.lookup f = some ⟨oc, od, .func (PySem.W.fnOf "_law_first_pairs" "_law_first_pairs" (defArgs sFP) (defBody sFP) (defScope sFP) .none kV doc pm an (.ref c) ct), osl⟩) (hcd : PySem.W.codeIn K (.ref c) "_law_first_pairs" = true)
    (EV : ∀ x ∈ CFP, EVs P w K mg base x) (TB : TabB base mg c PT) (hm : (PT, qFP) ∈ T) (hu : ∀ p ∈ T, p.1 = PT → p.2 = qFP) :
    FnOk P w K mg base C8.CX0 4 f (PySem.W.fnOf "_law_first_pairs" "_law_first_pairs" (defArgs sFP) (defBody sFP) (defScope sFP) .none kV doc pm an (.ref c) ct) ["_law_a"] (spPairs K T CFP) := by
  refine fn_of (k := 3) lk hcd scFP (fun vs H Q E h => ?_) (fun A outer s H vs Q E hr h => ?_)
  · obtain ⟨y, rfl, _⟩ := h
    rfl
  · obtain ⟨y, rfl, hT, k⟩ := h
    have hr : Room 3 (XFP P w K mg base f c A outer s H E).A := hr
    have t0 := tr_BadWord (outer := outer) (s := s) (H0 := H) (E0 := E) (EV ("BadWord", "word") (by decide +kernel)) hr TB hm hu
    have t1 := tr_BadForm (outer := outer) (s := s) (H0 := H) (E0 := E) (EV ("BadForm", "thing") (by decide +kernel)) hr TB hm hu
    have t2 := tr_BadConstant (outer := outer) (s := s) (H0 := H) (E0 := E) (EV ("BadConstant", "number") (by decide +kernel)) hr TB hm hu
    have t3 := tr_BadCondition (outer := outer) (s := s) (H0 := H) (E0 := E) (EV ("BadCondition", "index") (by decide +kernel)) hr TB hm hu
    have t4 := tr_BadPlaces (outer := outer) (s := s) (H0 := H) (E0 := E) (EV ("BadPlaces", "words") (by decide +kernel)) hr TB hm hu
    have t5 := tr_BadBegins (outer := outer) (s := s) (H0 := H) (E0 := E) (EV ("BadBegins", "words") (by decide +kernel)) hr TB hm hu
    have t6 := tr_BadRule (outer := outer) (s := s) (H0 := H) (E0 := E) (EV ("BadRule", "index") (by decide +kernel)) hr TB hm hu
    have t7 := tr_BadPromise (outer := outer) (s := s) (H0 := H) (E0 := E) (EV ("BadPromise", "index") (by decide +kernel)) hr TB hm hu
    have t8 := tr_BadFaults (outer := outer) (s := s) (H0 := H) (E0 := E) (EV ("BadFaults", "word") (by decide +kernel)) hr TB hm hu
    have t9 := tr_NoRule (outer := outer) (s := s) (H0 := H) (E0 := E) (EV ("NoRule", "name") (by decide +kernel)) hr TB hm hu
    have t10 := tr_BadRun (outer := outer) (s := s) (H0 := H) (E0 := E) (EV ("BadRun", "thing") (by decide +kernel)) hr TB hm hu
    have t11 := tr_BadGoal (outer := outer) (s := s) (H0 := H) (E0 := E) (EV ("BadGoal", "index") (by decide +kernel)) hr TB hm hu
    have c0 : Ho (XFP P w K mg base f c A outer s H E) (stAt bFP 0) _ _ := ho_tfirst (T := T) (H0 := H) (y := y) (cs := [("BadWord", "word"), ("BadForm", "thing")]) scFP.nd rfl rfl (.cons t0 (.cons t1 .nil)) (by decide)
    have c1 : Ho (XFP P w K mg base f c A outer s H E) (stAt bFP 1) _ _ := ho_tapp (T := T) (H0 := H) (y := y) (cs := [("BadWord", "word"), ("BadForm", "thing")]) rfl (.inl rfl) t2 (by decide)
    have c2 : Ho (XFP P w K mg base f c A outer s H E) (stAt bFP 2) _ _ := ho_tapp (T := T) (H0 := H) (y := y) (cs := [("BadWord", "word"), ("BadForm", "thing"), ("BadConstant", "number")]) rfl (.inl rfl) t3 (by decide)
    have c3 : Ho (XFP P w K mg base f c A outer s H E) (stAt bFP 3) _ _ := ho_tapp (T := T) (H0 := H) (y := y) (cs := [("BadWord", "word"), ("BadForm", "thing"), ("BadConstant", "number"), ("BadCondition", "index")]) rfl (.inl rfl) t4 (by decide)
    have c4 : Ho (XFP P w K mg base f c A outer s H E) (stAt bFP 4) _ _ := ho_tapp (T := T) (H0 := H) (y := y) (cs := [("BadWord", "word"), ("BadForm", "thing"), ("BadConstant", "number"), ("BadCondition", "index"), ("BadPlaces", "words")]) rfl (.inl rfl) t5 (by decide)
    have c5 : Ho (XFP P w K mg base f c A outer s H E) (stAt bFP 5) _ _ := ho_tapp (T := T) (H0 := H) (y := y) (cs := [("BadWord", "word"), ("BadForm", "thing"), ("BadConstant", "number"), ("BadCondition", "index"), ("BadPlaces", "words"), ("BadBegins", "words")]) rfl (.inl rfl) t6 (by decide)
    have c6 : Ho (XFP P w K mg base f c A outer s H E) (stAt bFP 6) _ _ := ho_tapp (T := T) (H0 := H) (y := y) (cs := [("BadWord", "word"), ("BadForm", "thing"), ("BadConstant", "number"), ("BadCondition", "index"), ("BadPlaces", "words"), ("BadBegins", "words"), ("BadRule", "index")]) rfl (.inl rfl) t7 (by decide)
    have c7 : Ho (XFP P w K mg base f c A outer s H E) (stAt bFP 7) _ _ := ho_tapp (T := T) (H0 := H) (y := y) (cs := [("BadWord", "word"), ("BadForm", "thing"), ("BadConstant", "number"), ("BadCondition", "index"), ("BadPlaces", "words"), ("BadBegins", "words"), ("BadRule", "index"), ("BadPromise", "index")]) rfl (.inl rfl) t8 (by decide)
    have c8 : Ho (XFP P w K mg base f c A outer s H E) (stAt bFP 8) _ _ := ho_text (T := T) (H0 := H) (y := y) (cs := [("BadWord", "word"), ("BadForm", "thing"), ("BadConstant", "number"), ("BadCondition", "index"), ("BadPlaces", "words"), ("BadBegins", "words"), ("BadRule", "index"), ("BadPromise", "index"), ("BadFaults", "word")]) rfl (.inl rfl) (.cons t9 (.cons t10 .nil)) (by decide)
    have c9 : Hr (XFP P w K mg base f c A outer s H E) [stAt bFP 9] _ _ := hr_tret (T := T) (H0 := H) (y := y) (cs := [("BadWord", "word"), ("BadForm", "thing"), ("BadConstant", "number"), ("BadCondition", "index"), ("BadPlaces", "words"), ("BadBegins", "words"), ("BadRule", "index"), ("BadPromise", "index"), ("BadFaults", "word"), ("NoRule", "name"), ("BadRun", "thing")]) rfl (.inl rfl) (.cons t11 .nil) (by decide)
    obtain ⟨t, ht, kt⟩ := (c0.consR (c1.consR (c2.consR (c3.consR (c4.consR (c5.consR (c6.consR (c7.consR (c8.consR c9)))))))))
    refine ⟨t, PSs.nox (by rw [bFP_eq]; exact ht), kt _ _ _ ⟨rfl, hT, rfl⟩ fun v H' hv => ?_⟩
    obtain ⟨R, ps, rfl, hR, hn, trs, t1, ex⟩ := hv
    exact k R ps H' hR hn trs t1 ex
end
abbrev sOP : Stmt := top 38
abbrev bOP : List Stmt := defBody sOP
abbrev qOP : Str := "_law_other_pairs.<locals>.<lambda>"
theorem scOP : FnScope nPr ["_law_a"] (defScope sOP) := ⟨rfl, rfl, rfl, by decide +kernel, rfl, by decide +kernel, by decide +kernel⟩
abbrev XOP (P : Program) (w : World) (K : PySem.W.Frag) (mg : Str → Option Value) (base : Heap) (f c : Addr) (A : Around) (outer : List Env) (s : Shared) (H : Hp) (E : XK) : Cx := (cxOf C8.CX0 P w K mg base nPr "_law_other_pairs" (defScope sOP) f (.ref c) A outer s H E).nox
abbrev COP : List (Str × Str) := [("BadMany", "many"), ("BadWish", "index"), ("BadIndex", "index"), ("BadBox", "box"), ("BadBegun", "thing"), ("NoPlace", "place"), ("NotThere", "place"), ("NotHeard", "index"), ("TooMany", "many"), ("NoSort", "word"), ("BadDeed", "index"), ("NameInUse", "name"), ("NoName", "name"), ("NoText", "word"), ("BadText", "line")]
section
variable {P : Program} {w : World} {K : PySem.W.Frag} {mg : Str → Option Value} {base : Heap} {f c PT : Addr} {A : Around} {outer : List Env} {s : Shared} {H0 : Hp} {E0 : XK} {T : List (Addr × Str)}
theorem tr_BadMany (EV : EVs P w K mg base ("BadMany", "many")) (hr : Room 3 (XOP P w K mg base f c A outer s H0 E0).A) (TB : TabB base mg c PT) (hm : (PT, qOP) ∈ T) (hu : ∀ p ∈ T, p.1 = PT → p.2 = qOP) :
    TripE (XOP P w K mg base f c A outer s H0 E0) T (elt bOP 0 0) ("BadMany", "many") :=
  pe_trip (X := XOP P w K mg base f c A outer s H0 E0) EV hr rfl (.inl rfl) rfl (by decide +kernel) TB rfl (by kernel_rfl) hm hu rfl (by decide +kernel) (fun c' => ⟨"_law_e", _, _, rfl, nscope_by (by kernel_rfl), by decide +kernel, by decide +kernel, by decide +kernel, fun pm ctv us hl => match us, hl with | [_], _ => rfl⟩)
theorem tr_BadWish (EV : EVs P w K mg base ("BadWish", "index")) (hr : Room 3 (XOP P w K mg base f c A outer s H0 E0).A) (TB : TabB base mg c PT) (hm : (PT, qOP) ∈ T) (hu : ∀ p ∈ T, p.1 = PT → p.2 = qOP) :
    TripE (XOP P w K mg base f c A outer s H0 E0) T (elt bOP 0 1) ("BadWish", "index") :=
  pe_trip (X := XOP P w K mg base f c A outer s H0 E0) EV hr rfl (.inl rfl) rfl (by decide +kernel) TB rfl (by kernel_rfl) hm hu rfl (by decide +kernel) (fun c' => ⟨"_law_p", _, _, rfl, nscope_by (by kernel_rfl), by decide +kernel, by decide +kernel, by decide +kernel, fun pm ctv us hl => match us, hl with | [_], _ => rfl⟩)
theorem tr_BadIndex (EV : EVs P w K mg base ("BadIndex", "index")) (hr : Room 3 (XOP P w K mg base f c A outer s H0 E0).A) (TB : TabB base mg c PT) (hm : (PT, qOP) ∈ T) (hu : ∀ p ∈ T, p.1 = PT → p.2 = qOP) :
    TripE (XOP P w K mg base f c A outer s H0 E0) T (elt bOP 1 0) ("BadIndex", "index") :=
  pe_trip (X := XOP P w K mg base f c A outer s H0 E0) EV hr rfl (.inl rfl) rfl (by decide +kernel) TB rfl (by kernel_rfl) hm hu rfl (by decide +kernel) (fun c' => ⟨"_law_e", _, _, rfl, nscope_by (by kernel_rfl), by decide +kernel, by decide +kernel, by decide +kernel, fun pm ctv us hl => match us, hl with | [_], _ => rfl⟩)
theorem tr_BadBox (EV : EVs P w K mg base ("BadBox", "box")) (hr : Room 3 (XOP P w K mg base f c A outer s H0 E0).A) (TB : TabB base mg c PT) (hm : (PT, qOP) ∈ T) (hu : ∀ p ∈ T, p.1 = PT → p.2 = qOP) :
    TripE (XOP P w K mg base f c A outer s H0 E0) T (elt bOP 1 1) ("BadBox", "box") :=
  pe_trip (X := XOP P w K mg base f c A outer s H0 E0) EV hr rfl (.inl rfl) rfl (by decide +kernel) TB rfl (by kernel_rfl) hm hu rfl (by decide +kernel) (fun c' => ⟨"_law_p", _, _, rfl, nscope_by (by kernel_rfl), by decide +kernel, by decide +kernel, by decide +kernel, fun pm ctv us hl => match us, hl with | [_], _ => rfl⟩)
theorem tr_BadBegun (EV : EVs P w K mg base ("BadBegun", "thing")) (hr : Room 3 (XOP P w K mg base f c A outer s H0 E0).A) (TB : TabB base mg c PT) (hm : (PT, qOP) ∈ T) (hu : ∀ p ∈ T, p.1 = PT → p.2 = qOP) :
    TripE (XOP P w K mg base f c A outer s H0 E0) T (elt bOP 2 0) ("BadBegun", "thing") :=
  pe_trip (X := XOP P w K mg base f c A outer s H0 E0) EV hr rfl (.inl rfl) rfl (by decide +kernel) TB rfl (by kernel_rfl) hm hu rfl (by decide +kernel) (fun c' => ⟨"_law_e", _, _, rfl, nscope_by (by kernel_rfl), by decide +kernel, by decide +kernel, by decide +kernel, fun pm ctv us hl => match us, hl with | [_], _ => rfl⟩)
theorem tr_NoPlace (EV : EVs P w K mg base ("NoPlace", "place")) (hr : Room 3 (XOP P w K mg base f c A outer s H0 E0).A) (TB : TabB base mg c PT) (hm : (PT, qOP) ∈ T) (hu : ∀ p ∈ T, p.1 = PT → p.2 = qOP) :
    TripE (XOP P w K mg base f c A outer s H0 E0) T (elt bOP 3 0) ("NoPlace", "place") :=
  pe_trip (X := XOP P w K mg base f c A outer s H0 E0) EV hr rfl (.inl rfl) rfl (by decide +kernel) TB rfl (by kernel_rfl) hm hu rfl (by decide +kernel) (fun c' => ⟨"_law_e", _, _, rfl, nscope_by (by kernel_rfl), by decide +kernel, by decide +kernel, by decide +kernel, fun pm ctv us hl => match us, hl with | [_], _ => rfl⟩)
theorem tr_NotThere (EV : EVs P w K mg base ("NotThere", "place")) (hr : Room 3 (XOP P w K mg base f c A outer s H0 E0).A) (TB : TabB base mg c PT) (hm : (PT, qOP) ∈ T) (hu : ∀ p ∈ T, p.1 = PT → p.2 = qOP) :
    TripE (XOP P w K mg base f c A outer s H0 E0) T (elt bOP 4 0) ("NotThere", "place") :=
  pe_trip (X := XOP P w K mg base f c A outer s H0 E0) EV hr rfl (.inl rfl) rfl (by decide +kernel) TB rfl (by kernel_rfl) hm hu rfl (by decide +kernel) (fun c' => ⟨"_law_e", _, _, rfl, nscope_by (by kernel_rfl), by decide +kernel, by decide +kernel, by decide +kernel, fun pm ctv us hl => match us, hl with | [_], _ => rfl⟩)
theorem tr_NotHeard (EV : EVs P w K mg base ("NotHeard", "index")) (hr : Room 3 (XOP P w K mg base f c A outer s H0 E0).A) (TB : TabB base mg c PT) (hm : (PT, qOP) ∈ T) (hu : ∀ p ∈ T, p.1 = PT → p.2 = qOP) :
    TripE (XOP P w K mg base f c A outer s H0 E0) T (elt bOP 5 0) ("NotHeard", "index") :=
  pe_trip (X := XOP P w K mg base f c A outer s H0 E0) EV hr rfl (.inl rfl) rfl (by decide +kernel) TB rfl (by kernel_rfl) hm hu rfl (by decide +kernel) (fun c' => ⟨"_law_e", _, _, rfl, nscope_by (by kernel_rfl), by decide +kernel, by decide +kernel, by decide +kernel, fun pm ctv us hl => match us, hl with | [_], _ => rfl⟩)
theorem tr_TooMany (EV : EVs P w K mg base ("TooMany", "many")) (hr : Room 3 (XOP P w K mg base f c A outer s H0 E0).A) (TB : TabB base mg c PT) (hm : (PT, qOP) ∈ T) (hu : ∀ p ∈ T, p.1 = PT → p.2 = qOP) :
    TripE (XOP P w K mg base f c A outer s H0 E0) T (elt bOP 6 0) ("TooMany", "many") :=
  pe_trip (X := XOP P w K mg base f c A outer s H0 E0) EV hr rfl (.inl rfl) rfl (by decide +kernel) TB rfl (by kernel_rfl) hm hu rfl (by decide +kernel) (fun c' => ⟨"_law_e", _, _, rfl, nscope_by (by kernel_rfl), by decide +kernel, by decide +kernel, by decide +kernel, fun pm ctv us hl => match us, hl with | [_], _ => rfl⟩)
theorem tr_NoSort (EV : EVs P w K mg base ("NoSort", "word")) (hr : Room 3 (XOP P w K mg base f c A outer s H0 E0).A) (TB : TabB base mg c PT) (hm : (PT, qOP) ∈ T) (hu : ∀ p ∈ T, p.1 = PT → p.2 = qOP) :
    TripE (XOP P w K mg base f c A outer s H0 E0) T (elt bOP 7 0) ("NoSort", "word") :=
  pe_trip (X := XOP P w K mg base f c A outer s H0 E0) EV hr rfl (.inl rfl) rfl (by decide +kernel) TB rfl (by kernel_rfl) hm hu rfl (by decide +kernel) (fun c' => ⟨"_law_e", _, _, rfl, nscope_by (by kernel_rfl), by decide +kernel, by decide +kernel, by decide +kernel, fun pm ctv us hl => match us, hl with | [_], _ => rfl⟩)
theorem tr_BadDeed (EV : EVs P w K mg base ("BadDeed", "index")) (hr : Room 3 (XOP P w K mg base f c A outer s H0 E0).A) (TB : TabB base mg c PT) (hm : (PT, qOP) ∈ T) (hu : ∀ p ∈ T, p.1 = PT → p.2 = qOP) :
    TripE (XOP P w K mg base f c A outer s H0 E0) T (elt bOP 8 0) ("BadDeed", "index") :=
  pe_trip (X := XOP P w K mg base f c A outer s H0 E0) EV hr rfl (.inl rfl) rfl (by decide +kernel) TB rfl (by kernel_rfl) hm hu rfl (by decide +kernel) (fun c' => ⟨"_law_e", _, _, rfl, nscope_by (by kernel_rfl), by decide +kernel, by decide +kernel, by decide +kernel, fun pm ctv us hl => match us, hl with | [_], _ => rfl⟩)
theorem tr_NameInUse (EV : EVs P w K mg base ("NameInUse", "name")) (hr : Room 3 (XOP P w K mg base f c A outer s H0 E0).A) (TB : TabB base mg c PT) (hm : (PT, qOP) ∈ T) (hu : ∀ p ∈ T, p.1 = PT → p.2 = qOP) :
    TripE (XOP P w K mg base f c A outer s H0 E0) T (elt bOP 9 0) ("NameInUse", "name") :=
  pe_trip (X := XOP P w K mg base f c A outer s H0 E0) EV hr rfl (.inl rfl) rfl (by decide +kernel) TB rfl (by kernel_rfl) hm hu rfl (by decide +kernel) (fun c' => ⟨"_law_e", _, _, rfl, nscope_by (by kernel_rfl), by decide +kernel, by decide +kernel, by decide +kernel, fun pm ctv us hl => match us, hl with | [_], _ => rfl⟩)
theorem tr_NoName (EV : EVs P w K mg base ("NoName", "name")) (hr : Room 3 (XOP P w K mg base f c A outer s H0 E0).A) (TB : TabB base mg c PT) (hm : (PT, qOP) ∈ T) (hu : ∀ p ∈ T, p.1 = PT → p.2 = qOP) :
    TripE (XOP P w K mg base f c A outer s H0 E0) T (elt bOP 10 0) ("NoName", "name") :=
  pe_trip (X := XOP P w K mg base f c A outer s H0 E0) EV hr rfl (.inl rfl) rfl (by decide +kernel) TB rfl (by kernel_rfl) hm hu rfl (by decide +kernel) (fun c' => ⟨"_law_e", _, _, rfl, nscope_by (by kernel_rfl), by decide +kernel, by decide +kernel, by decide +kernel, fun pm ctv us hl => match us, hl with | [_], _ => rfl⟩)
theorem tr_NoText (EV : EVs P w K mg base ("NoText", "word")) (hr : Room 3 (XOP P w K mg base f c A outer s H0 E0).A) (TB : TabB base mg c PT) (hm : (PT, qOP) ∈ T) (hu : ∀ p ∈ T, p.1 = PT → p.2 = qOP) :
    TripE (XOP P w K mg base f c A outer s H0 E0) T (elt bOP 11 0) ("NoText", "word") :=
  pe_trip (X := XOP P w K mg base f c A outer s H0 E0) EV hr rfl (.inl rfl) rfl (by decide +kernel) TB rfl (by kernel_rfl) hm hu rfl (by decide +kernel) (fun c' => ⟨"_law_e", _, _, rfl, nscope_by (by kernel_rfl), by decide +kernel, by decide +kernel, by decide +kernel, fun pm ctv us hl => match us, hl with | [_], _ => rfl⟩)
theorem tr_BadText (EV : EVs P w K mg base ("BadText", "line")) (hr : Room 3 (XOP P w K mg base f c A outer s H0 E0).A) (TB : TabB base mg c PT) (hm : (PT, qOP) ∈ T) (hu : ∀ p ∈ T, p.1 = PT → p.2 = qOP) :
    TripE (XOP P w K mg base f c A outer s H0 E0) T (elt bOP 12 0) ("BadText", "line") :=
  pe_trip (X := XOP P w K mg base f c A outer s H0 E0) EV hr rfl (.inl rfl) rfl (by decide +kernel) TB rfl (by kernel_rfl) hm hu rfl (by decide +kernel) (fun c' => ⟨"_law_e", _, _, rfl, nscope_by (by kernel_rfl), by decide +kernel, by decide +kernel, by decide +kernel, fun pm ctv us hl => match us, hl with | [_], _ => rfl⟩)
theorem bOP_eq : defBody sOP = [stAt bOP 0, stAt bOP 1, stAt bOP 2, stAt bOP 3, stAt bOP 4, stAt bOP 5, stAt bOP 6, stAt bOP 7, stAt bOP 8, stAt bOP 9, stAt bOP 10, stAt bOP 11, stAt bOP 12] := rfl
theorem ok_OP {oc : Value} {od : Option Addr} {kV doc pm ct : Value} {an : Option Addr} {osl : Array (Option Value)} (lk : K.lookup f = some ⟨oc, od, .func (PySem.W.fnOf "_law_other_pairs" "_law_other_pairs" (defArgs sOP) (defBody sOP) (defScope sOP) .none kV doc pm an (.ref c) ct), osl⟩) (hcd : PySem.W.codeIn K (.ref c) "_law_other_pairs" = true)
    (EV : ∀ x ∈ COP, EVs P w K mg base x) (TB : TabB base mg c PT) (hm : (PT, qOP) ∈ T) (hu : ∀ p ∈ T, p.1 = PT → p.2 = qOP) :
    FnOk P w K mg base C8.CX0 4 f (PySem.W.fnOf "_law_other_pairs" "_law_other_pairs" (defArgs sOP) (defBody sOP) (defScope sOP) .none kV doc pm an (.ref c) ct) ["_law_a"] (spPairs K T COP) := by
  refine fn_of (k := 3) lk hcd scOP (fun vs H Q E h => ?_) (fun A outer s H vs Q E hr h => ?_)
  · obtain ⟨y, rfl, _⟩ := h
    rfl
  · obtain ⟨y, rfl, hT, k⟩ := h
    have hr : Room 3 (XOP P w K mg base f c A outer s H E).A := hr
    have t0 := tr_BadMany (outer := outer) (s := s) (H0 := H) (E0 := E) (EV ("BadMany", "many") (by decide +kernel)) hr TB hm hu
    have t1 := tr_BadWish (outer := outer) (s := s) (H0 := H) (E0 := E) (EV ("BadWish", "index") (by decide +kernel)) hr TB hm hu
    have t2 := tr_BadIndex (outer := outer) (s := s) (H0 := H) (E0 := E) (EV ("BadIndex", "index") (by decide +kernel)) hr TB hm hu
    have t3 := tr_BadBox (outer := outer) (s := s) (H0 := H) (E0 := E) (EV ("BadBox", "box") (by decide +kernel)) hr TB hm hu
    have t4 := tr_BadBegun (outer := outer) (s := s) (H0 := H) (E0 := E) (EV ("BadBegun", "thing") (by decide +kernel)) hr TB hm hu
    have t5 := tr_NoPlace (outer := outer) (s := s) (H0 := H) (E0 := E) (EV ("NoPlace", "place") (by decide +kernel)) hr TB hm hu
    have t6 := tr_NotThere (outer := outer) (s := s) (H0 := H) (E0 := E) (EV ("NotThere", "place") (by decide +kernel)) hr TB hm hu
    have t7 := tr_NotHeard (outer := outer) (s := s) (H0 := H) (E0 := E) (EV ("NotHeard", "index") (by decide +kernel)) hr TB hm hu
    have t8 := tr_TooMany (outer := outer) (s := s) (H0 := H) (E0 := E) (EV ("TooMany", "many") (by decide +kernel)) hr TB hm hu
    have t9 := tr_NoSort (outer := outer) (s := s) (H0 := H) (E0 := E) (EV ("NoSort", "word") (by decide +kernel)) hr TB hm hu
    have t10 := tr_BadDeed (outer := outer) (s := s) (H0 := H) (E0 := E) (EV ("BadDeed", "index") (by decide +kernel)) hr TB hm hu
    have t11 := tr_NameInUse (outer := outer) (s := s) (H0 := H) (E0 := E) (EV ("NameInUse", "name") (by decide +kernel)) hr TB hm hu
    have t12 := tr_NoName (outer := outer) (s := s) (H0 := H) (E0 := E) (EV ("NoName", "name") (by decide +kernel)) hr TB hm hu
    have t13 := tr_NoText (outer := outer) (s := s) (H0 := H) (E0 := E) (EV ("NoText", "word") (by decide +kernel)) hr TB hm hu
    have t14 := tr_BadText (outer := outer) (s := s) (H0 := H) (E0 := E) (EV ("BadText", "line") (by decide +kernel)) hr TB hm hu
    have c0 : Ho (XOP P w K mg base f c A outer s H E) (stAt bOP 0) _ _ := ho_tfirst (T := T) (H0 := H) (y := y) (cs := [("BadMany", "many"), ("BadWish", "index")]) scOP.nd rfl rfl (.cons t0 (.cons t1 .nil)) (by decide)
    have c1 : Ho (XOP P w K mg base f c A outer s H E) (stAt bOP 1) _ _ := ho_text (T := T) (H0 := H) (y := y) (cs := [("BadMany", "many"), ("BadWish", "index")]) rfl (.inl rfl) (.cons t2 (.cons t3 .nil)) (by decide)
    have c2 : Ho (XOP P w K mg base f c A outer s H E) (stAt bOP 2) _ _ := ho_tapp (T := T) (H0 := H) (y := y) (cs := [("BadMany", "many"), ("BadWish", "index"), ("BadIndex", "index"), ("BadBox", "box")]) rfl (.inl rfl) t4 (by decide)
    have c3 : Ho (XOP P w K mg base f c A outer s H E) (stAt bOP 3) _ _ := ho_tapp (T := T) (H0 := H) (y := y) (cs := [("BadMany", "many"), ("BadWish", "index"), ("BadIndex", "index"), ("BadBox", "box"), ("BadBegun", "thing")]) rfl (.inl rfl) t5 (by decide)
    have c4 : Ho (XOP P w K mg base f c A outer s H E) (stAt bOP 4) _ _ := ho_tapp (T := T) (H0 := H) (y := y) (cs := [("BadMany", "many"), ("BadWish", "index"), ("BadIndex", "index"), ("BadBox", "box"), ("BadBegun", "thing"), ("NoPlace", "place")]) rfl (.inl rfl) t6 (by decide)
    have c5 : Ho (XOP P w K mg base f c A outer s H E) (stAt bOP 5) _ _ := ho_tapp (T := T) (H0 := H) (y := y) (cs := [("BadMany", "many"), ("BadWish", "index"), ("BadIndex", "index"), ("BadBox", "box"), ("BadBegun", "thing"), ("NoPlace", "place"), ("NotThere", "place")]) rfl (.inl rfl) t7 (by decide)
    have c6 : Ho (XOP P w K mg base f c A outer s H E) (stAt bOP 6) _ _ := ho_tapp (T := T) (H0 := H) (y := y) (cs := [("BadMany", "many"), ("BadWish", "index"), ("BadIndex", "index"), ("BadBox", "box"), ("BadBegun", "thing"), ("NoPlace", "place"), ("NotThere", "place"), ("NotHeard", "index")]) rfl (.inl rfl) t8 (by decide)
    have c7 : Ho (XOP P w K mg base f c A outer s H E) (stAt bOP 7) _ _ := ho_tapp (T := T) (H0 := H) (y := y) (cs := [("BadMany", "many"), ("BadWish", "index"), ("BadIndex", "index"), ("BadBox", "box"), ("BadBegun", "thing"), ("NoPlace", "place"), ("NotThere", "place"), ("NotHeard", "index"), ("TooMany", "many")]) rfl (.inl rfl) t9 (by decide)
    have c8 : Ho (XOP P w K mg base f c A outer s H E) (stAt bOP 8) _ _ := ho_tapp (T := T) (H0 := H) (y := y) (cs := [("BadMany", "many"), ("BadWish", "index"), ("BadIndex", "index"), ("BadBox", "box"), ("BadBegun", "thing"), ("NoPlace", "place"), ("NotThere", "place"), ("NotHeard", "index"), ("TooMany", "many"), ("NoSort", "word")]) rfl (.inl rfl) t10 (by decide)
    have c9 : Ho (XOP P w K mg base f c A outer s H E) (stAt bOP 9) _ _ := ho_tapp (T := T) (H0 := H) (y := y) (cs := [("BadMany", "many"), ("BadWish", "index"), ("BadIndex", "index"), ("BadBox", "box"), ("BadBegun", "thing"), ("NoPlace", "place"), ("NotThere", "place"), ("NotHeard", "index"), ("TooMany", "many"), ("NoSort", "word"), ("BadDeed", "index")]) rfl (.inl rfl) t11 (by decide)
    have c10 : Ho (XOP P w K mg base f c A outer s H E) (stAt bOP 10) _ _ := ho_tapp (T := T) (H0 := H) (y := y) (cs := [("BadMany", "many"), ("BadWish", "index"), ("BadIndex", "index"), ("BadBox", "box"), ("BadBegun", "thing"), ("NoPlace", "place"), ("NotThere", "place"), ("NotHeard", "index"), ("TooMany", "many"), ("NoSort", "word"), ("BadDeed", "index"), ("NameInUse", "name")]) rfl (.inl rfl) t12 (by decide)
    have c11 : Ho (XOP P w K mg base f c A outer s H E) (stAt bOP 11) _ _ := ho_tapp (T := T) (H0 := H) (y := y) (cs := [("BadMany", "many"), ("BadWish", "index"), ("BadIndex", "index"), ("BadBox", "box"), ("BadBegun", "thing"), ("NoPlace", "place"), ("NotThere", "place"), ("NotHeard", "index"), ("TooMany", "many"), ("NoSort", "word"), ("BadDeed", "index"), ("NameInUse", "name"), ("NoName", "name")]) rfl (.inl rfl) t13 (by decide)
    have c12 : Hr (XOP P w K mg base f c A outer s H E) [stAt bOP 12] _ _ := hr_tret (T := T) (H0 := H) (y := y) (cs := [("BadMany", "many"), ("BadWish", "index"), ("BadIndex", "index"), ("BadBox", "box"), ("BadBegun", "thing"), ("NoPlace", "place"), ("NotThere", "place"), ("NotHeard", "index"), ("TooMany", "many"), ("NoSort", "word"), ("BadDeed", "index"), ("NameInUse", "name"), ("NoName", "name"), ("NoText", "word")]) rfl (.inl rfl) (.cons t14 .nil) (by decide)
    obtain ⟨t, ht, kt⟩ := (c0.consR (c1.consR (c2.consR (c3.consR (c4.consR (c5.consR (c6.consR (c7.consR (c8.consR (c9.consR (c10.consR (c11.consR c12))))))))))))
    refine ⟨t, PSs.nox (by rw [bOP_eq]; exact ht), kt _ _ _ ⟨rfl, hT, rfl⟩ fun v H' hv => ?_⟩
    obtain ⟨R, ps, rfl, hR, hn, trs, t1, ex⟩ := hv
    exact k R ps H' hR hn trs t1 ex
end
end Mv
namespace Mv
open PySem PySem.Spec PyProof.Rows L2 LamX
/-! ### defs by their names -/
structure Dn (P : Program) (w : World) (K : PySem.W.Frag) (mg : Str → Option Value) (base : Heap) (CX : CXT) (k : Nat) (x : Str) (ps : List Str) (sp : Sp) : Prop where
  ex : ∃ f fd, FnOk P w K mg base CX k f fd ps sp ∧ mg x = some (.ref f) ∧ PySem.W.keepIn K (.ref f) = true ∧ Binds K fd ps []
section
variable {X : Cx} {CX : CXT} {k j : Nat} {x : Str} {ps : List Str} {sp : Sp} {E : XK} {e : Expr} {es : List Expr} {t : TA} {tc : TE} {p pos : Pos}
theorem pe_d (D : Dn X.prog X.w X.K X.mg X.base CX k x ps sp) (hr : Room j X.A) (hk : k ≤ j) (hg : Gl X x) (hx : Passes CX X E) (ha : PA X (e :: es) t) (hdb : (x == ("__debug__" : Str)) = false := by decide)
    (he : starEach (e :: es) X.env = (false, eval e X.env) :: starEach es X.env := by rfl) (hpl : (backTo pos (starEach es X.env)).any (·.1) = false := by rfl) : PE X (.Call (.Name x p) (e :: es) [] pos) (tCall sp [] E t) := by
  obtain ⟨f, fd, F, hm, kp, b⟩ := D.ex
  exact pe_call F (hr.mono hk) hg hm kp b .nil hx ha hdb he hpl
end
abbrev sLaw : Stmt := top 39
def forBody : Stmt → List Stmt
  | .For (body := b) .. => b
  | _ => []
abbrev lawB : List Stmt := defBody sLaw
abbrev oB : List Stmt := forBody (stAt lawB 1)
abbrev iB : List Stmt := forBody (stAt oB 0)
abbrev zB : List Stmt := forBody (stAt lawB 2)
abbrev nLaw : List Str := ["_law_script", "_law_a", "_law_one", "_law_two", "_law_field", "_law_e"]
theorem scLa : FnScope nLaw ["_law_script"] (defScope sLaw) := ⟨rfl, rfl, rfl, by decide +kernel, rfl, by decide +kernel, by decide +kernel⟩
abbrev LX (P : Program) (w : World) (K : PySem.W.Frag) (mg : Str → Option Value) (base : Heap) (f : Addr) (cdv : Value) (A : Around) (outer : List Env) (s : Shared) (H : Hp) (E : XK) : Cx := (cxOf CX0 P w K mg base nLaw "law" (defScope sLaw) f cdv A outer s H E).nox
abbrev CAll : List (Str × Str) := CFP ++ COP
abbrev ZN : List Str := ["NoTerms", "UnlikePlaces", "BadGroup", "NotStopping"]
structure LF (P : Program) (w : World) (K : PySem.W.Frag) (mg : Str → Option Value) (base : Heap) (CV : Addr) (T : List (Addr × Str)) : Prop where
  isi : mg "isinstance" = none
  gV : mg "VoiceError" = some (.ref CV)
  val : mg "ValueError" = none
  kt : KT K mg
  kV : ∀ x ∈ KORD, PySem.W.kitOne K (.ref (cA K x)) (.ref CV) = some true
  kE : ∀ x ∈ KORD, PySem.W.kitOne K (.ref (cA K x)) (.type "ValueError") = some true
  obj : Dn P w K mg base CX0 1 "_law_object" ["_law_script"] (spObj K)
  fp : Dn P w K mg base CX0 4 "_law_first_pairs" ["_law_a"] (spPairs K T CFP)
  op : Dn P w K mg base CX0 4 "_law_other_pairs" ["_law_a"] (spPairs K T COP)
  kinds : Dn P w K mg base CX0 1 "_law_kinds" ["_law_e"] (spKinds K)
  same : Dn P w K mg base CX0 4 "_law_same" ["_law_found", "_law_due"] (spSame K 3)
  zero : ∀ x ∈ ZN, ErrV0 P w K mg base x (cA K x)
  noF : ∀ c ∈ CAll, PySem.W.findIn K (.ref (cA K c.1)) c.2 = some none
theorem call_kord : ∀ c ∈ CAll, c.1 ∈ KORD := by decide +kernel
theorem zn_kord : ∀ x ∈ ZN, x ∈ KORD := by decide +kernel
theorem SmD.ext {K : PySem.W.Frag} {H H' : Hp} {n : Nat} {x y : V} (s : ExtN H H') (h : SmD K H n x y) : SmD K H' n x y := by
  have sl : ∀ {a : Addr} {xs : List V}, SqL K H a xs → SqL K H' a xs := fun {a xs} h => by
    rcases h with h | h
    · rcases h with h | ⟨o, h⟩
      · exact .inl (.inl (s _ _ h (fun _ z => by cases z)))
      · exact .inl (.inr ⟨o, s _ _ h (fun _ z => by cases z)⟩)
    · exact .inr h
  have st : ∀ {a : Addr} {xs : List V}, SqT K H a xs → SqT K H' a xs := fun {a xs} h => by
    rcases h with h | h
    · rcases h with h | ⟨o, h⟩
      · exact .inl (.inl (s _ _ h (fun _ z => by cases z)))
      · exact .inl (.inr ⟨o, s _ _ h (fun _ z => by cases z)⟩)
    · exact .inr h
  induction h with
  | int n i => exact .int n i
  | bl n b => exact .bl n b
  | non n => exact .non n
  | str n z => exact .str n z
  | dic n h => exact .dic n (s _ _ h (fun _ z => by cases z))
  | lst h1 h2 hl hz _ ih => exact .lst (sl h1) (sl h2) hl hz ih
  | tup h1 h2 hl hz _ ih => exact .tup (st h1) (st h2) hl hz ih
section
variable {P : Program} {w : World} {K : PySem.W.Frag} {mg : Str → Option Value} {base : Heap} {f CV : Addr} {T : List (Addr × Str)} {cdv : Value} {A : Around} {outer : List Env} {s : Shared} {H0 : Hp} {E0 : XK}
def HoI {I : Type} (X : Cx) (st : Stmt) (pre post : I → L2.St → Hp → Prop) : Prop := ∃ t, PS X st t ∧ ∀ i D σ H, pre i σ H → (∀ σ' H', post i σ' H' → D.nx σ' H') → t D σ H
/-- what is known of the error at e at Hs -/
structure EK (K : PySem.W.Frag) (Hs : Hp) (x fld : Str) (y : V) (e fl : Addr) : Prop where
  mem : (x, fld) ∈ CAll
  ex : ∃ d, Hs e = some (exo e (cA K x) (some d)) ∧ Hs d = some (exd d [(fld, y)])
  lam : ∃ F : LamF, Hs fl = some (LamO fl F) ∧ FldLam F fld ∧ Hs F.c = some (CodeO F.c F.qual)
  sm : SmD K Hs 3 y y
theorem EK.same {Hs H : Hp} {x fld : Str} {y : V} {e fl : Addr} (h : EK K Hs x fld y e fl) (s : Same Hs H) : EK K H x fld y e fl := by
  obtain ⟨m, ⟨d, h1, h2⟩, ⟨F, h3, h4, h5⟩, h6⟩ := h
  exact ⟨m, ⟨d, s _ _ h1, s _ _ h2⟩, ⟨F, s _ _ h3, h4, s _ _ h5⟩, h6.same s⟩
theorem EK.at_ {Hs : Hp} {x fld : Str} {y : V} {e fl : Addr} (h : EK K Hs x fld y e fl) : ExAt K Hs e x := by
  obtain ⟨d, h1, h2⟩ := h.ex
  exact ⟨some d, h1, fun e' he => by cases he; exact ⟨_, h2⟩⟩
abbrev S6 (σ : L2.St) (e : Addr) : Prop := ∃ v0 v1 v2 v3 v4, σ = [v0, v1, v2, v3, v4, some (.ref e)]
theorem ho_kindI (F : LF P w K mg base CV T) (hr : Room 4 (LX P w K mg base f cdv A outer s H0 E0).A) :
    HoI (LX P w K mg base f cdv A outer s H0 E0) (stAt iB 0) (fun (i : L2.St × Hp) σ H => σ = i.1 ∧ H = i.2 ∧ ∃ e x, S6 σ e ∧ x ∈ KORD ∧ ExAt K H e x) (fun i σ H => σ = i.1 ∧ Same i.2 H) := by
  refine ⟨_, ps_if (PW.pt (pw_or (pt_not (pt_val (pe_callB call_isV (by rfl) F.isi (by decide +kernel) (pa_cons (pv 5) (pa_cons (pe_glob (v := .ref CV) (by rfl) F.gV rfl) pa_nil)))))
    (pw_or (pt_not (pt_val (pe_callB call_isV (by rfl) F.isi (by decide +kernel) (pa_cons (pv 5) (pa_cons (pe_bltn (v := .ty "ValueError") (by rfl) F.val (by decide +kernel) rfl) pa_nil)))))
    (pw_or1 (pt_cmpR op_ne (pe_d F.kinds hr (by decide) (by rfl) pass0 (pa_cons (pv 5) pa_nil)) pe_int (nomark _)))))) (pss_one (ps_ret pe_bl)) pss_nil, ?_⟩
  rintro ⟨σ0, Hs⟩ D σ H ⟨rfl, rfl, e, x, ⟨v0, v1, v2, v3, v4, rfl⟩, hx, d, h1, h2⟩ k
  refine ⟨_, rfl, e, cA K x, d, _, _, true, rfl, h1, F.kt.ex x hx, h2, fun u z => z, F.kV x hx, true, rfl, ?_⟩
  refine iteF ?_
  refine ⟨_, rfl, e, cA K x, d, _, _, true, rfl, h1, F.kt.ex x hx, h2, fun u z => z, F.kE x hx, true, rfl, ?_⟩
  refine iteF ?_
  refine ⟨_, rfl, e, x, rfl, hx, ⟨d, h1, h2⟩, fun H1 s1 => ⟨rfl, _, rfl, ?_⟩⟩
  refine iteF ?_
  exact k _ _ ⟨rfl, s1⟩
theorem ho_kindZ (F : LF P w K mg base CV T) (hr : Room 4 (LX P w K mg base f cdv A outer s H0 E0).A) :
    HoI (LX P w K mg base f cdv A outer s H0 E0) (stAt zB 0) (fun (i : L2.St × Hp) σ H => σ = i.1 ∧ H = i.2 ∧ ∃ e x, S6 σ e ∧ x ∈ KORD ∧ ExAt K H e x) (fun i σ H => σ = i.1 ∧ Same i.2 H) := by
  refine ⟨_, ps_if (PW.pt (pw_or (pt_not (pt_val (pe_callB call_isV (by rfl) F.isi (by decide +kernel) (pa_cons (pv 5) (pa_cons (pe_glob (v := .ref CV) (by rfl) F.gV rfl) pa_nil)))))
    (pw_or (pt_not (pt_val (pe_callB call_isV (by rfl) F.isi (by decide +kernel) (pa_cons (pv 5) (pa_cons (pe_bltn (v := .ty "ValueError") (by rfl) F.val (by decide +kernel) rfl) pa_nil)))))
    (pw_or1 (pt_cmpR op_ne (pe_d F.kinds hr (by decide) (by rfl) pass0 (pa_cons (pv 5) pa_nil)) pe_int (nomark _)))))) (pss_one (ps_ret pe_bl)) pss_nil, ?_⟩
  rintro ⟨σ0, Hs⟩ D σ H ⟨rfl, rfl, e, x, ⟨v0, v1, v2, v3, v4, rfl⟩, hx, d, h1, h2⟩ k
  refine ⟨_, rfl, e, cA K x, d, _, _, true, rfl, h1, F.kt.ex x hx, h2, fun u z => z, F.kV x hx, true, rfl, ?_⟩
  refine iteF ?_
  refine ⟨_, rfl, e, cA K x, d, _, _, true, rfl, h1, F.kt.ex x hx, h2, fun u z => z, F.kE x hx, true, rfl, ?_⟩
  refine iteF ?_
  refine ⟨_, rfl, e, x, rfl, hx, ⟨d, h1, h2⟩, fun H1 s1 => ⟨rfl, _, rfl, ?_⟩⟩
  refine iteF ?_
  exact k _ _ ⟨rfl, s1⟩

theorem ho_fld (F : LF P w K mg base CV T) (hr : Room 4 (LX P w K mg base f cdv A outer s H0 E0).A) :
    HoI (LX P w K mg base f cdv A outer s H0 E0) (stAt iB 1) (fun (i : L2.St × Hp) σ H => σ = i.1 ∧ H = i.2 ∧ ∃ v0 y v2 v3 fl e x fld, σ = [v0, some y, v2, v3, some (.ref fl), some (.ref e)] ∧ EK K H x fld y e fl) (fun i σ H => σ = i.1 ∧ Same i.2 H) := by
  refine ⟨_, ps_if (pt_not (pt_val (pe_d F.same hr (by decide) (by rfl) pass0 (pa_cons (pe_callFld (i := 4) (k := 3) hr rfl (.inl rfl) (pv 5)) (pa_cons (pv 1) pa_nil))))) (pss_one (ps_ret pe_bl)) pss_nil, ?_⟩
  rintro ⟨σ0, Hs⟩ D σ H ⟨rfl, rfl, v0, y, v2, v3, fl, e, x, fld, rfl, hk⟩ k
  obtain ⟨d, h1, h2⟩ := hk.ex
  obtain ⟨FL, h3, h4, h5⟩ := hk.lam
  refine ⟨fl, FL, fld, h4, rfl, h3, _, rfl, e, cA K x, d, [(fld, y)], y, h3, h5, rfl, h1, h2, F.kt.ex x (call_kord _ hk.mem), F.noF _ hk.mem, by simp [List.lookup], _, rfl, y, y, rfl, hk.sm, fun H1 s1 => ⟨_, rfl, ?_⟩⟩
  refine iteF ?_
  exact k _ _ ⟨rfl, s1⟩
def HosI {I : Type} (X : Cx) (sts : List Stmt) (pre post : I → L2.St → Hp → Prop) : Prop := ∃ t, PSs X sts t ∧ ∀ i D σ H, pre i σ H → (∀ σ' H', post i σ' H' → D.nx σ' H') → t D σ H
theorem iB_eq : iB = [stAt iB 0, stAt iB 1] := rfl
theorem oB_eq : oB = [stAt oB 0] := rfl
theorem zB_eq : zB = [stAt zB 0] := rfl
/-- one turn of the inner loop -/
theorem hos_turn (F : LF P w K mg base CV T) (hr : Room 4 (LX P w K mg base f cdv A outer s H0 E0).A) :
    HosI (LX P w K mg base f cdv A outer s H0 E0) iB (fun (i : L2.St × Hp) σ H => σ = i.1 ∧ H = i.2 ∧ ∃ v0 y v2 v3 fl e x fld, σ = [v0, some y, v2, v3, some (.ref fl), some (.ref e)] ∧ EK K H x fld y e fl) (fun i σ H => σ = i.1 ∧ Same i.2 H) := by
  obtain ⟨t0, p0, k0⟩ := ho_kindI (f := f) (cdv := cdv) (A := A) (outer := outer) (s := s) (H0 := H0) (E0 := E0) F hr
  obtain ⟨t1, p1, k1⟩ := ho_fld (f := f) (cdv := cdv) (A := A) (outer := outer) (s := s) (H0 := H0) (E0 := E0) F hr
  rw [iB_eq]
  refine ⟨_, C8.pss_cut p0 (pss_one p1), ?_⟩
  rintro ⟨σ0, Hs⟩ D σ H ⟨rfl, rfl, v0, y, v2, v3, fl, e, x, fld, rfl, hk⟩ k
  refine ⟨fun σ' H' => σ' = _ ∧ Same H H', k0 (_, H) _ _ _ ⟨rfl, rfl, e, x, ⟨_, _, _, _, _, rfl⟩, call_kord _ hk.mem, hk.at_⟩ fun σ' H' h => h, ?_⟩
  rintro σ' H' ⟨rfl, s1⟩
  exact k1 (_, H') _ _ _ ⟨rfl, rfl, v0, y, v2, v3, fl, e, x, fld, rfl, hk.same s1⟩ fun σ2 H2 h2 => k _ _ ⟨h2.1, s1.trans h2.2⟩
structure OI where
  v0 : Option V
  y : V
  Hs : Hp
def S25 (i : OI) (σ : L2.St) : Prop := ∃ v2 v3 v4 v5, σ = [i.v0, some i.y, v2, v3, v4, v5]
theorem hos_inner (F : LF P w K mg base CV T) (hr : Room 4 (LX P w K mg base f cdv A outer s H0 E0).A) :
    HosI (LX P w K mg base f cdv A outer s H0 E0) oB (fun (i : OI) σ H => H = i.Hs ∧ ∃ a1 a2 fl v5 x fld, σ = [i.v0, some i.y, some (.ref a1), some (.ref a2), some (.ref fl), v5] ∧ EK K H x fld i.y a1 fl ∧ EK K H x fld i.y a2 fl) (fun i σ H => S25 i σ ∧ Same i.Hs H) := by
  obtain ⟨tb, hb, kb⟩ := hos_turn (f := f) (cdv := cdv) (A := A) (outer := outer) (s := s) (H0 := H0) (E0 := E0) F hr
  rw [oB_eq]
  refine ⟨_, pss_one (ps_for PassesOwn.never rfl (pi_tup (pe_tup (pa_cons (pv 2) (pa_cons (pv 3) pa_nil)))) (pg_name (i := 5) scLa.nd rfl (.inl rfl)) hb), ?_⟩
  rintro ⟨v0, y, Hs⟩ D σ H ⟨rfl, a1, a2, fl, v5, x, fld, rfl, e1, e2⟩ k
  refine ⟨_, rfl, _, rfl, (by show 2 ≤ sizeLine; decide), fun t nt => ?_⟩
  have s0 := same_new (o := .tup [V.ref a1, V.ref a2]) nt
  refine ⟨t, rfl, ⟨_, sqT_of upd_same⟩, for_it (walk_tup (K := K) (a := t) (xs := [V.ref a1, V.ref a2])) (fun _ σ' H' => (∃ v5, σ' = [v0, some y, some (.ref a1), some (.ref a2), some (.ref fl), v5]) ∧ Same H H' ∧ H' t = some (.tup [V.ref a1, V.ref a2])) ⟨⟨v5, rfl⟩, s0, upd_same⟩ (fun i σ' H' _ q => sqT_of q.2.2) ?_ ?_⟩
  · rintro i z σ' H1 H2 hi ⟨⟨v5', rfl⟩, sm, ht⟩ ⟨rfl, hz⟩
    obtain ⟨e, rfl, he⟩ : ∃ e, z = V.ref e ∧ EK K H x fld y e fl := by
      match i, hz with
      | 0, hz => cases hz; exact ⟨a1, rfl, e1⟩
      | 1, hz => cases hz; exact ⟨a2, rfl, e2⟩
    refine kb (_, H2) _ _ _ ⟨rfl, rfl, v0, y, _, _, fl, e, x, fld, rfl, he.same sm⟩ ?_
    rintro σ3 H3 ⟨rfl, s3⟩
    exact ⟨⟨_, rfl⟩, sm.trans s3, s3 _ _ ht⟩
  · rintro σ' H1 ⟨⟨v5', rfl⟩, sm, ht⟩
    exact k _ _ ⟨⟨_, _, _, _, rfl⟩, sm⟩
end
end Mv
namespace Mv
open PySem PySem.Spec PyProof.Rows L2 LamX
section
variable {P : Program} {w : World} {K : PySem.W.Frag} {mg : Str → Option Value} {base : Heap} {f CV : Addr} {T : List (Addr × Str)} {cdv : Value} {A : Around} {outer : List Env} {s : Shared} {H0 : Hp} {E0 : XK}
theorem pair_at {α β : Type} {R : α → β → Prop} {as : List α} {bs : List β} (h : Paired R as bs) : ∀ {i : Nat} {x : α}, as[i]? = some x → ∃ y, bs[i]? = some y ∧ R x y := by
  induction h with
  | nil => exact fun e => nomatch e
  | cons r _ ih =>
    intro i x e
    match i, e with
    | 0, e =>
      cases e
      exact ⟨_, rfl, r⟩
    | i + 1, e => exact ih e
def Ho1 (X : Cx) (st : Stmt) (pre post : L2.St → Hp → Prop) : Prop := Ho X st pre post
theorem ho_outer (F : LF P w K mg base CV T) (hr : Room 4 (LX P w K mg base f cdv A outer s H0 E0).A) :
    Ho (LX P w K mg base f cdv A outer s H0 E0) (stAt lawB 1) (fun σ H => ∃ v0 y v2 v3 v4 v5, σ = [v0, some y, v2, v3, v4, v5] ∧ Tabs T H ∧ SmD K H 3 y y) (fun σ H => σ.length = 6) := by
  obtain ⟨tb, hb, kb⟩ := hos_inner (f := f) (cdv := cdv) (A := A) (outer := outer) (s := s) (H0 := H0) (E0 := E0) F hr
  refine ⟨_, ps_for PassesOwn.never rfl (pi_list (pe_op op_cat (pe_d F.fp hr (by decide) (by rfl) pass0 (pa_cons (pv 1) pa_nil)) (pe_d F.op hr (by decide) (by rfl) pass0 (pa_cons (pv 1) pa_nil))))
    (pg_tup rfl (pgs_cons (pg_name (i := 2) scLa.nd rfl (.inl rfl)) (pgs_cons (pg_name (i := 3) scLa.nd rfl (.inl rfl)) (pgs_cons (pg_name (i := 4) scLa.nd rfl (.inl rfl)) pgs_nil)))) hb, ?_⟩
  rintro D σ H ⟨v0, y, v2, v3, v4, v5, rfl, hT, hy⟩ k
  refine ⟨_, rfl, y, rfl, hT, fun R1 ps1 H1 hR1 n1 tr1 t1 ex1 => ?_⟩
  refine ⟨_, rfl, y, rfl, t1, fun R2 ps2 H2 hR2 n2 tr2 t2 ex2 => ?_⟩
  have l1 := pair_len tr1
  have l2 := pair_len tr2
  have e1 : CFP.length = 12 := rfl
  have e2 : COP.length = 15 := rfl
  refine ⟨R1, R2, _, _, rfl, rfl, ex2 _ _ hR1 (fun _ z => by cases z), hR2, by rw [List.length_map, List.length_map]; exact small1k (by omega), fun R hR => ?_⟩
  have s0 := same_new (o := .lst (ps1.map V.ref ++ ps2.map V.ref)) hR
  have trs : Paired (TripAt K (upd H2 R (.lst (ps1.map V.ref ++ ps2.map V.ref))) y) (ps1 ++ ps2) CAll := pair_app (pair_sty (pair_sty tr1 (Sty.ext ex2)) (Sty.same s0)) (pair_sty tr2 (Sty.same s0))
  have hy2 := (hy.ext (ex1.trans ex2)).same s0
  have hL : upd H2 R (.lst (ps1.map V.ref ++ ps2.map V.ref)) R = some (.lst ((ps1 ++ ps2).map V.ref)) := by rw [upd_same, List.map_append]
  generalize hG : upd H2 R (.lst (ps1.map V.ref ++ ps2.map V.ref)) = G at trs hy2 hL
  refine ⟨R, rfl, ⟨_, sqL_of hL⟩, for_it (walk_list (K := K) (a := R) (xs := (ps1 ++ ps2).map V.ref)) (fun _ σ' H' => S25 ⟨v0, y, G⟩ σ' ∧ Same G H') ⟨⟨_, _, _, _, rfl⟩, Same.refl _⟩ (fun i σ' H' _ q => sqL_of (q.2 _ _ hL)) ?_ ?_⟩
  · rintro i z σ' H3 H4 hi ⟨⟨w2, w3, w4, w5, rfl⟩, sm⟩ ⟨rfl, hz⟩
    rw [List.getElem?_map] at hz
    cases eq : (ps1 ++ ps2)[i]? with
    | none =>
      rw [eq] at hz
      cases hz
    | some p =>
      rw [eq] at hz
      cases hz
      obtain ⟨⟨x, fld⟩, hc, tr⟩ := pair_at trs eq
      obtain ⟨a1, a2, fl, d1, d2, FL, h1, h2, h3, h4, h5, h6, h7, h8⟩ := tr.sty (Sty.same sm)
      refine ⟨p, _, rfl, sqT_of h1, rfl, _, _, rfl, ?_⟩
      refine ⟨_, _, rfl, ?_⟩
      refine ⟨_, _, rfl, rfl, ?_⟩
      have hm : (x, fld) ∈ CAll := List.mem_of_getElem? hc
      refine kb ⟨v0, y, H4⟩ _ _ _ ⟨rfl, a1, a2, fl, w5, x, fld, rfl, ⟨hm, ⟨d1, h2, h3⟩, ⟨FL, h6, h7, h8⟩, hy2.same sm⟩, ⟨hm, ⟨d2, h4, h5⟩, ⟨FL, h6, h7, h8⟩, hy2.same sm⟩⟩ ?_
      rintro σ5 H5 ⟨⟨z2, z3, z4, z5, rfl⟩, s5⟩
      exact ⟨⟨z2, z3, z4, z5, rfl⟩, sm.trans s5⟩
  · rintro σ' H3 ⟨⟨w2, w3, w4, w5, rfl⟩, sm⟩
    exact k _ _ rfl
theorem ho_zero (F : LF P w K mg base CV T) (hr : Room 4 (LX P w K mg base f cdv A outer s H0 E0).A) :
    Ho (LX P w K mg base f cdv A outer s H0 E0) (stAt lawB 2) (fun σ H => σ.length = 6) (fun σ H => True) := by
  obtain ⟨tb, hb, kb⟩ := ho_kindZ (f := f) (cdv := cdv) (A := A) (outer := outer) (s := s) (H0 := H0) (E0 := E0) F hr
  have hr3 := hr.mono (show 3 ≤ 4 by decide)
  refine ⟨_, ps_for PassesOwn.never rfl (pi_tup (pe_tup (pa_cons (pe_mkV0 (F.zero "NoTerms" (by decide +kernel)) hr3 (by rfl)) (pa_cons (pe_mkV0 (F.zero "UnlikePlaces" (by decide +kernel)) hr3 (by rfl)) (pa_cons (pe_mkV0 (F.zero "BadGroup" (by decide +kernel)) hr3 (by rfl)) (pa_cons (pe_mkV0 (F.zero "NotStopping" (by decide +kernel)) hr3 (by rfl)) pa_nil))))))
    (pg_name (i := 5) scLa.nd rfl (.inl rfl)) (pss_one hb), ?_⟩
  rintro D σ H hl k
  obtain ⟨v0, v1, v2, v3, v4, v5, rfl⟩ : ∃ v0 v1 v2 v3 v4 v5, σ = [v0, v1, v2, v3, v4, v5] := by
    match σ, hl with
    | [v0, v1, v2, v3, v4, v5], _ => exact ⟨_, _, _, _, _, _, rfl⟩
  refine fun a1 n1 => fun a2 n2 => fun a3 n3 => fun a4 n4 => ⟨(by show 4 ≤ sizeLine; decide), fun t nt => ?_⟩
  have s1 := same_new (o := exo a1 (cA K "NoTerms") none) n1
  have s2 := same_new (o := exo a2 (cA K "UnlikePlaces") none) n2
  have s3 := same_new (o := exo a3 (cA K "BadGroup") none) n3
  have s4 := same_new (o := exo a4 (cA K "NotStopping") none) n4
  have s5 := same_new (o := .tup [V.ref a1, V.ref a2, V.ref a3, V.ref a4]) nt
  have g1 := s5 _ _ (s4 _ _ (s3 _ _ (s2 _ _ (upd_same (H := H) (a := a1) (o := exo a1 (cA K "NoTerms") none)))))
  have g2 := s5 _ _ (s4 _ _ (s3 _ _ (upd_same (a := a2) (o := exo a2 (cA K "UnlikePlaces") none))))
  have g3 := s5 _ _ (s4 _ _ (upd_same (a := a3) (o := exo a3 (cA K "BadGroup") none)))
  have g4 := s5 _ _ (upd_same (a := a4) (o := exo a4 (cA K "NotStopping") none))
  generalize hG : upd (upd (upd (upd (upd H a1 (exo a1 (cA K "NoTerms") none)) a2 (exo a2 (cA K "UnlikePlaces") none)) a3 (exo a3 (cA K "BadGroup") none)) a4 (exo a4 (cA K "NotStopping") none)) t (.tup [V.ref a1, V.ref a2, V.ref a3, V.ref a4]) = G at g1 g2 g3 g4
  have gt : G t = some (.tup [V.ref a1, V.ref a2, V.ref a3, V.ref a4]) := by rw [← hG, upd_same]
  refine ⟨t, rfl, ⟨_, sqT_of gt⟩, for_it (walk_tup (K := K) (a := t) (xs := [V.ref a1, V.ref a2, V.ref a3, V.ref a4])) (fun _ σ' H' => (∃ v5, σ' = [v0, v1, v2, v3, v4, v5]) ∧ Same G H') ⟨⟨v5, rfl⟩, Same.refl _⟩ (fun i σ' H' _ q => sqT_of (q.2 _ _ gt)) ?_ ?_⟩
  · rintro i z σ' H1 H2 hi ⟨⟨v5', rfl⟩, sm⟩ ⟨rfl, hz⟩
    obtain ⟨e, x, rfl, hx, he⟩ : ∃ e x, z = V.ref e ∧ x ∈ KORD ∧ ExAt K G e x := by
      match i, hz with
      | 0, hz => cases hz; exact ⟨a1, "NoTerms", rfl, by decide +kernel, none, g1, fun _ z => nomatch z⟩
      | 1, hz => cases hz; exact ⟨a2, "UnlikePlaces", rfl, by decide +kernel, none, g2, fun _ z => nomatch z⟩
      | 2, hz => cases hz; exact ⟨a3, "BadGroup", rfl, by decide +kernel, none, g3, fun _ z => nomatch z⟩
      | 3, hz => cases hz; exact ⟨a4, "NotStopping", rfl, by decide +kernel, none, g4, fun _ z => nomatch z⟩
    refine kb (_, H2) _ _ _ ⟨rfl, rfl, e, x, ⟨_, _, _, _, _, rfl⟩, hx, he.same sm⟩ ?_
    rintro σ3 H3 ⟨rfl, s3'⟩
    exact ⟨⟨_, rfl⟩, sm.trans s3'⟩
  · rintro σ' H1 ⟨⟨v5', rfl⟩, sm⟩
    exact k _ _ True.intro
end
section
variable {P : Program} {w : World} {K : PySem.W.Frag} {mg : Str → Option Value} {base : Heap} {f CV : Addr} {T : List (Addr × Str)}
def spLaw (K : PySem.W.Frag) (T : List (Addr × Str)) : Sp := fun vs H Q _ => ∃ (a : Addr) (ns : List Int), vs = [.ref a] ∧ SqL K H a (ns.map V.int) ∧ Tabs T H ∧ ∀ H', Q (.bl true) H'
theorem lawB_eq : defBody sLaw = [stAt lawB 0, stAt lawB 1, stAt lawB 2, stAt lawB 3] := rfl
theorem ok_law {fd : FuncData} (F0 : Fun K "law" "law" sLaw f fd) (F : LF P w K mg base CV T) : FnOk P w K mg base CX0 5 f fd ["_law_script"] (spLaw K T) := by
  refine F0.ok scLa (fun vs H Q E h => ?_) (fun cdv A outer s H vs Q E hr h => ?_)
  · obtain ⟨a, ns, rfl, _⟩ := h
    rfl
  · obtain ⟨a, ns, rfl, hS, hT, k⟩ := h
    have hr : Room 4 (LX P w K mg base f cdv A outer s H E).A := hr
    obtain ⟨t1, p1, k1⟩ := ho_outer (f := f) (cdv := cdv) (A := A) (outer := outer) (s := s) (H0 := H) (E0 := E) F hr
    obtain ⟨t2, p2, k2⟩ := ho_zero (f := f) (cdv := cdv) (A := A) (outer := outer) (s := s) (H0 := H) (E0 := E) F hr
    have p0 : PS (LX P w K mg base f cdv A outer s H E) (stAt lawB 0) _ := ps_set (i := 1) scLa.nd rfl (.inl rfl) (pe_d F.obj hr (by decide) (by rfl) pass0 (pa_cons (pv 0) pa_nil))
    have p3 : PS (LX P w K mg base f cdv A outer s H E) (stAt lawB 3) _ := ps_ret pe_bl
    refine ⟨_, PSs.nox (by rw [lawB_eq]; exact C8.pss_cut p0 (C8.pss_cut p1 (C8.pss_cut p2 (pss_one p3)))), ?_⟩
    refine ⟨fun σ' H' => ∃ v0 y v2 v3 v4 v5, σ' = [v0, some y, v2, v3, v4, v5] ∧ Tabs T H' ∧ SmD K H' 3 y y, ?_, ?_⟩
    · exact ⟨_, rfl, a, ns, rfl, hS, fun v H1 s1 hv => ⟨_, v, _, _, _, _, rfl, hT.ext s1, hv⟩⟩
    · intro σ1 H1 h1
      refine ⟨fun σ' _ => σ'.length = 6, k1 _ _ _ h1 fun _ _ q => q, fun σ2 H2 h2 => ?_⟩
      refine ⟨fun _ _ => True, k2 _ _ _ h2 fun _ _ q => q, fun σ3 H3 h3 => ?_⟩
      exact k H3
end
end Mv
namespace Mv
open PySem PySem.Spec PySem.W PyProof.Rows L2
abbrev R : OpenRow := OpenLaw.row PySem.Challenge.rw_manyvoices_k01_errors_made
def topNames : List Str := (["VoiceError", "BadWord", "BadForm", "NoTerms", "BadConstant", "BadCondition", "BadPlaces", "BadBegins", "BadRule", "BadPromise"] : List Str) ++ (["BadFaults", "NoRule", "BadRun", "BadGoal", "BadMany", "BadWish", "BadIndex", "BadBox", "UnlikePlaces", "BadGroup"] : List Str) ++ (["BadBegun", "NotStopping", "NoPlace", "NotThere", "NotHeard", "TooMany", "NoSort", "NameInUse", "NoName", "BadDeed"] : List Str) ++ (["BadText", "NoText", "_law_same", "_law_object", "_law_kinds", "_law_first_pairs", "_law_other_pairs"] : List Str)
def gloNames : List Str := (["VoiceError", "BadWord", "BadForm", "NoTerms", "BadConstant", "BadCondition", "BadPlaces", "BadBegins", "BadRule", "BadPromise"] : List Str) ++ (["BadFaults", "NoRule", "BadRun", "BadGoal", "BadMany", "BadWish", "BadIndex", "BadBox", "UnlikePlaces", "BadGroup"] : List Str) ++ (["BadBegun", "NotStopping", "NoPlace", "NotThere", "NotHeard", "TooMany", "NoSort", "NameInUse", "NoName", "BadDeed"] : List Str) ++ (["BadText", "NoText", "_law_same", "_law_object", "_law_kinds", "_law_first_pairs", "_law_other_pairs", "law"] : List Str)
def freeNames : List Str := ["isinstance", "len", "list", "tuple", "all", "zip", "bool", "int", "abs", "super", "ValueError"]
def fa1 : List He.Fa := gloNames.map He.Fa.glo ++ freeNames.map He.Fa.free
def fn1 : List He.DefD := [dD ("_law_same", none) "_law_same" "_law_same" sSame, dD ("_law_object", none) "_law_object" "_law_object" sObj, dD ("_law_kinds", none) "_law_kinds" "_law_kinds" sKinds, dD ("_law_first_pairs", none) "_law_first_pairs" "_law_first_pairs" sFP, dD ("_law_other_pairs", none) "_law_other_pairs" "_law_other_pairs" sOP, dD ("law", none) "law" "law" sLaw]
def tf1 : List He.Defn := [("_law_first_pairs", none), ("_law_other_pairs", none)]
def eD (i : Nat) (x fld : Str) : ErrD := ⟨x, fld, x ++ ".__init__", defArgs (inClass (top i) 0), defBody (inClass (top i) 0), defScope (inClass (top i) 0)⟩
def es1 : List ErrD := [eD 2 "BadWord" "word", eD 3 "BadForm" "thing", eD 4 "NoTerms" "", eD 5 "BadConstant" "number", eD 6 "BadCondition" "index", eD 7 "BadPlaces" "words", eD 8 "BadBegins" "words", eD 9 "BadRule" "index", eD 10 "BadPromise" "index", eD 11 "BadFaults" "word", eD 12 "NoRule" "name", eD 13 "BadRun" "thing", eD 14 "BadGoal" "index", eD 15 "BadMany" "many", eD 16 "BadWish" "index", eD 17 "BadIndex" "index", eD 18 "BadBox" "box", eD 19 "UnlikePlaces" "", eD 20 "BadGroup" "", eD 21 "BadBegun" "thing", eD 22 "NotStopping" "", eD 23 "NoPlace" "place", eD 24 "NotThere" "place", eD 25 "NotHeard" "index", eD 26 "TooMany" "many", eD 27 "NoSort" "word", eD 28 "NameInUse" "name", eD 29 "NoName" "name", eD 30 "BadDeed" "index", eD 31 "BadText" "line", eD 32 "NoText" "word"]
def excB (K : Frag) (C : Addr) : Bool :=
  He.eqO (findIn K (.ref C) "__class__") (some (some (.builtin "object.__class__"))) && (oB1 (mroIn K C (.type "object")) (some true) && oB1 (kitOne K (.ref C) (.type "ValueError")) (some true))
def ex1 (K : Frag) : Bool := es1.all (fun d => d.ok R.prog.main.file K) && (KORD.all (fun x => excB K (He.ga K x)) && (KORD.all (fun x => oB1 (kitOne K (.ref (He.ga K x)) (.ref (He.ga K "VoiceError"))) (some true)) &&
  (KORD.all (fun x => KORD.all fun y => oB1 (kitOne K (.ref (He.ga K x)) (.ref (He.ga K y))) (some (decide (x = y)))) && (!((He.cT K ("_law_first_pairs", none)).2 == (He.cT K ("_law_other_pairs", none)).2) &&
  (He.eqO (specialIn K (.builtin "object.__class__") "__get__") (some (some (.builtin "getset_descriptor.__get__"))) && oB1 (takesIn K (.builtin "object.__class__")) (some true))))))
def hk1 : Hook := hookM 4 fa1 fn1 tf1 ex1 es1
def ob1 (s : SharedT) : AlM := obsM 4 fa1 fn1 tf1 ex1 es1 (HandSHeadRun.getT s)
theorem ob1_eq (s : SharedT) : ob1 s = hk1.obs s.abs := obsM_eq (HandSHeadRun.getT_eq s)
theorem runT (w : World) : HandSHeadRun.RunEq R (view R.prog [39]) hk1 ob1 12000 topNames (w.withFollow "special-get-raises" true) := by
  intro os
  kernel_rfl
theorem runF (w : World) : HandSHeadRun.RunEq R (view R.prog [39]) hk1 ob1 12000 topNames (w.withFollow "special-get-raises" false) := by
  intro os
  kernel_rfl
theorem run1 (w : World) : HandSHeadRun.RunEq R (view R.prog [39]) hk1 ob1 12000 topNames w := byRow2 "special-get-raises" runF runT w
end Mv
namespace Mv
open PySem PySem.Spec PySem.W PyProof.Rows L2 NdefX
abbrev PP : Program := R.prog
section
variable {w : World} {h : Heap} {K : Frag} {mg : Str → Option Value} {base : Heap}
abbrev Says1 (w : World) (h : Heap) (K : Frag) : Prop := SaysM fa1 fn1 tf1 ex1 es1 w h K
theorem glo1 (c : Says1 w h K) (X : K.In h) (G : h.Ns mainGlobals mg) (x : Str) (hx : x ∈ gloNames := by decide +kernel) : mg x = some (.ref (He.ga K x)) := c.glo X G (List.mem_append_left _ (List.mem_map.mpr ⟨x, hx, rfl⟩))
theorem free1 (c : Says1 w h K) (X : K.In h) (G : h.Ns mainGlobals mg) (x : Str) (hx : x ∈ freeNames := by decide +kernel) : mg x = none := c.free X G (List.mem_append_right _ (List.mem_map.mpr ⟨x, hx, rfl⟩))
theorem def1 (c : Says1 w h K) (i : Nat) {a : Str × Option Str} {x q : Str} {st : Stmt} (hi : fn1[i]? = some (dD a x q st) := by rfl) : ∃ fd, Fun K x q st (He.fAd K a) fd ∧ FunD K x q (defArgs st) (defBody st) (defScope st) [] [] (He.fAd K a) fd := c.dfn (List.mem_of_getElem? hi)
theorem err1 (c : Says1 w h K) (i : Nat) {d : ErrD} (hi : es1[i]? = some d := by rfl) : d.ok PP.main.file K = true ∧ fnC K (d.fn K) = d.val :=
  ⟨List.all_eq_true.mp (He.ba c.x.more).1 d (List.mem_of_getElem? hi), c.err (List.mem_of_getElem? hi)⟩
theorem supTop : (PP.main.scope.names.lookup ("super" : Str)).isSome = false := by decide +kernel
theorem ev_BadWord (c : Says1 w h K) (X : K.In h) (G : h.Ns mainGlobals mg) : ErrV PP w K mg base "BadWord" (cA K "BadWord") "word" "word" ∧ findIn K (.ref (cA K "BadWord")) "word" = some none :=
  errV_of (d := eD 2 "BadWord" "word") (par := "word") (err1 c 0).1 (err1 c 0).2 (glo1 c X G "BadWord") (free1 c X G "super") supTop rfl (nscope_by (by decide +kernel)) rfl rfl rfl rfl (by decide) (by decide) (fun _ _ _ _ _ _ _ _ _ => rfl) (fun _ _ _ _ _ _ _ _ _ => rfl)
theorem ev_BadForm (c : Says1 w h K) (X : K.In h) (G : h.Ns mainGlobals mg) : ErrV PP w K mg base "BadForm" (cA K "BadForm") "thing" "thing" ∧ findIn K (.ref (cA K "BadForm")) "thing" = some none :=
  errV_of (d := eD 3 "BadForm" "thing") (par := "thing") (err1 c 1).1 (err1 c 1).2 (glo1 c X G "BadForm") (free1 c X G "super") supTop rfl (nscope_by (by decide +kernel)) rfl rfl rfl rfl (by decide) (by decide) (fun _ _ _ _ _ _ _ _ _ => rfl) (fun _ _ _ _ _ _ _ _ _ => rfl)
theorem ev_NoTerms (c : Says1 w h K) (X : K.In h) (G : h.Ns mainGlobals mg) : ErrV0 PP w K mg base "NoTerms" (cA K "NoTerms") :=
  errV0_of (d := eD 4 "NoTerms" "") (err1 c 2).1 (err1 c 2).2 (glo1 c X G "NoTerms") (free1 c X G "super") supTop rfl (nscope_by (by decide +kernel)) rfl rfl rfl rfl (fun _ _ _ _ _ _ _ _ => rfl)
theorem ev_BadConstant (c : Says1 w h K) (X : K.In h) (G : h.Ns mainGlobals mg) : ErrV PP w K mg base "BadConstant" (cA K "BadConstant") "number" "number" ∧ findIn K (.ref (cA K "BadConstant")) "number" = some none :=
  errV_of (d := eD 5 "BadConstant" "number") (par := "number") (err1 c 3).1 (err1 c 3).2 (glo1 c X G "BadConstant") (free1 c X G "super") supTop rfl (nscope_by (by decide +kernel)) rfl rfl rfl rfl (by decide) (by decide) (fun _ _ _ _ _ _ _ _ _ => rfl) (fun _ _ _ _ _ _ _ _ _ => rfl)
theorem ev_BadCondition (c : Says1 w h K) (X : K.In h) (G : h.Ns mainGlobals mg) : ErrV PP w K mg base "BadCondition" (cA K "BadCondition") "index" "index" ∧ findIn K (.ref (cA K "BadCondition")) "index" = some none :=
  errV_of (d := eD 6 "BadCondition" "index") (par := "index") (err1 c 4).1 (err1 c 4).2 (glo1 c X G "BadCondition") (free1 c X G "super") supTop rfl (nscope_by (by decide +kernel)) rfl rfl rfl rfl (by decide) (by decide) (fun _ _ _ _ _ _ _ _ _ => rfl) (fun _ _ _ _ _ _ _ _ _ => rfl)
theorem ev_BadPlaces (c : Says1 w h K) (X : K.In h) (G : h.Ns mainGlobals mg) : ErrV PP w K mg base "BadPlaces" (cA K "BadPlaces") "words" "words" ∧ findIn K (.ref (cA K "BadPlaces")) "words" = some none :=
  errV_of (d := eD 7 "BadPlaces" "words") (par := "words") (err1 c 5).1 (err1 c 5).2 (glo1 c X G "BadPlaces") (free1 c X G "super") supTop rfl (nscope_by (by decide +kernel)) rfl rfl rfl rfl (by decide) (by decide) (fun _ _ _ _ _ _ _ _ _ => rfl) (fun _ _ _ _ _ _ _ _ _ => rfl)
theorem ev_BadBegins (c : Says1 w h K) (X : K.In h) (G : h.Ns mainGlobals mg) : ErrV PP w K mg base "BadBegins" (cA K "BadBegins") "words" "words" ∧ findIn K (.ref (cA K "BadBegins")) "words" = some none :=
  errV_of (d := eD 8 "BadBegins" "words") (par := "words") (err1 c 6).1 (err1 c 6).2 (glo1 c X G "BadBegins") (free1 c X G "super") supTop rfl (nscope_by (by decide +kernel)) rfl rfl rfl rfl (by decide) (by decide) (fun _ _ _ _ _ _ _ _ _ => rfl) (fun _ _ _ _ _ _ _ _ _ => rfl)
theorem ev_BadRule (c : Says1 w h K) (X : K.In h) (G : h.Ns mainGlobals mg) : ErrV PP w K mg base "BadRule" (cA K "BadRule") "index" "index" ∧ findIn K (.ref (cA K "BadRule")) "index" = some none :=
  errV_of (d := eD 9 "BadRule" "index") (par := "index") (err1 c 7).1 (err1 c 7).2 (glo1 c X G "BadRule") (free1 c X G "super") supTop rfl (nscope_by (by decide +kernel)) rfl rfl rfl rfl (by decide) (by decide) (fun _ _ _ _ _ _ _ _ _ => rfl) (fun _ _ _ _ _ _ _ _ _ => rfl)
theorem ev_BadPromise (c : Says1 w h K) (X : K.In h) (G : h.Ns mainGlobals mg) : ErrV PP w K mg base "BadPromise" (cA K "BadPromise") "index" "index" ∧ findIn K (.ref (cA K "BadPromise")) "index" = some none :=
  errV_of (d := eD 10 "BadPromise" "index") (par := "index") (err1 c 8).1 (err1 c 8).2 (glo1 c X G "BadPromise") (free1 c X G "super") supTop rfl (nscope_by (by decide +kernel)) rfl rfl rfl rfl (by decide) (by decide) (fun _ _ _ _ _ _ _ _ _ => rfl) (fun _ _ _ _ _ _ _ _ _ => rfl)
theorem ev_BadFaults (c : Says1 w h K) (X : K.In h) (G : h.Ns mainGlobals mg) : ErrV PP w K mg base "BadFaults" (cA K "BadFaults") "word" "word" ∧ findIn K (.ref (cA K "BadFaults")) "word" = some none :=
  errV_of (d := eD 11 "BadFaults" "word") (par := "word") (err1 c 9).1 (err1 c 9).2 (glo1 c X G "BadFaults") (free1 c X G "super") supTop rfl (nscope_by (by decide +kernel)) rfl rfl rfl rfl (by decide) (by decide) (fun _ _ _ _ _ _ _ _ _ => rfl) (fun _ _ _ _ _ _ _ _ _ => rfl)
theorem ev_NoRule (c : Says1 w h K) (X : K.In h) (G : h.Ns mainGlobals mg) : ErrV PP w K mg base "NoRule" (cA K "NoRule") "name" "name" ∧ findIn K (.ref (cA K "NoRule")) "name" = some none :=
  errV_of (d := eD 12 "NoRule" "name") (par := "name") (err1 c 10).1 (err1 c 10).2 (glo1 c X G "NoRule") (free1 c X G "super") supTop rfl (nscope_by (by decide +kernel)) rfl rfl rfl rfl (by decide) (by decide) (fun _ _ _ _ _ _ _ _ _ => rfl) (fun _ _ _ _ _ _ _ _ _ => rfl)
theorem ev_BadRun (c : Says1 w h K) (X : K.In h) (G : h.Ns mainGlobals mg) : ErrV PP w K mg base "BadRun" (cA K "BadRun") "thing" "thing" ∧ findIn K (.ref (cA K "BadRun")) "thing" = some none :=
  errV_of (d := eD 13 "BadRun" "thing") (par := "thing") (err1 c 11).1 (err1 c 11).2 (glo1 c X G "BadRun") (free1 c X G "super") supTop rfl (nscope_by (by decide +kernel)) rfl rfl rfl rfl (by decide) (by decide) (fun _ _ _ _ _ _ _ _ _ => rfl) (fun _ _ _ _ _ _ _ _ _ => rfl)
theorem ev_BadGoal (c : Says1 w h K) (X : K.In h) (G : h.Ns mainGlobals mg) : ErrV PP w K mg base "BadGoal" (cA K "BadGoal") "index" "index" ∧ findIn K (.ref (cA K "BadGoal")) "index" = some none :=
  errV_of (d := eD 14 "BadGoal" "index") (par := "index") (err1 c 12).1 (err1 c 12).2 (glo1 c X G "BadGoal") (free1 c X G "super") supTop rfl (nscope_by (by decide +kernel)) rfl rfl rfl rfl (by decide) (by decide) (fun _ _ _ _ _ _ _ _ _ => rfl) (fun _ _ _ _ _ _ _ _ _ => rfl)
theorem ev_BadMany (c : Says1 w h K) (X : K.In h) (G : h.Ns mainGlobals mg) : ErrV PP w K mg base "BadMany" (cA K "BadMany") "many" "many" ∧ findIn K (.ref (cA K "BadMany")) "many" = some none :=
  errV_of (d := eD 15 "BadMany" "many") (par := "many") (err1 c 13).1 (err1 c 13).2 (glo1 c X G "BadMany") (free1 c X G "super") supTop rfl (nscope_by (by decide +kernel)) rfl rfl rfl rfl (by decide) (by decide) (fun _ _ _ _ _ _ _ _ _ => rfl) (fun _ _ _ _ _ _ _ _ _ => rfl)
theorem ev_BadWish (c : Says1 w h K) (X : K.In h) (G : h.Ns mainGlobals mg) : ErrV PP w K mg base "BadWish" (cA K "BadWish") "index" "index" ∧ findIn K (.ref (cA K "BadWish")) "index" = some none :=
  errV_of (d := eD 16 "BadWish" "index") (par := "index") (err1 c 14).1 (err1 c 14).2 (glo1 c X G "BadWish") (free1 c X G "super") supTop rfl (nscope_by (by decide +kernel)) rfl rfl rfl rfl (by decide) (by decide) (fun _ _ _ _ _ _ _ _ _ => rfl) (fun _ _ _ _ _ _ _ _ _ => rfl)
theorem ev_BadIndex (c : Says1 w h K) (X : K.In h) (G : h.Ns mainGlobals mg) : ErrV PP w K mg base "BadIndex" (cA K "BadIndex") "index" "index" ∧ findIn K (.ref (cA K "BadIndex")) "index" = some none :=
  errV_of (d := eD 17 "BadIndex" "index") (par := "index") (err1 c 15).1 (err1 c 15).2 (glo1 c X G "BadIndex") (free1 c X G "super") supTop rfl (nscope_by (by decide +kernel)) rfl rfl rfl rfl (by decide) (by decide) (fun _ _ _ _ _ _ _ _ _ => rfl) (fun _ _ _ _ _ _ _ _ _ => rfl)
theorem ev_BadBox (c : Says1 w h K) (X : K.In h) (G : h.Ns mainGlobals mg) : ErrV PP w K mg base "BadBox" (cA K "BadBox") "box" "box" ∧ findIn K (.ref (cA K "BadBox")) "box" = some none :=
  errV_of (d := eD 18 "BadBox" "box") (par := "box") (err1 c 16).1 (err1 c 16).2 (glo1 c X G "BadBox") (free1 c X G "super") supTop rfl (nscope_by (by decide +kernel)) rfl rfl rfl rfl (by decide) (by decide) (fun _ _ _ _ _ _ _ _ _ => rfl) (fun _ _ _ _ _ _ _ _ _ => rfl)
theorem ev_UnlikePlaces (c : Says1 w h K) (X : K.In h) (G : h.Ns mainGlobals mg) : ErrV0 PP w K mg base "UnlikePlaces" (cA K "UnlikePlaces") :=
  errV0_of (d := eD 19 "UnlikePlaces" "") (err1 c 17).1 (err1 c 17).2 (glo1 c X G "UnlikePlaces") (free1 c X G "super") supTop rfl (nscope_by (by decide +kernel)) rfl rfl rfl rfl (fun _ _ _ _ _ _ _ _ => rfl)
theorem ev_BadGroup (c : Says1 w h K) (X : K.In h) (G : h.Ns mainGlobals mg) : ErrV0 PP w K mg base "BadGroup" (cA K "BadGroup") :=
  errV0_of (d := eD 20 "BadGroup" "") (err1 c 18).1 (err1 c 18).2 (glo1 c X G "BadGroup") (free1 c X G "super") supTop rfl (nscope_by (by decide +kernel)) rfl rfl rfl rfl (fun _ _ _ _ _ _ _ _ => rfl)
theorem ev_BadBegun (c : Says1 w h K) (X : K.In h) (G : h.Ns mainGlobals mg) : ErrV PP w K mg base "BadBegun" (cA K "BadBegun") "thing" "thing" ∧ findIn K (.ref (cA K "BadBegun")) "thing" = some none :=
  errV_of (d := eD 21 "BadBegun" "thing") (par := "thing") (err1 c 19).1 (err1 c 19).2 (glo1 c X G "BadBegun") (free1 c X G "super") supTop rfl (nscope_by (by decide +kernel)) rfl rfl rfl rfl (by decide) (by decide) (fun _ _ _ _ _ _ _ _ _ => rfl) (fun _ _ _ _ _ _ _ _ _ => rfl)
theorem ev_NotStopping (c : Says1 w h K) (X : K.In h) (G : h.Ns mainGlobals mg) : ErrV0 PP w K mg base "NotStopping" (cA K "NotStopping") :=
  errV0_of (d := eD 22 "NotStopping" "") (err1 c 20).1 (err1 c 20).2 (glo1 c X G "NotStopping") (free1 c X G "super") supTop rfl (nscope_by (by decide +kernel)) rfl rfl rfl rfl (fun _ _ _ _ _ _ _ _ => rfl)
theorem ev_NoPlace (c : Says1 w h K) (X : K.In h) (G : h.Ns mainGlobals mg) : ErrV PP w K mg base "NoPlace" (cA K "NoPlace") "place" "place" ∧ findIn K (.ref (cA K "NoPlace")) "place" = some none :=
  errV_of (d := eD 23 "NoPlace" "place") (par := "place") (err1 c 21).1 (err1 c 21).2 (glo1 c X G "NoPlace") (free1 c X G "super") supTop rfl (nscope_by (by decide +kernel)) rfl rfl rfl rfl (by decide) (by decide) (fun _ _ _ _ _ _ _ _ _ => rfl) (fun _ _ _ _ _ _ _ _ _ => rfl)
theorem ev_NotThere (c : Says1 w h K) (X : K.In h) (G : h.Ns mainGlobals mg) : ErrV PP w K mg base "NotThere" (cA K "NotThere") "place" "place" ∧ findIn K (.ref (cA K "NotThere")) "place" = some none :=
  errV_of (d := eD 24 "NotThere" "place") (par := "place") (err1 c 22).1 (err1 c 22).2 (glo1 c X G "NotThere") (free1 c X G "super") supTop rfl (nscope_by (by decide +kernel)) rfl rfl rfl rfl (by decide) (by decide) (fun _ _ _ _ _ _ _ _ _ => rfl) (fun _ _ _ _ _ _ _ _ _ => rfl)
theorem ev_NotHeard (c : Says1 w h K) (X : K.In h) (G : h.Ns mainGlobals mg) : ErrV PP w K mg base "NotHeard" (cA K "NotHeard") "index" "index" ∧ findIn K (.ref (cA K "NotHeard")) "index" = some none :=
  errV_of (d := eD 25 "NotHeard" "index") (par := "index") (err1 c 23).1 (err1 c 23).2 (glo1 c X G "NotHeard") (free1 c X G "super") supTop rfl (nscope_by (by decide +kernel)) rfl rfl rfl rfl (by decide) (by decide) (fun _ _ _ _ _ _ _ _ _ => rfl) (fun _ _ _ _ _ _ _ _ _ => rfl)
theorem ev_TooMany (c : Says1 w h K) (X : K.In h) (G : h.Ns mainGlobals mg) : ErrV PP w K mg base "TooMany" (cA K "TooMany") "many" "many" ∧ findIn K (.ref (cA K "TooMany")) "many" = some none :=
  errV_of (d := eD 26 "TooMany" "many") (par := "many") (err1 c 24).1 (err1 c 24).2 (glo1 c X G "TooMany") (free1 c X G "super") supTop rfl (nscope_by (by decide +kernel)) rfl rfl rfl rfl (by decide) (by decide) (fun _ _ _ _ _ _ _ _ _ => rfl) (fun _ _ _ _ _ _ _ _ _ => rfl)
theorem ev_NoSort (c : Says1 w h K) (X : K.In h) (G : h.Ns mainGlobals mg) : ErrV PP w K mg base "NoSort" (cA K "NoSort") "word" "word" ∧ findIn K (.ref (cA K "NoSort")) "word" = some none :=
  errV_of (d := eD 27 "NoSort" "word") (par := "word") (err1 c 25).1 (err1 c 25).2 (glo1 c X G "NoSort") (free1 c X G "super") supTop rfl (nscope_by (by decide +kernel)) rfl rfl rfl rfl (by decide) (by decide) (fun _ _ _ _ _ _ _ _ _ => rfl) (fun _ _ _ _ _ _ _ _ _ => rfl)
theorem ev_NameInUse (c : Says1 w h K) (X : K.In h) (G : h.Ns mainGlobals mg) : ErrV PP w K mg base "NameInUse" (cA K "NameInUse") "name" "name" ∧ findIn K (.ref (cA K "NameInUse")) "name" = some none :=
  errV_of (d := eD 28 "NameInUse" "name") (par := "name") (err1 c 26).1 (err1 c 26).2 (glo1 c X G "NameInUse") (free1 c X G "super") supTop rfl (nscope_by (by decide +kernel)) rfl rfl rfl rfl (by decide) (by decide) (fun _ _ _ _ _ _ _ _ _ => rfl) (fun _ _ _ _ _ _ _ _ _ => rfl)
theorem ev_NoName (c : Says1 w h K) (X : K.In h) (G : h.Ns mainGlobals mg) : ErrV PP w K mg base "NoName" (cA K "NoName") "name" "name" ∧ findIn K (.ref (cA K "NoName")) "name" = some none :=
  errV_of (d := eD 29 "NoName" "name") (par := "name") (err1 c 27).1 (err1 c 27).2 (glo1 c X G "NoName") (free1 c X G "super") supTop rfl (nscope_by (by decide +kernel)) rfl rfl rfl rfl (by decide) (by decide) (fun _ _ _ _ _ _ _ _ _ => rfl) (fun _ _ _ _ _ _ _ _ _ => rfl)
theorem ev_BadDeed (c : Says1 w h K) (X : K.In h) (G : h.Ns mainGlobals mg) : ErrV PP w K mg base "BadDeed" (cA K "BadDeed") "index" "index" ∧ findIn K (.ref (cA K "BadDeed")) "index" = some none :=
  errV_of (d := eD 30 "BadDeed" "index") (par := "index") (err1 c 28).1 (err1 c 28).2 (glo1 c X G "BadDeed") (free1 c X G "super") supTop rfl (nscope_by (by decide +kernel)) rfl rfl rfl rfl (by decide) (by decide) (fun _ _ _ _ _ _ _ _ _ => rfl) (fun _ _ _ _ _ _ _ _ _ => rfl)
theorem ev_BadText (c : Says1 w h K) (X : K.In h) (G : h.Ns mainGlobals mg) : ErrV PP w K mg base "BadText" (cA K "BadText") "line" "line" ∧ findIn K (.ref (cA K "BadText")) "line" = some none :=
  errV_of (d := eD 31 "BadText" "line") (par := "line") (err1 c 29).1 (err1 c 29).2 (glo1 c X G "BadText") (free1 c X G "super") supTop rfl (nscope_by (by decide +kernel)) rfl rfl rfl rfl (by decide) (by decide) (fun _ _ _ _ _ _ _ _ _ => rfl) (fun _ _ _ _ _ _ _ _ _ => rfl)
theorem ev_NoText (c : Says1 w h K) (X : K.In h) (G : h.Ns mainGlobals mg) : ErrV PP w K mg base "NoText" (cA K "NoText") "word" "word" ∧ findIn K (.ref (cA K "NoText")) "word" = some none :=
  errV_of (d := eD 32 "NoText" "word") (par := "word") (err1 c 30).1 (err1 c 30).2 (glo1 c X G "NoText") (free1 c X G "super") supTop rfl (nscope_by (by decide +kernel)) rfl rfl rfl rfl (by decide) (by decide) (fun _ _ _ _ _ _ _ _ _ => rfl) (fun _ _ _ _ _ _ _ _ _ => rfl)
theorem evs_F (c : Says1 w h K) (X : K.In h) (G : h.Ns mainGlobals mg) : ∀ x ∈ CFP, EVs PP w K mg base x ∧ findIn K (.ref (cA K x.1)) x.2 = some none := by
  intro x hx
  simp only [CFP, List.mem_cons, List.not_mem_nil, or_false] at hx
  rcases hx with rfl | rfl | rfl | rfl | rfl | rfl | rfl | rfl | rfl | rfl | rfl | rfl
  · exact ev_BadWord c X G
  · exact ev_BadForm c X G
  · exact ev_BadConstant c X G
  · exact ev_BadCondition c X G
  · exact ev_BadPlaces c X G
  · exact ev_BadBegins c X G
  · exact ev_BadRule c X G
  · exact ev_BadPromise c X G
  · exact ev_BadFaults c X G
  · exact ev_NoRule c X G
  · exact ev_BadRun c X G
  · exact ev_BadGoal c X G
theorem evs_O (c : Says1 w h K) (X : K.In h) (G : h.Ns mainGlobals mg) : ∀ x ∈ COP, EVs PP w K mg base x ∧ findIn K (.ref (cA K x.1)) x.2 = some none := by
  intro x hx
  simp only [COP, List.mem_cons, List.not_mem_nil, or_false] at hx
  rcases hx with rfl | rfl | rfl | rfl | rfl | rfl | rfl | rfl | rfl | rfl | rfl | rfl | rfl | rfl | rfl
  · exact ev_BadMany c X G
  · exact ev_BadWish c X G
  · exact ev_BadIndex c X G
  · exact ev_BadBox c X G
  · exact ev_BadBegun c X G
  · exact ev_NoPlace c X G
  · exact ev_NotThere c X G
  · exact ev_NotHeard c X G
  · exact ev_TooMany c X G
  · exact ev_NoSort c X G
  · exact ev_BadDeed c X G
  · exact ev_NameInUse c X G
  · exact ev_NoName c X G
  · exact ev_NoText c X G
  · exact ev_BadText c X G
theorem evs_Z (c : Says1 w h K) (X : K.In h) (G : h.Ns mainGlobals mg) : ∀ x ∈ ZN, ErrV0 PP w K mg base x (cA K x) := by
  intro x hx
  simp only [ZN, List.mem_cons, List.not_mem_nil, or_false] at hx
  rcases hx with rfl | rfl | rfl | rfl
  · exact ev_NoTerms c X G
  · exact ev_UnlikePlaces c X G
  · exact ev_BadGroup c X G
  · exact ev_NotStopping c X G
/-- the facts of the classes -/
theorem kt1 (c : Says1 w h K) (X : K.In h) (G : h.Ns mainGlobals mg) : KT K mg ∧ (∀ x ∈ KORD, kitOne K (.ref (cA K x)) (.ref (cA K "VoiceError")) = some true) ∧ ∀ x ∈ KORD, kitOne K (.ref (cA K x)) (.type "ValueError") = some true := by
  have q := (He.ba c.x.more)
  obtain ⟨e1, q⟩ := q
  obtain ⟨e2, q⟩ := He.ba q
  obtain ⟨e3, q⟩ := He.ba q
  obtain ⟨e4, q⟩ := He.ba q
  obtain ⟨e5, q⟩ := He.ba q
  obtain ⟨e6, e7⟩ := He.ba q
  have gl : ∀ y ∈ KORD, mg y = some (.ref (cA K y)) := fun y hy => glo1 c X G y ((by decide +kernel : ∀ y ∈ KORD, y ∈ gloNames) y hy)
  refine ⟨⟨free1 c X G "isinstance", free1 c X G "len", gl, fun y hy => ?_, fun x hx y hy => of_decide_eq_true (List.all_eq_true.mp (List.all_eq_true.mp e4 x hx) y hy)⟩, fun x hx => of_decide_eq_true (List.all_eq_true.mp e3 x hx), fun x hx => of_decide_eq_true (He.ba (He.ba (List.all_eq_true.mp e2 x hx)).2).2⟩
  obtain ⟨a1, a2⟩ := He.ba (List.all_eq_true.mp e2 y hy)
  obtain ⟨d, hd, ed⟩ : ∃ d ∈ es1, d.cls = y := by
    have q := (by decide +kernel : ∀ y ∈ KORD, (es1.map ErrD.cls).contains y = true) y hy
    obtain ⟨d, h1, h2⟩ := List.mem_map.mp (List.contains_iff_mem.mp q)
    exact ⟨d, h1, h2⟩
  have hk := List.all_eq_true.mp e1 d hd
  unfold ErrD.ok at hk
  obtain ⟨c1, hk⟩ := He.ba hk
  obtain ⟨c2, hk⟩ := He.ba hk
  obtain ⟨c3, hk⟩ := He.ba hk
  obtain ⟨c4, hk⟩ := He.ba hk
  obtain ⟨c5, hk⟩ := He.ba hk
  obtain ⟨c6, hk⟩ := He.ba hk
  obtain ⟨c7, hk⟩ := He.ba hk
  obtain ⟨c8, hk⟩ := He.ba hk
  obtain ⟨c9, hk⟩ := He.ba hk
  obtain ⟨c10, hk⟩ := He.ba hk
  obtain ⟨c11, hk⟩ := He.ba hk
  rw [ed] at c3 c9 c10 c11
  exact ⟨He.eqO_ok c9, He.eqO_ok c10, of_decide_eq_true c3, c11, He.eqO_ok a1, He.eqO_ok e6, of_decide_eq_true e7, of_decide_eq_true (He.ba a2).1⟩
theorem ne1 (c : Says1 w h K) : (He.cT K ("_law_first_pairs", none)).2 ≠ (He.cT K ("_law_other_pairs", none)).2 := by
  have q := (He.ba (He.ba (He.ba (He.ba (He.ba c.x.more).2).2).2).2).1
  intro z
  rw [z] at q
  simp at q
end
end Mv
namespace Mv
open PySem PySem.Spec PySem.W PyProof.Rows L2
section
variable {w : World} {h : Heap} {K : Frag} {mg : Str → Option Value} {base : Heap}
abbrev T1 (K : Frag) : List (Addr × Str) := [((He.cT K ("_law_first_pairs", none)).2, qFP), ((He.cT K ("_law_other_pairs", none)).2, qOP)]
theorem lf1 (c : Says1 w h K) (X : K.In h) (G : h.Ns mainGlobals mg) (TB : ∀ p ∈ tf1, LamX.TabB base mg (He.cT K p).1 (He.cT K p).2) : LF PP w K mg base (cA K "VoiceError") (T1 K) := by
  obtain ⟨d0, F0, B0⟩ := def1 c 0 (a := ("_law_same", none)) (x := "_law_same") (q := "_law_same") (st := sSame)
  obtain ⟨d1, F1, B1⟩ := def1 c 1 (a := ("_law_object", none)) (x := "_law_object") (q := "_law_object") (st := sObj)
  obtain ⟨d2, F2, B2⟩ := def1 c 2 (a := ("_law_kinds", none)) (x := "_law_kinds") (q := "_law_kinds") (st := sKinds)
  obtain ⟨d3, F3, B3⟩ := def1 c 3 (a := ("_law_first_pairs", none)) (x := "_law_first_pairs") (q := "_law_first_pairs") (st := sFP)
  obtain ⟨d4, F4, B4⟩ := def1 c 4 (a := ("_law_other_pairs", none)) (x := "_law_other_pairs") (q := "_law_other_pairs") (st := sOP)
  have b0 : Binds K d0 ["_law_found", "_law_due"] [] := B0.bindsN fun _ _ _ _ _ _ us hl => match us, hl with | [_, _], _ => rfl
  have b1 : Binds K d1 ["_law_script"] [] := B1.bindsN fun _ _ _ _ _ _ us hl => match us, hl with | [_], _ => rfl
  have b2 : Binds K d2 ["_law_e"] [] := B2.bindsN fun _ _ _ _ _ _ us hl => match us, hl with | [_], _ => rfl
  have b3 : Binds K d3 ["_law_a"] [] := B3.bindsN fun _ _ _ _ _ _ us hl => match us, hl with | [_], _ => rfl
  have b4 : Binds K d4 ["_law_a"] [] := B4.bindsN fun _ _ _ _ _ _ us hl => match us, hl with | [_], _ => rfl
  obtain ⟨kt, kV, kE⟩ := kt1 (mg := mg) c X G
  have isi := free1 c X G "isinstance"
  have G0 := ok_same (P := PP) (w := w) (base := base) F0 ⟨isi, free1 c X G "list", free1 c X G "tuple", free1 c X G "len", free1 c X G "all", free1 c X G "zip", free1 c X G "bool", free1 c X G "int", glo1 c X G "_law_same"⟩ b0 3
  have G1 := ok_obj (P := PP) (w := w) (base := base) F1 ⟨free1 c X G "abs", free1 c X G "int"⟩
  have G2 := ok_kinds (P := PP) (w := w) (base := base) F2 kt
  have evF := evs_F (base := base) c X G
  have evO := evs_O (base := base) c X G
  have hu : ∀ p ∈ T1 K, (p.1 = (He.cT K ("_law_first_pairs", none)).2 → p.2 = qFP) ∧ (p.1 = (He.cT K ("_law_other_pairs", none)).2 → p.2 = qOP) := by
    intro p hp
    have n := ne1 c
    rcases List.mem_cons.mp hp with rfl | hp
    · exact ⟨fun _ => rfl, fun z => absurd z n⟩
    · rw [List.mem_singleton.mp hp]
      exact ⟨fun z => absurd z.symm n, fun _ => rfl⟩
  have D3 : Dn PP w K mg base CX0 4 "_law_first_pairs" ["_law_a"] (spPairs K (T1 K) CFP) := by
    have kp := F3.kp
    obtain ⟨oc, od, kV, doc, pm, an, cdv, ct, osl, ef, lk, hcd⟩ := F3.ex
    obtain ⟨ca, rfl⟩ := He.codeIn_ref hcd
    subst ef
    have ec : He.codeOf K ("_law_first_pairs", none) = ca := He.codeOf_eq lk rfl
    have tb := TB ("_law_first_pairs", none) (by decide +kernel)
    have e1 : (He.cT K ("_law_first_pairs", none)).1 = ca := ec
    rw [e1] at tb
    exact ⟨_, _, ok_FP (w := w) lk hcd (fun x hx => (evF x hx).1) tb (List.mem_cons_self ..) (fun p hp => (hu p hp).1), glo1 c X G "_law_first_pairs", kp, b3⟩
  have D4 : Dn PP w K mg base CX0 4 "_law_other_pairs" ["_law_a"] (spPairs K (T1 K) COP) := by
    have kp := F4.kp
    obtain ⟨oc, od, kV, doc, pm, an, cdv, ct, osl, ef, lk, hcd⟩ := F4.ex
    obtain ⟨ca, rfl⟩ := He.codeIn_ref hcd
    subst ef
    have ec : He.codeOf K ("_law_other_pairs", none) = ca := He.codeOf_eq lk rfl
    have tb := TB ("_law_other_pairs", none) (by decide +kernel)
    have e1 : (He.cT K ("_law_other_pairs", none)).1 = ca := ec
    rw [e1] at tb
    exact ⟨_, _, ok_OP (w := w) lk hcd (fun x hx => (evO x hx).1) tb (List.mem_cons_of_mem _ (List.mem_cons_self ..)) (fun p hp => (hu p hp).2), glo1 c X G "_law_other_pairs", kp, b4⟩
  exact {
    isi := isi
    gV := glo1 c X G "VoiceError"
    val := free1 c X G "ValueError"
    kt := kt
    kV := kV
    kE := kE
    obj := ⟨_, _, G1, glo1 c X G "_law_object", F1.kp, b1⟩
    fp := D3
    op := D4
    kinds := ⟨_, _, G2, glo1 c X G "_law_kinds", F2.kp, b2⟩
    same := ⟨_, _, G0, glo1 c X G "_law_same", F0.kp, b0⟩
    zero := evs_Z c X G
    noF := fun p hp => (List.mem_append.mp hp).elim (fun z => (evF p z).2) (fun z => (evO p z).2)
  }
theorem law1 {f : Addr} (c : Says1 w h K) (X : K.In h) (G : h.Ns mainGlobals mg) (hfa : mg ("law" : Str) = some (.ref f)) : LamX.LawAtS PySem.Challenge.rw_manyvoices_k01_errors_made w K CX0 5 63 "_law_script" mg f h := by
  have e := hfa.symm.trans (glo1 c X G "law")
  cases e
  obtain ⟨fd, F, FD⟩ := def1 c 5 (a := ("law", none)) (x := "law") (q := "law") (st := sLaw)
  have hb := FunD.bindsA (ps := ["_law_script"]) FD fun _ _ _ _ _ _ us hl => match us, hl with | [_], _ => rfl
  have cs : ∀ p ∈ tf1.map (He.cT K), ∃ q ∈ tf1, He.cT K q = p := fun p hp => List.mem_map.mp hp
  refine ⟨fd, tf1.map (He.cT K), spLaw K (T1 K), fun p hp => ?_, fun p hp => ?_, fun p hp => ?_, fun s u => hb s [u] rfl, fun H a ns hl _ hT hS => ?_, fun base hK hN hTB => ?_⟩
  · obtain ⟨q, hq, rfl⟩ := cs p hp
    exact c.x.empty _ hq
  · obtain ⟨q, hq, rfl⟩ := cs p hp
    exact c.x.out _ hq
  · obtain ⟨q, hq, rfl⟩ := cs p hp
    exact codeHd_of_K X (c.x.hd _ hq)
  · refine ⟨a, ns, rfl, hS, fun p hp => ?_, fun _ => rfl⟩
    rcases List.mem_cons.mp hp with rfl | hp
    · exact LamX.TabS.nil (hT _ (List.mem_map.mpr ⟨("_law_first_pairs", none), by decide +kernel, rfl⟩))
    · rw [List.mem_singleton.mp hp]
      exact LamX.TabS.nil (hT _ (List.mem_map.mpr ⟨("_law_other_pairs", none), by decide +kernel, rfl⟩))
  · exact ok_law F (lf1 c X G fun q hq => hTB _ (List.mem_map.mpr ⟨q, hq, rfl⟩))
end
end Mv
open PySem PySem.W PySem.Calls PyProof.Rows
theorem PySem.Challenge.cw_manyvoices_k01_errors_made_holds : PySem.Challenge.rw_manyvoices_k01_errors_made.Holds := by
  w_on; o_law
  refine HandSHeadRun.head_any (r := OpenLaw.row PySem.Challenge.rw_manyvoices_k01_errors_made) (q := view (OpenLaw.row PySem.Challenge.rw_manyvoices_k01_errors_made).prog [39]) (H := Mv.hk1) (ob := Mv.ob1) (M := 12000) (loose := Mv.topNames) (d := HandSHeadRun.topDef (OpenLaw.row PySem.Challenge.rw_manyvoices_k01_errors_made).prog 39) (kwd := []) Mv.ob1_eq
    (by kernel_rfl) (fun s => by kernel_rfl) Mv.run1 (by kernel_rfl) (by kernel_rfl) (by kernel_rfl) (by rfl) (by first | assumption | decide +kernel) (by decide +kernel) ⟨rfl, rfl, rfl, rfl, rfl, by decide +kernel⟩ ?hw ?hc
  case hw => w_witness2
  case hc =>
    refine LamX.walk_ofTsE (l := PySem.Challenge.rw_manyvoices_k01_errors_made) (n := 63) (k := 5) (x := "_law_script") (CX := fun _ => L2.CX0) rfl (by decide) (by kernel_rfl) ⟨rfl, by decide, by decide⟩ ?F (fun _ _ _ _ _ z => z)
    intro w mg fa h Y G hmg0
    obtain ⟨K, KX, c⟩ := Y
    have hmg : mg ("law" : PySem.Str) = some (.ref fa) := by
      have e : (HandSHeadRun.topDef (OpenLaw.row PySem.Challenge.rw_manyvoices_k01_errors_made).prog 39).name = ("law" : PySem.Str) := by kernel_rfl
      rw [← e]
      exact hmg0
    exact ⟨K, KX, Mv.law1 c KX G hmg⟩
#print axioms PySem.Challenge.cw_manyvoices_k01_errors_made_holds
