import PyProof.Rows.All
import Wide.All
import OpenK.AllK
import Wide.FinOn
import HandS.ForMost
import HandS.ForExc
import HandS.ExcInit
import HandS.Nested
import HandS.HeadWalk
import KE.KExcSuper
import HandS.IsInst
import HandS.Walk
import HandS.Flow
import HandS.Text
import HandS.StrMore
import KE.GoesEnum
import HandS.ExcValue
import HandS.Star
import PyProof.InstNe
import HandS.Zip
import HandS.DictComp
import HandS.OwnEq
import HandS.Lambda
import HandS.CallLocal
import HandS.Style
import HandS.HeadHook4
import HandS.Head2
import PySem.Challenge.RW_manyvoices_k02_forms_made
set_option Elab.async false
set_option linter.all false
set_option maxRecDepth 100000
set_option maxHeartbeats 0
namespace Mv
open PySem PySem.Spec PySem.W PyProof.Rows L2 NdefX

/-- the written facts of an own error class over ValueError, whose __init__ begins with super().__init__(a text) -/
structure SupK (P : Program) (K : Frag) (mg : Str → Option Value) (C cc cda : Addr) : Prop where
  T : OexC K C
  code : ∃ ccl cdd vs ccs file tf, K.lookup cda = some ⟨ccl, cdd, .fields vs, ccs⟩ ∧ vs[2]? = some (Value.str file tf) ∧ ((P.main.file : Str) == file) = true
  cell : ∃ cl cld csl, K.lookup cc = some ⟨cl, cld, .cell (some (.ref C)), csl⟩
  cls : ∃ cd, clsIn K C = some cd
  self : mroIn K C (.ref C) = some true
  sup : mg "super" = none
  top : (P.main.scope.names.lookup ("super" : Str)).isSome = false
  meth : ks_superIn K C C "__init__" = some (some (.builtin "ValueError.__init__"))
  ve : subIn K (.ref C) (.type "ValueError") = some true
  opaq : nsIn K cStatics "thirdparty.any" = some none

abbrev exm (a C : Addr) (t1 : Addr) : Obj := { cls := .ref C, dict := none, data := .fields #[.ref t1, .none, .none, .none, .bool false, .none] }

section
variable {P : Program} {w : World} {A : Around} {E : Value → Shared → Prop} {K : Frag} {h : Heap} {g : Array GenState} {d : Drawn} {t : Nat} {os : OsState}
/-- the bound ValueError.__init__ is called: the error's args are laid anew -/
theorem call_mw {u e C t0 : Addr} {us : List Value} {Q : Value → Shared → Prop} (T : OexC K C) (hK : K.In h) (hu : h.get? u = some (kxs_mw "ValueError.__init__" e)) (he : h.get? e = some (exm e C t0)) (hl : us.length ≤ sizeLine)
    (hq : ∀ h' t1, (∀ b o, b ≠ e → h.get? b = some o → h'.get? b = some o) → h'.get? e = some (exm e C t1) → Q .none ⟨h', g, d, t, os⟩) :
    wpAny (model P w) A (call (.ref u) us) Q E ⟨h, g, d, t, os⟩ := by
  obtain ⟨nm, q, N, bs, bm, sn, sub, ab, col, dd, k0, k1, k2, k3, k5, hC, hbm⟩ := T.cls
  have FB := F.excBase_ValueError
  refine wpAny_call (codeAny_of_tree (show wpAny _ A.in1 (callAny (.ref u) ⟨us, []⟩) _ _ _ from ?_))
  unfold callAny
  refine wpAny_bind (wpAny_load hu (KFB.if_so rfl ?_))
  refine wpAny_bind (check_bound_init FB.toExcCallFacts (hK _ _ hC) he rfl (wpAny_bind (wpAny_pure (wpAny_pure ⟨plainId_quiet FB.init.plain _, codeAny_builtin FB.initEntry ?_⟩))))
  exact exc_init_tree (cls := .ref C) (t0 := t0) (dv := none) (c2 := .none) (c3 := .none) (b4 := .bool false) he hl fun h' k e1 _ => hq h' _ k e1
end
/-- o.m(e) on one line -/
theorem meth_eq {o e : Expr} {es : List Expr} {m : Str} {apos pos : Pos} {env : Env} (hl : (apos.endLine == pos.line) = true) (hf : methodCallForm (e :: es).length (backTo pos (starEach (e :: es) env)) [] = true) :
    eval (.Call (.Attribute o m apos) (e :: es) [] pos) env = (do
      let ov ← attributeBase o m env (eval o env)
      standAt apos.atName
      let (f, first) ← holding [ov] (getMethod ov m (plainOf o env))
      callWith pos f first (backTo pos (starEach (e :: es) env)) []) := by
  rw [eval]
  have e1 : ∀ ov, methodCall o m apos pos env ov ((e :: es).length + ([] : List Keyword).length) (backTo pos (starEach (e :: es) env)) (backToKw pos (keywordEach [] env)) = (do
      let (f, first) ← holding [ov] (getMethod ov m (plainOf o env))
      callWith pos f first (backTo pos (starEach (e :: es) env)) []) := fun ov => mcall_line (kws := []) hf hl
  simp only [e1]
section
variable {CX : CXT} {P : Program} {w : World} {K : Frag} {mg : Str → Option Value} {base : Heap} {C fI cc cda : Addr} {k : Nat}
/-- the cells of such an __init__: its own class -/
theorem cells_cls {h : Heap} {H : Hp} (D : SupK P K mg C cc cda) (hk : K.In h) (hf : ∀ b o, K.lookup b = some o → H b = none) : CellsAt [("__class__", cc)] ["__class__"] [some (V.ref C)] h H := by
  obtain ⟨cl, cld, csl, hc⟩ := D.cell
  have one : ∀ {y c}, List.lookup y [(("__class__" : Str), cc)] = some c → y = "__class__" ∧ c = cc := fun {y c} e => by
    rw [List.lookup_cons] at e
    split at e
    · rename_i q
      exact ⟨by simpa using q, (Option.some.inj e).symm⟩
    · cases e
  refine ⟨rfl, fun y c e => ?_, fun x y c e1 e2 => (one e1).1.trans (one e2).1.symm, fun i y e => ?_⟩
  · obtain ⟨-, rfl⟩ := one e
    exact ⟨hf _ _ hc, _, _, hk _ _ hc, rfl⟩
  · cases i with
    | zero =>
      cases e
      exact ⟨cc, by rw [List.lookup_cons]; simp, fun v ev => ⟨.ref C, by cases ev; rfl, _, hk _ _ hc, rfl⟩⟩
    | succ i => cases e

theorem sup_of {name qual txt : Str} {params : Arguments} {scope : Scope} {ar : Arg} {rst : List Stmt} {p0 p1 p2 p3 p4 p5 : Pos} {j : Nat} {kV doc pm ct oc : Value} {an od : Option Addr} {osl : Array (Option Value)} {N ps : List Str} {sp : Sp}
    (D : SupK P K mg C cc cda)
    (lk : K.lookup fI = some ⟨oc, od, .func (fnX name qual params (.Expr (.Call (.Attribute (.Call (.Name "super" p0) [] [] p1) "__init__" p2) [.Constant (.str txt) j p3] [] p4) p5 :: rst) scope [("__class__", cc)] .none kV doc pm an (.ref cda) ct), osl⟩)
    (hcd : codeIn K (.ref cda) qual = true) (S : NScope N (("self" : Str) :: ps) ["__class__"] scope) (hks : scope.names.lookup ("super" : Str) = some .globalImplicit)
    (hpos : (p2.endLine == p4.line) = true) (hp : (params.posonlyargs ++ params.args).head? = some ar) (har : ar.arg = "self") 
    (len : ∀ vs H Q E, sp vs H Q E → vs.length = (("self" : Str) :: ps).length)
    (hrest : ∀ (A : Around) (outer : List Env) (s : Shared) (H : Hp) (vs : List V) (Q : VK) (E : XK) (F : NF), F = ⟨name, qual, params, (.Expr (.Call (.Attribute (.Call (.Name "super" p0) [] [] p1) "__init__" p2) [.Constant (.str txt) j p3] [] p4) p5 :: rst), scope, [("__class__", cc)], cda⟩ → Room k (A.deeper (envF F fI s.heap.objs.size)) → sp vs H Q E →
      (∃ a, vs.head? = some (.ref a) ∧ H a = some (exo a C none)) ∧ ∃ t, PSs (ncx CX P w K mg base N F fI A outer s H E) rst t ∧ t { nx := fun _ H' => Q .non H', rt := Q } (startF N vs [some (.ref C)]) H) :
    FnOk P w K mg base CX (k + 1) fI (fnX name qual params (.Expr (.Call (.Attribute (.Call (.Name "super" p0) [] [] p1) "__init__" p2) [.Constant (.str txt) j p3] [] p4) p5 :: rst) scope [("__class__", cc)] .none kV doc pm an (.ref cda) ct) (("self" : Str) :: ps) sp := by
  refine ⟨len, fun A outer s H args us vs Q E hr e0 hb r hsp => ?_⟩
  obtain ⟨F, hF⟩ : ∃ F : NF, F = ⟨name, qual, params, (.Expr (.Call (.Attribute (.Call (.Name "super" p0) [] [] p1) "__init__" p2) [.Constant (.str txt) j p3] [] p4) p5 :: rst), scope, [("__class__", cc)], cda⟩ := ⟨_, rfl⟩
  have hl := len _ _ _ _ hsp
  have KX : K.In s.heap := e0.mod.kin.keeps fun b o e => (e0.bs b o e).1
  have lim : s.heap.NoLimit := e0.mod.nolimit.keeps fun b o e => (e0.bs b o e).1
  have hfree : ∀ b o, K.lookup b = some o → H b = none := fun b o e => (e0.bs b o (e0.mod.kin _ _ e)).2
  have CA := cells_cls D KX hfree
  have hloc : ∀ y ∈ (("self" : Str) :: ps).zip us, scope.names.lookup y.1 = some .local := fun ⟨n, v⟩ hy => S.par n (List.of_mem_zip hy).1
  refine codeAny_call_function hr.depth (KX _ _ lk) rfl S.co S.gen rfl (codeRec_of KX hcd) (hb _ _ _ _ ?_)
  refine wpAny_newFunctionEnv S.nocell hloc (fun h₁ hns hsb => ⟨lim.fresh _ hsb, ?_⟩) S.kind
  have kp : ∀ b o, s.heap.get? b = some o → h₁.get? b = some o := fun b o e => hsb.extBut b o (Nat.ne_of_lt (Heap.lt_size e)) (Heap.get?_push_of_some _ e)
  have hbody := hrest A outer s H vs Q E F hF
  have e1 : NScope N (("self" : Str) :: ps) ["__class__"] F.scope := by rw [hF]; exact S
  have CA' : CellsAt F.cl ["__class__"] [some (V.ref C)] s.heap H := by rw [hF]; exact CA
  obtain ⟨⟨a, hva, ha⟩, t, ht, hq⟩ := hbody (hr.deeper _) hsp
  have I : Inv (ncx CX P w K mg base N F fI A outer s H E) [] (startF N vs [some (.ref C)]) H { s with heap := h₁, toks := s.toks + ((("self" : Str) :: ps).zip us).length } := inv_startN e1 hr.hd e0 hl r CA' hns kp
  obtain ⟨ccl, cdd, vs', ccs, file, tf, hcode, hvs, hfile⟩ := D.code
  obtain ⟨cl, cld, csl, hcell⟩ := D.cell
  obtain ⟨cdC, hcl⟩ := D.cls
  subst hF
  have hev := meth_eq (o := .Call (.Name "super" p0) [] [] p1) (m := "__init__") (e := .Constant (.str txt) j p3) (es := []) (env := envX qual scope s.heap.objs.size fI (.ref cda) [("__class__", cc)]) hpos rfl
  refine ks_codeAny_funcAt (ks_wpAt_execs_cons (ks_wpAt_Expr_any (ks_wpAt_MethodCall ?_ hev) (by show (scope.kind == .module && _) = false; rw [S.kind]; rfl)))
  have K1 := I.kIn
  obtain ⟨m, hn, hlk⟩ := I.loc
  have hN0 : N[0]? = some ("self" : Str) := by
    have q := congrArg (fun l : List Str => l[0]?) S.pre
    rw [List.getElem?_take_of_lt (by simp)] at q
    exact q
  have hs0 : (startF N vs [some (V.ref C)])[0]? = some (some (.ref a)) := by
    cases vs with
    | nil => cases hva
    | cons v vs => cases hva; rfl
  obtain ⟨u0, r0, l0⟩ := hlk 0 "self" (.ref a) hN0 hs0 (.inl (S.par _ (by simp)))
  cases r0
  have hself : m "self" = some (Value.ref a) := by
    rcases l0 with ⟨_, e⟩ | ⟨e, _⟩
    · exact e
    · have e2 : scope.names.lookup ("self" : Str) = some .local := S.par _ (by simp)
      have e3 : scope.names.lookup ("self" : Str) = some .cell ∨ scope.names.lookup ("self" : Str) = some .free := e
      rw [e2] at e3
      rcases e3 with z | z <;> cases z
  obtain ⟨mb, b1, b2⟩ := I.mod.blt
  obtain ⟨t1, ho⟩ := exo_at I.hok ha
  obtain ⟨oC, hC1, hC2⟩ : ∃ oC, K.lookup C = some oC ∧ oC.data = .cls cdC := by
    unfold clsIn at hcl
    split at hcl
    · rename_i c d cd' sl hz
      cases hcl
      exact ⟨_, hz, rfl⟩
    · cases hcl
  refine ks_wpAt_super_base (env := envX qual scope s.heap.objs.size fI (.ref cda) [("__class__", cc)]) hks (S.frk _ (by simp)) (by decide) rfl (K1 _ _ lk) rfl hp rfl (K1 _ _ hcode) rfl hvs hfile D.top ?_
  rw [har]
  refine ks_loadName_global S.kind hks (Calls.loadGlobal_builtin (I.mod.glob.keeps I.bk) D.sup (b1.keeps I.bk) ((b2 _ (by decide)).trans (by first | rfl | decide +kernel)) ⟨rfl, ?_⟩)
  refine wpAny_loadName_free S.kind (S.frk _ (by simp)) (by rw [List.lookup_cons]; simp) ⟨_, K1 _ _ hcell, rfl⟩ ?_
  refine wpAny_loadName_local S.kind (S.par _ (by simp)) hn hself ?_
  refine ks_wpAny_isType_cls (K1 _ _ hC1) hC2 ⟨rfl, ?_⟩
  refine ks_wpAny_call_super (K1 _ _ hC1) hC2 ho rfl (fun c e => by cases e) (looks_mroIn K1 D.self) (fun h2 e2 k2 => ?_)
  have hm := D.meth
  unfold ks_superIn at hm
  rw [hcl] at hm
  have K2 : K.In h2 := K1.keeps k2
  have IA : PySem.W.InstAt h2 a (exm a C t1) C none := ⟨k2 _ _ ho, rfl, rfl, True.intro⟩
  have I2 := I.kept (h' := h2) (t' := s.toks + ((("self" : Str) :: ps).zip us).length) k2
  refine kxs_getMethod kxs_ValueError e2 (looks_opaque K2 D.opaq) (l₀ := cdC.mro) (fun A Q E s k q => wpAny_bind ((looks_clsIn K2 hcl) A _ E s k (wpAny_pure q))) rfl K2 hm (IA.type.andThen (looks_subIn K2 D.ve)) (ks_ne K2 IA hcl) (by decide) ?_
  have I3 := I2.kept (h' := h2.push (kxs_mw "ValueError.__init__" a)) (t' := s.toks + ((("self" : Str) :: ps).zip us).length + 1) (fun b o e => Heap.get?_push_of_some _ e)
  have hub : (h2.push (kxs_mw "ValueError.__init__" a)).get? h2.objs.size = some (kxs_mw "ValueError.__init__" a) := Heap.get?_push_at rfl rfl
  have I4 := I3.pins_of (pins' := [(h2.objs.size, kxs_mw "ValueError.__init__" a)]) (fun p hp => by
    obtain rfl := List.mem_singleton.mp hp
    exact ⟨hub, I2.hok.fresh (Nat.le_refl _), Nat.ne_of_gt I2.lt, I2.nofs (Nat.le_refl _), fun v e => by cases e⟩)
  refine kxs_callWith (i := "ValueError.__init__") (x := a) rfl (Calls.evalArgs_plain (thn ((pa_cons pe_str pa_nil).run p4 _ _ _ H (fun vs H' => vs = [V.str txt] ∧ H' = H) I4 ⟨rfl, rfl⟩) fun us3 s3 ⟨vs3, H3, I5, r3, q3⟩ => ?_))
  obtain ⟨rfl, rfl⟩ := q3
  have hpin := (I5.pin (h2.objs.size, kxs_mw "ValueError.__init__" a) (by simp)).1
  obtain ⟨t2, ho5⟩ := exo_at I5.hok ha
  have hlen : us3.length ≤ sizeLine := by
    rw [← Paired.length r3]
    exact (by decide : 1 ≤ sizeLine)
  obtain ⟨h5, g5, d5, tk5, os5⟩ := s3
  refine ⟨hpin, call_mw D.T I5.kIn hpin ho5 hlen fun h' t3 k5 e5 => ?_⟩
  have J := I5.write (t' := tk5) (x := a) (e := a) (o := exo a C none) (by rw [ha]; exact True.intro) (.inl rfl) k5 ⟨_, e5⟩ (exo_ok e5)
  have eu : upd H3 a (exo a C none) = H3 := by
    funext b
    by_cases hb : b = a
    · rw [hb, upd_same, ha]
    · rw [upd_ne hb]
  rw [eu] at J
  have J2 := J.pins_of (pins' := []) (fun p hp => nomatch hp)
  refine wpAt_of_wpAny (wpAny_mono (ht.run [] _ _ _ _ J2 hq) (fun fl s' hs => ?_) fun e s' hs => hs)
  have ends : ∀ {FF : NF} {σ' : L2.St} {H' : Hp} {v : V} {u : Value}, Inv (ncx CX P w K mg base N FF fI A outer s H3 E) [] σ' H' s' → L2.RelV v u → Q v H' → CE outer P w H3 s Q u s' := fun {FF σ' H' v u} Z rv q => ⟨v, H', Z.os, Z.bare, Z.base, Z.hok, rv, q⟩
  cases fl with
  | ret u =>
    obtain ⟨v, σ', H', Z, rv, q⟩ := hs
    exact ends Z rv q
  | next =>
    obtain ⟨σ', H', Z, q⟩ := hs
    exact ends (v := V.non) (u := Value.none) Z rfl q
  | brk => exact (let ⟨_, _, _, q⟩ := hs; False.elim q)
  | cont => exact (let ⟨_, _, _, q⟩ := hs; False.elim q)
end
end Mv
namespace Mv
open PySem PySem.Spec PySem.W PyProof.Rows L2 NdefX

/-- such an __init__, called with the new error and y: its field fld holds y -/
def spErr (C : Addr) (fld : Str) : Sp := fun vs H Q _ => ∃ (a : Addr) (y : V), vs = [.ref a, y] ∧ H a = some (exo a C none) ∧ ∀ dx, H dx = none → dx ≠ a → Q .non (upd (upd H dx (exd dx [(fld, y)])) a (exo a C (some dx)))
/-- an own error class of one field, by what its users ask -/
structure Err (P : Program) (w : World) (K : Frag) (mg : Str → Option Value) (base : Heap) (x : Str) (C : Addr) (fld : Str) : Prop where
  gC : mg x = some (.ref C)
  T : OexC K C
  init : ∃ (fI : Addr) (fd : FuncData) (ps : List Str), findIn K (.ref C) "__init__" = some (some (.ref fI)) ∧ typeIn K (.ref fI) = some (.type "function") ∧ FnOk P w K mg base CX0 2 fI fd ps (spErr C fld) ∧ Binds K fd ps []
  noF : findIn K (.ref C) fld = some none
  ga : findIn K (.ref C) "__getattribute__" = some (some (.builtin "BaseException.__getattribute__"))
  gg : findIn K (.ref C) "__getattr__" = some none
  hdC : hasDictIn K C = true
  te : exmOne K (.ref C) (.ref C) = some true

section
variable {X : Cx} {x fld : Str} {C : Addr} {e : Expr} {te : TE} {p pos : Pos}
/-- a reading by what is known behind it -/
def tWk (te : TE) : TE := fun σ H Q => ∃ R : VK, te σ H R ∧ ∀ y H1, R y H1 → Q y H1
theorem pe_wk (he : PE X e te) : PE X e (tWk te) := ⟨fun pins s σ H Q I ⟨R, h, k⟩ => thn (he.run pins s σ H R I h) fun u s1 ⟨v, H1, I1, r, q⟩ => ⟨v, H1, I1, r, k v H1 q⟩⟩
/-- X(e) where X is such a class -/
def tMkErr (C : Addr) (fld : Str) (te : TE) : L2.St → Hp → XK → Prop := fun σ H Q => te σ H fun y H1 => ∀ d, H1 d = none → Q (.ref C) (some d) (upd H1 d (.xd [(fld, y)]))
theorem del_back {H1 : Hp} {a dx : Addr} {o o2 : HO} {fs : List (Str × V)} {E : HO} (ha : H1 a = none) (hd : dx ≠ a) : upd (L2.del (upd (upd (upd H1 a o) dx E) a o2) a) dx (.xd fs) = upd H1 dx (.xd fs) := by
  funext b
  by_cases h1 : b = dx
  · rw [h1, upd_same, upd_same]
  · rw [upd_ne h1, upd_ne h1]
    by_cases h2 : b = a
    · rw [h2, L2.del_same, ha]
    · rw [L2.del_ne h2, upd_ne h2, upd_ne h1, upd_ne h2]
theorem pmk_err (T : Err X.prog X.w X.K X.mg X.base x C fld) (hr : Room 3 X.A) (hg : Gl X x) (he : PE X e te) (hdb : (x == ("__debug__" : Str)) = false := by decide)
    (hs : starEach (e :: []) X.env = (false, eval e X.env) :: starEach [] X.env := by rfl) (hpl : (backTo pos (starEach [] X.env)).any (·.1) = false := by rfl) :
    PMk X (.Call (.Name x p) [e] [] pos) (tMkErr C fld te) := by
  obtain ⟨fI, fd, ps, iC, tI, F, b⟩ := T.init
  have base := pmk_oex (X := X) (e := e) (es := []) (p := p) (pos := pos) T.T iC tI F hr b .nil pass0 hg T.gC (pa_cons (pe_wk he) pa_nil (by exact hs)) hdb hs hpl
  intro pins s σ H Q I h
  refine base pins s σ H Q I ⟨_, h, fun y H1 k => ⟨(by decide : 1 ≤ 1000), fun a ha => ?_⟩⟩
  refine ⟨a, y, rfl, upd_same, fun dx hdx hne => ?_⟩
  have hd1 : H1 dx = none := by
    rw [upd_ne hne] at hdx
    exact hdx
  refine ⟨rfl, dx, [(fld, y)], upd_same, ?_, hd1, ?_⟩
  · rw [upd_ne hne, upd_same]
  · have q := k dx hd1
    rw [← del_back (o := exo a C none) (o2 := exo a C (some dx)) (E := exd dx [(fld, y)]) ha hne] at q
    exact q
/-- raise X(e) -/
def tRaiseErr (C : Addr) (fld : Str) (W : WX) (te : TE) : TS := fun _ σ H => tMkErr C fld te σ H fun cls d H' => W cls d σ H'
theorem ps_raiseErr {W : WX} {pos2 : Pos} (hc : X.calm = true) (T : Err X.prog X.w X.K X.mg X.base x C fld) (hr : Room 3 X.A) (tk : Takes X W) (hg : Gl X x) (he : PE X e te) (hdb : (x == ("__debug__" : Str)) = false := by decide)
    (hs : starEach (e :: []) X.env = (false, eval e X.env) :: starEach [] X.env := by rfl) (hpl : (backTo pos (starEach [] X.env)).any (·.1) = false := by rfl) :
    PS X (.Raise (some (.Call (.Name x p) [e] [] pos)) none pos2) (tRaiseErr C fld W te) := ps_raise hc tk (pmk_err T hr hg he hdb hs hpl)
/-- n.fld in an except suite, n the error that it holds -/
def tFldErr (C : Addr) (fld : Str) (a : Addr) (cls : Value) (d : Option Addr) (te : TE) : TE := fun σ H Q => te σ H fun x H1 => x = .ref a ∧ cls = .ref C ∧ ∃ (dd : Addr) (v : V), d = some dd ∧ H1 dd = some (.xd [(fld, v)]) ∧ Q v H1
theorem pe_fldErr {a : Addr} {oe : Obj} {cls : Value} {d : Option Addr} {pn : List (Addr × Obj)} (T : Err X.prog X.w X.K X.mg X.base x C fld) (hz : Zc cls d oe) (hf : ∃ vs, oe.data = .fields vs) (he : PE (X.suite a ((a, oe) :: pn)) e te)
    (hb : attributeBase e fld X.env (eval e X.env) = eval e X.env := by rfl) (hdbl : (fld == ("__class__" : Str)) = false := by decide) :
    PE (X.suite a ((a, oe) :: pn)) (.Attribute e fld pos) (tFldErr C fld a cls d te) := by
  refine ⟨fun pins s σ H Q I h => ?_⟩
  refine attr_of hb (thn (he.run pins s σ H _ I h) fun u s1 ⟨y, H1, I1, rx, ex, ec, dd, v, ed, ea, q⟩ => ?_)
  subst ex ec ed
  cases rx
  have hx : ObjOk X.prog X.w H1 s1.heap dd (.xd [(fld, v)]) := I1.hok dd _ ea
  obtain ⟨mA, hns, hr⟩ := hx
  obtain ⟨od, ho, hl⟩ := lookIn_ns hns
  have l : List.lookup fld [(fld, v)] = some v := by simp [List.lookup]
  obtain ⟨u, hu, ru⟩ := RelO.some_of (v := v) (o := mA fld) (by rw [← l]; exact hr fld)
  obtain ⟨ha, -⟩ := I1.pin (a, oe) (List.mem_append_left _ List.mem_cons_self)
  have J : PySem.W.InstAt s1.heap a oe C (some od) := ⟨ha, hz.1, by obtain ⟨vs, hv⟩ := hf; unfold PySem.W.notCls; rw [hv] <;> rfl, by rw [hz.2]; exact ho⟩
  exact HandSPX.exc_get I1.kIn J T.ga T.gg T.T.exC (PySem.W.findObj_own T.hdC T.noF rfl (by rw [hl, hu])) (handed_of ru) ⟨v, H1, I1.tok _, ru, q⟩
end
end Mv
namespace Mv
open PySem PySem.Spec PySem.W PyProof.Rows L2 NdefX
section
variable {P : Program} {w : World} {K : Frag} {mg : Str → Option Value} {base : Heap} {C fI cc cda : Addr}
/-- __init__(self, par): super().__init__(a text); self.fld = par -/
theorem init1 {CX : CXT} {qual txt fld par : Str} {params : Arguments} {scope : Scope} {ar : Arg} {p0 p1 p2 p3 p4 p5 q1 q2 q3 q4 : Pos} {j : Nat} {kV doc pm ct oc : Value} {an od : Option Addr} {osl : Array (Option Value)}
    (D : SupK P K mg C cc cda) (noF : findIn K (.ref C) fld = some none)
    (lk : K.lookup fI = some ⟨oc, od, .func (fnX "__init__" qual params [.Expr (.Call (.Attribute (.Call (.Name "super" p0) [] [] p1) "__init__" p2) [.Constant (.str txt) j p3] [] p4) p5, .Assign [.Attribute (.Name "self" q1) fld q2] (.Name par q3) q4] scope [("__class__", cc)] .none kV doc pm an (.ref cda) ct), osl⟩)
    (hcd : codeIn K (.ref cda) qual = true) (S : NScope ["self", par, "__class__"] ["self", par] ["__class__"] scope) (hks : scope.names.lookup ("super" : Str) = some .globalImplicit)
    (hpos : (p2.endLine == p4.line) = true) (hp : (params.posonlyargs ++ params.args).head? = some ar) (har : ar.arg = "self") (hdb : (par == ("__debug__" : Str)) = false) (hcl : (par == ("__classdict__" : Str)) = false) :
    FnOk P w K mg base CX 1 fI (fnX "__init__" qual params [.Expr (.Call (.Attribute (.Call (.Name "super" p0) [] [] p1) "__init__" p2) [.Constant (.str txt) j p3] [] p4) p5, .Assign [.Attribute (.Name "self" q1) fld q2] (.Name par q3) q4] scope [("__class__", cc)] .none kV doc pm an (.ref cda) ct) ["self", par] (spErr C fld) := by
  refine sup_of (k := 0) D lk hcd S hks hpos hp har (fun vs H Q E h => ?_) (fun A outer s H vs Q E F hF hr h => ?_)
  · obtain ⟨a, y, rfl, _⟩ := h
    rfl
  · obtain ⟨a, y, rfl, ha, k⟩ := h
    subst hF
    refine ⟨⟨a, rfl, ha⟩, _, pss_one (ps_ost (pv 0 rfl (.inl (S.par _ (by simp)))) (pv 1 rfl (.inl (S.par _ (by simp))) hdb hcl)), ?_⟩
    exact ⟨y, rfl, _, rfl, a, C, rfl, D.T, noF, .inl ⟨ha, fun dx hdx hne => k dx hdx hne⟩⟩
end
end Mv
namespace Mv
open PySem PySem.Spec PyProof.Rows L2
def top (i : Nat) : Stmt := PySem.Challenge.pw_manyvoices_k02_forms_made.main.body.getD i (.Pass ⟨0, 0, 0, 0⟩)
abbrev sIsWord : Stmt := top 7
/-! ### words -/
def LET : Str := "abcdefghijklmnopqrstuvwxyz"
def signs (z : Str) : List Bool := z.cps.toList.map fun c => decide (c ∈ LET.cps.toList)
def isWS (z : Str) : Bool := decide (1 ≤ z.length) && decide (z.length ≤ 8) && (signs z).all id
def isW : V → Bool
  | .str z => isWS z
  | _ => false
/-- a value that may be asked whether it is a text -/
inductive Kn (K : PySem.W.Frag) (H : Hp) : V → Prop where
  | str {z : Str} (h : z.length ≤ sizeLine) : Kn K H (.str z)
  | oth {x : V} {t : Value} (ty : TyX K H x t) (h : PySem.W.kitOne K t (.type "str") = some false) (n : isW x = false) : Kn K H x
/-- what the module's names hold -/
structure WT (K : PySem.W.Frag) (mg : Str → Option Value) : Prop where
  isi : mg "isinstance" = none
  str : mg "str" = none
  len : mg "len" = none
  all : mg "all" = none
  lw : ∃ t, mg "LONGEST_WORD" = some (.int 8 t)
def spIsWord (K : PySem.W.Frag) : Sp := fun vs H Q _ => ∃ x, vs = [x] ∧ Kn K H x ∧ ∀ H', Same H H' → Q (.bl (isW x)) H'
theorem same_new {H : Hp} {p : Addr} {o : HO} (h : H p = none) : Same H (upd H p o) := fun b u e => by
  rw [upd_ne (ne_of_none e h)]
  exact e
theorem same_put {H H1 : Hp} {p : Addr} {o : HO} (s : Same H H1) (h : H p = none) : Same H (upd H1 p o) := fun b u e => by
  rw [upd_ne (ne_of_none e h)]
  exact s b u e
theorem take_next {α : Type} {l : List α} {i : Nat} {x : α} (h : l[i]? = some x) : l.take (i + 1) = l.take i ++ [x] := by
  rw [List.take_add_one, h]
  rfl
theorem ifT {b : Bool} {A B : Prop} (h : b = true) (a : A) : if b = true then A else B := by rw [if_pos h]; exact a
theorem ifF {b : Bool} {A B : Prop} (h : b = false) (a : B) : if b = true then A else B := by rw [h]; exact a
theorem asc1 : ∀ c, c < 128 → (PySem.Unicode.isAlpha c && !(PySem.Unicode.isUpper c || PySem.Unicode.isTitle c)) = decide (c ∈ LET.cps.toList) := by decide +kernel
theorem asc2 : ∀ c, c < 128 → c ∈ LET.cps.toList → PySem.Unicode.isLower c = true := by decide +kernel
theorem asc3 : ∀ c, c ∈ LET.cps.toList → c < 128 := by decide +kernel
theorem arr_all {α : Type} {p : α → Bool} {a : Array α} : a.all p = true ↔ ∀ c ∈ a.toList, p c = true := by rw [← Array.all_toList, List.all_eq_true]
theorem arr_any {α : Type} {p : α → Bool} {a : Array α} : a.any p = true ↔ ∃ c ∈ a.toList, p c = true := by rw [← Array.any_toList, List.any_eq_true]
theorem signs_all {z : Str} : (signs z).all id = true ↔ ∀ c ∈ z.cps.toList, c ∈ LET.cps.toList := by
  unfold signs
  rw [List.all_map, List.all_eq_true]
  constructor
  · exact fun h c hc => of_decide_eq_true (h c hc)
  · exact fun h c hc => decide_eq_true (h c hc)
/-- the program's own look at a text of at most eight signs -/
theorem low_iff (z : Str) (h2 : z.length ≤ 8) : isWS z = (Txt.isascii z && (Txt.isalpha z && Txt.islower z)) := by
  rw [Bool.eq_iff_iff]
  unfold isWS
  rw [Bool.and_eq_true, Bool.and_eq_true, Bool.and_eq_true, Bool.and_eq_true, signs_all, decide_eq_true_iff, decide_eq_true_iff]
  have ea : Txt.isascii z = true ↔ ∀ c ∈ z.cps.toList, c < 128 := by
    show (z.cps.all fun c => decide (c < 128)) = true ↔ _
    rw [arr_all]
    constructor
    · exact fun h c hc => of_decide_eq_true (h c hc)
    · exact fun h c hc => decide_eq_true (h c hc)
  have el : Txt.isalpha z = true ↔ 1 ≤ z.length ∧ ∀ c ∈ z.cps.toList, PySem.Unicode.isAlpha c = true := by
    show (decide (z.length > 0) && z.cps.all PySem.Unicode.isAlpha) = true ↔ _
    rw [Bool.and_eq_true, arr_all, decide_eq_true_iff]
    exact Iff.rfl
  have ew : Txt.islower z = true ↔ (∃ c ∈ z.cps.toList, PySem.Unicode.isLower c = true) ∧ ∀ c ∈ z.cps.toList, (PySem.Unicode.isUpper c || PySem.Unicode.isTitle c) = false := by
    show (z.cps.any PySem.Unicode.isLower && !z.cps.any fun c => PySem.Unicode.isUpper c || PySem.Unicode.isTitle c) = true ↔ _
    rw [Bool.and_eq_true, arr_any, Bool.not_eq_true', Bool.eq_false_iff, Ne, arr_any]
    refine and_congr Iff.rfl ⟨fun h c hc => Bool.eq_false_iff.mpr fun e => h ⟨c, hc, e⟩, fun h ⟨c, hc, e⟩ => by rw [h c hc] at e; cases e⟩
  rw [ea, el, ew]
  constructor
  · rintro ⟨⟨h1, _⟩, h⟩
    have lt : ∀ c ∈ z.cps.toList, c < 128 := fun c hc => asc3 c (h c hc)
    have q : ∀ c ∈ z.cps.toList, PySem.Unicode.isAlpha c = true ∧ (PySem.Unicode.isUpper c || PySem.Unicode.isTitle c) = false := fun c hc => by
      have e := asc1 c (lt c hc)
      rw [decide_eq_true (h c hc), Bool.and_eq_true, Bool.not_eq_true'] at e
      exact e
    refine ⟨lt, ⟨h1, fun c hc => (q c hc).1⟩, ?_, fun c hc => (q c hc).2⟩
    have hl : 0 < z.cps.toList.length := h1
    exact ⟨_, List.getElem_mem hl, asc2 _ (lt _ (List.getElem_mem hl)) (h _ (List.getElem_mem hl))⟩
  · rintro ⟨lt, ⟨h1, al⟩, _, up⟩
    refine ⟨⟨h1, h2⟩, fun c hc => ?_⟩
    have e := asc1 c (lt c hc)
    rw [al c hc, up c hc] at e
    exact of_decide_eq_true e.symm
theorem isWS_long {z : Str} (h2 : ¬ z.length ≤ 8) : isWS z = false := by
  unfold isWS
  simp [h2]
section
variable {P : Program} {w : World} {K : PySem.W.Frag} {mg : Str → Option Value} {base : Heap}
theorem scW : FnScope ["thing"] ["thing"] (defScope sIsWord) := ⟨rfl, rfl, rfl, by decide +kernel, rfl, by decide +kernel, by decide +kernel⟩
theorem ok_isword {f : Addr} {fd : FuncData} (F : Fun K "is_word" "is_word" sIsWord f fd) (T : WT K mg) : FnOk P w K mg base CX0 1 f fd ["thing"] (spIsWord K) := by
  obtain ⟨t2, hN⟩ := T.lw
  refine F.ok scW (fun vs H Q E h => ?_) (fun cdv A outer s H vs Q E hr h => ?_)
  · obtain ⟨x, rfl, _⟩ := h
    rfl
  · obtain ⟨x, rfl, hk, k⟩ := h
    refine ⟨_, pss_cons (ps_if (PW.pt (pw_or (pt_not (pt_val (pe_callB call_isi (by rfl) T.isi (by decide +kernel) (pa_cons (pv 0) (pa_cons (pe_bltn (v := .ty "str") (by rfl) T.str (by decide +kernel) rfl) pa_nil)))))
        (pw_or1 (pt_cmpR op_gt (pe_callB call_len_str (by rfl) T.len PySem.boot_len (pa_cons (pv 0) pa_nil)) (pe_glob (v := .int 8) (by rfl) hN ⟨_, rfl⟩) (by rfl))))) (pss_one (ps_ret pe_bl)) pss_nil)
      (pss_one (ps_ret (pe_andT (pe_m0 PySem.F.slot_str_isascii PySem.F.type_str_isascii mt_isascii (pv 0)) (pe_andT (pe_m0 PySem.F.slot_str_isalpha PySem.F.type_str_isalpha mt_isalpha (pv 0)) (pe_one (pe_m0 PySem.F.slot_str_islower PySem.F.type_str_islower mt_islower (pv 0))))))), ?_⟩
    cases hk with
    | oth ty hb hn =>
      refine ⟨_, rfl, _, _, _, _, false, rfl, .ty "str", ty, hb, false, rfl, ?_⟩
      refine iteT ?_
      rw [hn] at k
      exact k H (Same.refl H)
    | @str z hz =>
      refine ⟨_, rfl, _, _, _, _, true, rfl, .ty "str", .base (.str _), kit_ty (by decide +kernel), true, rfl, ?_⟩
      refine iteF ?_
      refine ⟨_, rfl, _, rfl, hz, _, _, rfl, rfl, _, rfl, ?_⟩
      by_cases h2 : (z.length : Int) ≤ 8
      · refine ifF (by simp; omega) ?_
        have e : isW (.str z) = _ := low_iff z (by omega)
        rw [e] at k
        refine ⟨_, rfl, ⟨_, rfl⟩, z, rfl, rfl, trivial, _, rfl, ?_⟩
        cases ha : Txt.isascii z with
        | false =>
          rw [ha] at k
          exact iteF (k H (Same.refl H))
        | true =>
          rw [ha] at k
          refine iteT ?_
          refine ⟨_, rfl, ⟨_, rfl⟩, z, rfl, rfl, trivial, _, rfl, ?_⟩
          cases hb : Txt.isalpha z with
          | false =>
            rw [hb] at k
            exact iteF (k H (Same.refl H))
          | true =>
            rw [hb] at k
            refine iteT ?_
            exact ⟨_, rfl, ⟨_, rfl⟩, z, rfl, rfl, trivial, k H (Same.refl H)⟩
      · refine ifT (by simp; omega) ?_
        have e : isW (.str z) = false := isWS_long (by omega)
        rw [e] at k
        exact k H (Same.refl H)
end
end Mv
/-! enumerate of a tuple -/
namespace Mv
open PySem PySem.Spec PyProof.Rows L2
section
open AutoSeq1 (wpAny_loadPart')
abbrev tupIt (t : Addr) : Obj := { cls := .type "tuple_iterator", data := .fields #[.ref t, .int 0 0] }
abbrev enumOf (i : Addr) : Obj := { cls := .type "enumerate", data := .fields #[.none, .bool false, .ref i, rawInt 0, .none, .none] }
theorem meets_enumT (t : Addr) (items : Array Value) (n : Nat) (dct : Option Addr) (sl : Array (Option Value)) :
    Meets (Builtin.«enumerate.__new__» ⟨[.type "enumerate", .ref t], []⟩) (fun _ R s => s.heap.get? t = some { cls := .type "tuple", dict := dct, data := .seq items n, slots := sl } ∧
      R (.ok (.ret (.ref (s.heap.push (tupIt t)).objs.size))) { s with heap := (s.heap.push (tupIt t)).push (enumOf s.heap.objs.size) }) :=
  .of_wp fun prog w A R s hh => by
    obtain ⟨hp, g, d, tk, os⟩ := s; obtain ⟨ht, hr⟩ := hh
    have hsub := sub_enumerate
    have hT : Heap.IsTuple (Shared.heap ⟨hp, g, d, tk, os⟩) t items := ⟨_, ht, rfl, n, rfl⟩
    wp_walk using wpAny_loadPart' ht
    refine wpAny_stack_any fun st => wpAny_pure ?_
    split
    · rename_i c _ _ _ _ _
      cases (c == Value.type "enumerate") <;> (wp_walk using wpAny_loadPart' ht, wpAny_pyIter_tuple hT; exact ⟨_, rfl, hr⟩)
    · (wp_walk using wpAny_loadPart' ht, wpAny_pyIter_tuple hT; exact ⟨_, rfl, hr⟩)
variable {prog : Program} {w : World} {A : Around} {E : Value → Shared → Prop} {s : Shared}
theorem call_enumT {t : Addr} {items : Array Value} {Q : Value → Shared → Prop} (hT : s.heap.IsTuple t items)
    (h : ∀ h', IsEnum h' (s.heap.objs.size + 1) s.heap.objs.size 0 .none → h'.IsTupleIter s.heap.objs.size t 0 → (∀ b o, s.heap.get? b = some o → h'.get? b = some o) → Q (.ref (s.heap.objs.size + 1)) { s with heap := h' }) :
    wpAny (model prog w) A (call (.type "enumerate") [.ref t]) Q E s := by
  obtain ⟨⟨c, dct, dt, sl⟩, hl, hc, n, hd⟩ := hT
  obtain rfl : c = .type "tuple" := hc
  obtain rfl : dt = .seq items n := hd
  refine callType_new F.called_enumerate (by decide) (F.typeCall_enumerate_1 _) (F.newCall_enumerate_1 _) (fun obj => F.args_object_init_2 obj _) F.entry_enumerate_new (meets_enumT t items n dct sl) ⟨hl, ?_⟩
  have hz : (s.heap.push (tupIt t)).objs.size = s.heap.objs.size + 1 := Heap.size_push ..
  show _ ∧ _
  rw [hz]
  have he : IsEnum ((s.heap.push (tupIt t)).push (enumOf s.heap.objs.size)) (s.heap.objs.size + 1) s.heap.objs.size 0 .none := by
    have q := Heap.get?_push_size (s.heap.push (tupIt t)) (o := enumOf s.heap.objs.size) rfl
    rw [hz] at q
    exact q
  exact ⟨⟨_, he, rfl⟩, h _ he ⟨_, Heap.get?_push_of_some _ (Heap.get?_push_size _ rfl), rfl, rfl⟩ fun b o x => Heap.get?_push_of_some _ (Heap.get?_push_of_some _ x)⟩
end
/-- a for over it -/
theorem for_enumT {K : PySem.W.Frag} {a : Addr} {xs : List V} {J : It} {g : TG} {tb : TS} {D : Ends} {σ : L2.St} {H : Hp} (hJ : J = ⟨fun i H => ∃ (xs : List V) (x : V), SqT K H a xs ∧ xs[i]? = some x, fun i H v H' => ∃ T x, v = .ref T ∧ H T = none ∧ H' = upd H T (.tup [.int (i : Nat), x]) ∧ ∀ xs, SqT K H a xs → xs[i]? = some x, fun i H => ∃ xs : List V, SqT K H a xs ∧ xs.length = i⟩)
    (Pv : Nat → L2.St → Hp → Prop) (h0 : Pv 0 σ H) (hq : ∀ i σ H, Pv i σ H → SqT K H a xs)
    (hs : ∀ (i : Nat) (x : V) (T : Addr) (σ : L2.St) (H : Hp), xs[i]? = some x → Pv i σ H → H T = none → g (.ref T) σ (upd H T (.tup [.int (i : Nat), x])) fun σ2 H2 => tb { D with nx := Pv (i + 1), ct := Pv (i + 1), bk := D.nx } σ2 H2) (hd : ∀ σ H, Pv xs.length σ H → D.nx σ H) :
    ∃ W : Nat → Nat → L2.St → Hp → Prop, (∃ m, W 0 m σ H) ∧ ∀ i m σ H, W i m σ H →
      (J.stop i H ∧ D.nx σ H) ∨ (J.go i H ∧ ∃ N : L2.St → Hp → Prop, (∀ σ' H', N σ' H' → ∃ m', m' < m ∧ W (i + 1) m' σ' H') ∧ ∀ x H', J.yld i H x H' → g x σ H' fun σ2 H2 => tb { D with nx := N, ct := N, bk := D.nx } σ2 H2) := by
  subst hJ
  refine ⟨fun i m σ H => m = xs.length - i ∧ i ≤ xs.length ∧ Pv i σ H, ⟨xs.length, by simp, Nat.zero_le _, h0⟩, ?_⟩
  rintro i m σ H ⟨rfl, hi, p⟩
  have q := hq i σ H p
  rcases Nat.lt_or_eq_of_le hi with hlt | he
  · refine .inr ⟨⟨xs, xs[i], q, List.getElem?_eq_getElem hlt⟩, Pv (i + 1), fun σ' H' p' => ⟨xs.length - (i + 1), by omega, rfl, hlt, p'⟩, fun x H' y => ?_⟩
    obtain ⟨T, x', rfl, nT, rfl, hx⟩ := y
    exact hs i x' T σ H (hx xs q) p nT
  · subst he
    exact .inl ⟨⟨xs, q, rfl⟩, hd σ H p⟩
/-- the tuple at a, its items in new pairs with their places -/
def ItE (K : PySem.W.Frag) (a : Addr) : It :=
  ⟨fun i H => ∃ (xs : List V) (x : V), SqT K H a xs ∧ xs[i]? = some x, fun i H v H' => ∃ T x, v = .ref T ∧ H T = none ∧ H' = upd H T (.tup [.int (i : Nat), x]) ∧ ∀ xs, SqT K H a xs → xs[i]? = some x, fun i H => ∃ xs : List V, SqT K H a xs ∧ xs.length = i⟩
theorem turn_enumT {P : Program} {w : World} {K : PySem.W.Frag} {elts : List Expr} {kk : Nat} {tpos : Pos} (a e it : Addr) (hae : a ≠ e) (hai : a ≠ it) :
    Turn P w K (.Tuple elts kk tpos) (ItE K a) [e, it] e (fun i h => (∃ old, IsEnum h e it ((i : Nat) : Int) old) ∧ h.IsTupleIter it a i ∧ e ≠ it) where
  mem := by simp
  obj := fun i h st b hb => by
    obtain ⟨⟨old, he⟩, ⟨o, ho, hc, hd⟩, _⟩ := st
    rcases (by simpa using hb : b = e ∨ b = it) with rfl | rfl
    · exact ⟨_, he, fun v q => nomatch q⟩
    · exact ⟨o, ho, fun v q => by rw [hd] at q; cases q⟩
  keep := fun i h h' st k => let ⟨⟨old, he⟩, ⟨o, ho, r⟩, hne⟩ := st; ⟨⟨old, k e (by simp) _ he⟩, ⟨o, k it (by simp) o ho, r⟩, hne⟩
  item := by
    intro X hP hw hK hc i pins s σ H E I hf st hg
    subst hP hw hK
    obtain ⟨⟨old, he⟩, hit, hne⟩ := st
    obtain ⟨xs, x, hq, hx⟩ := hg
    obtain ⟨its, rv, p, hz⟩ := I.tuple hq
    obtain ⟨u, hu, ru⟩ := rv.get hx
    have hel : e < s.heap.objs.size := Heap.lt_size he
    have hil : it < s.heap.objs.size := by obtain ⟨_, q, _⟩ := hit; exact Heap.lt_size q
    have hlt : i < its.toArray.size := by
      have q := (List.getElem?_eq_some_iff.mp hu).1
      simpa using q
    refine wpAny_pyNext_enum_itemD (Draws.tuple (A := X.A.in1) (show X.A.in1.handled = none from I.ok.hd hc) it a hai its.toArray) he ⟨hit, p⟩ hlt hne (by simp [hne, Ne.symm hae]) fun y h' tk hy ho hst hT hsz hk => ?_
    obtain rfl : y = u := by
      have z : its[i]? = some y := by simpa using hy
      rw [hu] at z
      exact (Option.some.inj z).symm
    refine ⟨_, rfl, wpAny_letOwnedTupleGo_enum (s := { s with heap := h', toks := tk + 1 }) ho fun h'' he' sb => ?_⟩
    have hT2 : h''.get? s.heap.objs.size = some { cls := .type "tuple", data := .seq #[.int i tk, y] } := (sb.2 _ (Nat.ne_of_gt hel)).trans hT
    have new : ObjOk X.prog X.w (upd H s.heap.objs.size (.tup [.int (i : Nat), x])) h'' s.heap.objs.size (.tup [.int (i : Nat), x]) :=
      ⟨(by decide : 2 ≤ sizeLine), [.int i tk, y], .cons ⟨_, rfl⟩ (.cons ru .nil), ⟨_, hT2, rfl, _, rfl⟩⟩
    have I1 : Inv X pins σ (upd H s.heap.objs.size (.tup [.int (i : Nat), x])) { s with heap := h'', toks := tk + 1 } :=
      I.turnedNew (ch := [e, it]) (fun b ob hb q => (sb.2 b (fun z => hb (by simp [z]))).trans (hk b ob (fun z => hb (by simp [z])) (fun z => hb (by simp [z])) q)) hf (Nat.le_refl _) new
    obtain ⟨oi, hoi, hri⟩ := hst.1
    refine ⟨.ref s.heap.objs.size, _, I1, rfl, ⟨_, x, rfl, I.hok.fresh (Nat.le_refl _), rfl, fun ys hy => by rw [I.tuple_inj hy hq]; exact hx⟩, ⟨⟨y, ?_⟩, ⟨oi, (sb.2 it (Ne.symm hne)).trans hoi, hri⟩, hne⟩, fun b hb => ?_⟩
    · rw [show ((i + 1 : Nat) : Int) = (i : Int) + 1 by omega]
      exact he'
    · have hb' : b < s.heap.objs.size := by
        rcases (by simpa using hb : b = e ∨ b = it) with z | z
        · rw [z]; exact hel
        · rw [z]; exact hil
      rw [upd_ne (Nat.ne_of_lt hb')]
      exact (hf b hb).1
  done := by
    intro X hP hw hK hc i pins s σ H E I hf st hg
    subst hP hw hK
    obtain ⟨⟨old, he⟩, hit, hne⟩ := st
    obtain ⟨xs, hq, hx⟩ := hg
    obtain ⟨its, rv, p, hz⟩ := I.tuple hq
    obtain ⟨f0, f1, f2, f3, f4, f5⟩ := hf it (by simp)
    have hl := rv.length
    have hi : i = its.toArray.size := by
      rw [List.size_toArray]
      omega
    have hst : s.heap.IsTupleIter it a its.toArray.size ∧ s.heap.IsTuple a its.toArray := ⟨by rw [← hi]; exact hit, p⟩
    exact wpAny_pyNext_enum_endD (Draws.tuple (A := X.A.in1) (show X.A.in1.handled = none from I.ok.hd hc) it a hai its.toArray) he hst fun h' eb => ⟨rfl, I.turned (t' := s.toks) (fun b o hb q => eb b o hb q) f0 f1 f3 f4 f5⟩
  self := fun A i s Q E st h => let ⟨⟨_, he⟩, _⟩ := st; wpAny_pyIter_enum he h
def iEnumT (K : PySem.W.Frag) (ta : TA) : TI := fun σ H R => ta σ H fun vs H1 => ∃ a xs, vs = [.ref a] ∧ SqT K H1 a xs ∧ R (ItE K a) H1
theorem pi_enumT {X : Cx} {e : Expr} {ta : TA} {p pos tpos : Pos} {elts : List Expr} {kk : Nat} (hg : Gl X "enumerate") (hm : X.mg "enumerate" = none) (ha : PA X [e] ta) (hs : starEach [e] X.env = [(false, eval e X.env)] := by rfl) :
    PI X (.Tuple elts kk tpos) (.Call (.Name "enumerate" p) [e] [] pos) (iEnumT X.K ta) := by
  refine ⟨fun pins s σ H R I h => ?_⟩
  refine Call_ (ld_blt I hg hm boot_enumerate (PyProof.Rows.callWith_type1 (thn (ha.run pos pins s σ H _ I h) fun us s1 ⟨vs, H1, I1, r1, a, xs, ex, hq, q⟩ => ?_) hs rfl))
  subst ex
  cases r1 with
  | cons r rr =>
    cases rr
    cases r
    obtain ⟨its, rv, p', hz⟩ := I1.tuple hq
    have hal : a < s1.heap.objs.size := p'.lt
    refine call_enumT p' fun h' he hit hk => wpAny_pyIter_enum he ?_
    have I2 : Inv X pins σ H1 { s1 with heap := h' } := I1.kept (t' := s1.toks) hk
    refine ⟨s1.heap.objs.size + 1, [s1.heap.objs.size + 1, s1.heap.objs.size], _, _, H1, rfl, I2, turn_enumT a (s1.heap.objs.size + 1) s1.heap.objs.size (Nat.ne_of_lt (Nat.lt_succ_of_lt hal)) (Nat.ne_of_lt hal), ⟨⟨.none, he⟩, hit, Nat.succ_ne_self _⟩, fun b hb => ?_, q⟩
    have hle : s1.heap.objs.size ≤ b := by
      rcases (by simpa using hb : b = s1.heap.objs.size + 1 ∨ b = s1.heap.objs.size) with z | z
      · rw [z]
        exact Nat.le_succ _
      · rw [z]
        exact Nat.le_refl _
    exact I1.fpOk hle (I1.hok.fresh hle)
end Mv
/-! sorted of a tuple of texts -/
namespace Mv
open PySem PySem.Spec PyProof.Rows L2
section
variable {prog : Program} {w : World} {A : Around} {E : Value → Shared → Prop} {s : Shared}
theorem sortedT_strs {t : Addr} {vs : List Value} {ss : List Str} {Q : Value → Shared → Prop} (ht : s.heap.IsTuple t vs.toArray) (hS : StrsAre vs ss) (h64 : vs.length < 64)
    (h : ∀ (h' : Heap) (p : Addr) (out : Array Value) (ys : List Str) (ep : Nat), (∀ b o, s.heap.get? b = some o → h'.get? b = some o) → s.heap.get? p = none → h'.get? p = some (seqObj "list" out ep) → StrsAre out.toList ys → ys.Perm ss → sortedS ys = true → Q (.ref p) { s with heap := h' }) :
    wpAny (model prog w) A (call (.builtin "sorted") [.ref t]) Q E s := by
  refine Calls.call_function_entry kind_sorted plain_sorted entry_sorted (args_sorted1 _) ?_
  unfold Builtin.«sorted»
  refine wpAny_bind (m := checkCount "sorted" 1 1 _) (wpAny_pure ?_)
  obtain ⟨ot, ho, hc, n, hd⟩ := ht
  refine wpAny_bind (wpAny_collect_seq t (.inr rfl) ho hc hd (fun h1 k1 => ?_) (by rw [List.size_toArray, sizeLine_eq]; omega))
  have e1 : vs.toArray.toList = vs := by simp
  rw [e1]
  refine wpAny_bind (wpAny_newList ?_)
  have hoL : (h1.push (seqObj "list" vs.toArray 0)).get? h1.objs.size = some (seqObj "list" vs.toArray 0) := Heap.get?_push_size _ rfl
  have hnew : s.heap.get? h1.objs.size = none := by
    cases e : s.heap.get? h1.objs.size with
    | none => rfl
    | some o => exact absurd (Heap.lt_size (k1 _ _ e)) (Nat.lt_irrefl _)
  show wpAny _ _ _ _ _ { s with heap := h1.push (seqObj "list" vs.toArray 0) }
  refine wpAny_bind (wpAny_holding (wpAny_call_entry slot_list_sort ⟨_, hoL, rfl⟩ entry_list_sort (list_sort_treeK strKind_oneLt hoL hS.keysOf (fun v₁ v₂ rest e => keyKind_strs (by rw [← e]; exact hS)) h64 fun st' hp hs => ⟨_, rfl, ?_⟩) (args_list_sort _)))
  obtain ⟨ys, g1, g2, g3⟩ := sorted_out_str hS hp hs
  obtain ⟨ep, hat⟩ := sortedHeap_at (vs := vs) (out := (arrOf st').map (·.2)) hoL
  refine wpAny_pure ⟨_, rfl, h _ _ _ ys ep (fun b o e => ?_) hnew hat g1 g2 g3⟩
  have e2 : h1.get? b = some o := k1 b o e
  have e3 : (h1.push (seqObj "list" vs.toArray 0)).get? b = some o := Heap.get?_push_of_some _ e2
  rw [sortedHeap_old (Nat.ne_of_lt (Heap.lt_size e2)) (Heap.lt_size e3)]
  exact e3
end
/-- sorted(t), t a tuple of texts -/
def rSortedT (K : PySem.W.Frag) : List V → Hp → VK → Prop := fun vs H Q => ∃ (a : Addr) (xs : List Str), vs = [V.ref a] ∧ SqT K H a (xs.map V.str) ∧ xs.length < 64 ∧
  ∀ (ys : List Str) (p : Addr), ys.Perm xs → sortedS ys = true → H p = none → Q (.ref p) (upd H p (.lst (ys.map V.str)))
theorem cr_sortedT {X : Cx} : CallR X (.builtin "sorted") (rSortedT X.K) := by
  intro pins s σ H vs us Q I r h
  obtain ⟨a, xs, rfl, hs, h64, q⟩ := h
  obtain ⟨its, rv, hl, _⟩ := I.tuple hs
  rw [Vals.ref1 r]
  have hlen0 := rv.length
  rw [List.length_map] at hlen0
  refine sortedT_strs hl rv.strs (by rw [← hlen0]; exact h64) fun h' p out ys ep k hnew hat g1 g2 g3 => ?_
  have hn : H p = none := I.hok.gone hnew
  have hlen : (ys.map V.str).length ≤ sizeLine := by rw [List.length_map, g2.length_eq]; exact small64 h64
  exact ⟨.ref p, upd H p (.lst (ys.map V.str)), I.laidN k hnew hn ⟨hlen, out.toList, ep, vals_of_strs g1, by simpa using hat⟩, rfl, q ys p g2 g3 hn⟩
end Mv
namespace Mv
open PySem PySem.Spec PyProof.Rows L2
abbrev sFirst : Stmt := top 8
def badAt (xs : List V) (i : Nat) : Bool := match xs[i]? with
  | some x => !isW x || inV x (xs.take i)
  | none => false
theorem isW_str {x : V} (h : isW x = true) : ∃ z, x = .str z := by
  cases x with
  | str z => exact ⟨z, rfl⟩
  | _ => cases h
theorem good_flat {xs : List V} {i : Nat} (h : ∀ j, j < i → badAt xs j = false) : (xs.take i).all flatV = true := by
  rw [List.all_eq_true]
  intro x hx
  obtain ⟨j, hj⟩ := List.mem_iff_getElem?.mp hx
  rw [List.getElem?_take] at hj
  split at hj
  · rename_i hlt
    have q := h j hlt
    unfold badAt at q
    rw [hj] at q
    cases e : isW x with
    | true =>
      obtain ⟨z, rfl⟩ := isW_str e
      rfl
    | false =>
      simp [e] at q
  · cases hj
theorem sIx_none (n : Nat) : HT.sIx n 0 none = 0 := rfl
theorem sIx_some {n i : Nat} (h : i ≤ n) : HT.sIx n n (some (i : Int)) = i := by
  rw [HT.sIx_nat]
  exact Nat.min_eq_left h
theorem cut_take {xs : List V} {i : Nat} (h : i ≤ xs.length) : cutV xs none (some (i : Int)) = xs.take i := by
  unfold cutV
  rw [sIx_none, sIx_some h]
  rfl
def spFirst (K : PySem.W.Frag) : Sp := fun vs H Q _ => ∃ (a : Addr) (xs : List V), vs = [.ref a] ∧ SqT K H a xs ∧ (∀ x ∈ xs, ∀ H', Same H H' → Kn K H' x) ∧
  (∀ i, i < xs.length → badAt xs i = true → (∀ j, j < i → badAt xs j = false) → ∀ H', Same H H' → Q (.int i) H') ∧ ((∀ j, j < xs.length → badAt xs j = false) → ∀ H', Same H H' → Q .non H')
section
variable {P : Program} {w : World} {K : PySem.W.Frag} {mg : Str → Option Value} {base : Heap}
theorem same_sqT {H H' : Hp} {a : Addr} {xs : List V} (e : Same H H') (h : SqT K H a xs) : SqT K H' a xs := by
  rcases h with h | h
  · rcases h with h | ⟨o, h⟩
    · exact .inl (.inl (e _ _ h))
    · exact .inl (.inr ⟨o, e _ _ h⟩)
  · exact .inr h
theorem scF : FnScope ["words", "index", "word"] ["words"] (defScope sFirst) := ⟨rfl, rfl, rfl, by decide +kernel, rfl, by decide +kernel, by decide +kernel⟩
theorem ok_first {f fW : Addr} {fd fdW : FuncData} (F : Fun K "first_unfit" "first_unfit" sFirst f fd) (T : WT K mg) (en : mg "enumerate" = none) (gW : mg "is_word" = some (.ref fW)) (kW : PySem.W.keepIn K (.ref fW) = true)
    (GW : FnOk P w K mg base CX0 1 fW fdW ["thing"] (spIsWord K)) (bW : Binds K fdW ["thing"] []) : FnOk P w K mg base CX0 2 f fd ["words"] (spFirst K) := by
  refine F.ok scF (fun vs H Q E h => ?_) (fun cdv A outer s H vs Q E hr h => ?_)
  · obtain ⟨a, xs, rfl, _⟩ := h
    rfl
  · obtain ⟨a, xs, rfl, hS, hk, kb, kn⟩ := h
    refine ⟨_, pss_cons (ps_for PassesOwn.never rfl (pi_enumT (by rfl) en (pa_cons (pv 0) pa_nil)) (pg_tup rfl (pgs_cons (pg_name (i := 1) scF.nd rfl (Or.inl rfl)) (pgs_cons (pg_name (i := 2) scF.nd rfl (Or.inl rfl)) pgs_nil)))
        (pss_one (ps_if (PW.pt (pw_or (pt_not (pt_val (pe_call GW hr rfl gW kW bW .nil pass0 (pa_cons (pv 2) pa_nil)))) (pw_or1 (pt_cmpR op_in_seq (pv 2) (pe_slice sl_tup (pv 0) po_none (po_some (pv 1))) (by rfl)))))
          (pss_one (ps_ret (pv 1))) pss_nil))) (pss_one (ps_ret pe_non)), ?_⟩
    refine ⟨_, rfl, a, xs, rfl, hS, for_enumT (K := K) (a := a) (xs := xs) rfl (fun i σ H' => (∃ u v, σ = [some (.ref a), u, v]) ∧ Same H H' ∧ ∀ j, j < i → badAt xs j = false) ?_ ?_ ?_ ?_⟩
    · exact ⟨⟨none, none, rfl⟩, Same.refl H, fun j hj => absurd hj (Nat.not_lt_zero j)⟩
    · rintro i σ H' ⟨_, sm, _⟩
      exact same_sqT sm hS
    · rintro i x Tp σ H1 hx ⟨⟨u, v, rfl⟩, sm, good⟩ nT
      have hi : i < xs.length := (List.getElem?_eq_some_iff.mp hx).1
      have sm1 : Same H (upd H1 Tp (.tup [.int (i : Nat), x])) := sm.trans (same_new nT)
      refine ⟨Tp, _, rfl, .inl (.inl upd_same), rfl, _, _, rfl, ?_⟩
      refine ⟨x, [], rfl, rfl, ?_⟩
      refine ⟨x, rfl, x, rfl, hk x (List.mem_of_getElem? hx) _ sm1, fun H2 s2 => ⟨_, rfl, ?_⟩⟩
      have sm2 : Same H H2 := sm1.trans s2
      cases e : isW x with
      | false =>
        refine iteT ?_
        refine iteT ?_
        refine ⟨_, rfl, kb i hi ?_ good H2 sm2⟩
        unfold badAt
        simp [hx, e]
      | true =>
        refine iteF ?_
        obtain ⟨z, rfl⟩ := isW_str e
        refine ⟨_, rfl, _, rfl, _, rfl, _, rfl, a, xs, rfl, same_sqT sm2 hS, ?_, fun p hp => ?_⟩
        · rw [HT.sIx_nat]
          intro q
          have q2 := q.2
          rw [Nat.min_eq_left (Nat.le_of_lt hi)] at q2
          omega
        · rw [cut_take (Nat.le_of_lt hi)]
          refine ⟨p, _, rfl, .inr (.inl (.inl upd_same)), rfl, good_flat good, _, rfl, ?_⟩
          have sm3 : Same H (upd H2 p (.tup (xs.take i))) := sm2.trans (same_new hp)
          have eb : badAt xs i = inV (.str z) (xs.take i) := by
            unfold badAt
            simp [hx, e]
          cases e2 : inV (.str z) (xs.take i) with
          | true =>
            refine iteT ?_
            exact ⟨_, rfl, kb i hi (eb.trans e2) good _ sm3⟩
          | false =>
            refine iteF ?_
            refine ⟨⟨_, _, rfl⟩, sm3, fun j hj => ?_⟩
            rcases Nat.lt_succ_iff_lt_or_eq.mp hj with q | q
            · exact good j q
            · rw [q, eb, e2]
    · rintro σ H1 ⟨_, sm, good⟩
      exact kn good H1 sm
end
end Mv
namespace Mv
open PySem PySem.Spec PyProof.Rows L2
abbrev sFInit : Stmt := inClass (top 11) 0
abbrev sFTerms : Stmt := inClass (top 11) 1
abbrev sFEq : Stmt := inClass (top 11) 2
abbrev sMembers : Stmt := top 12
abbrev sBound : Stmt := top 13
abbrev sFaulty : Stmt := top 14
abbrev sAt : Stmt := top 15
abbrev sBegun : Stmt := top 16
abbrev sSaid : Stmt := top 17
abbrev sHeard : Stmt := top 18
abbrev sChecked : Stmt := top 19
abbrev sSingle : Stmt := top 20
/-! ### forms -/
theorem upd_nn {H : Hp} {a b : Addr} {o : HO} (h : upd H a o b = none) : b ≠ a ∧ H b = none := by
  by_cases e : b = a
  · rw [e, upd_same] at h
    cases h
  · rw [upd_ne e] at h
    exact ⟨e, h⟩
abbrev Term := List Str
abbrev Prs := List (Term × Int)
def TermAt (K : PySem.W.Frag) (H : Hp) (a : Addr) (t : Term) : Prop := SqT K H a (t.map V.str)
def PairAt (K : PySem.W.Frag) (H : Hp) (a : Addr) (p : Term × Int) : Prop := ∃ b, SqT K H a [.ref b, .int p.2] ∧ TermAt K H b p.1
def flds (tp : Addr) (r : Int) : List (Str × V) := putF "rest" (.int r) (putF "_pairs" (.ref tp) [])
theorem kpr : ¬ (("_pairs" : Str) = "rest") := by decide +kernel
theorem flds_pairs (tp : Addr) (r : Int) : (flds tp r).lookup ("_pairs" : Str) = some (.ref tp) := by
  unfold flds
  rw [lookup_putF, if_neg kpr, lookup_putF, if_pos rfl]
theorem flds_rest (tp : Addr) (r : Int) : (flds tp r).lookup ("rest" : Str) = some (.int r) := by
  unfold flds
  rw [lookup_putF, if_pos rfl]
theorem flds_no (tp : Addr) (r : Int) {m : Str} (h1 : ¬ m = "rest") (h2 : ¬ m = "_pairs") : (flds tp r).lookup m = none := by
  unfold flds
  rw [lookup_putF, if_neg h1, lookup_putF, if_neg h2]
  all_goals rfl
structure FormAt (K : PySem.W.Frag) (C : Addr) (H : Hp) (p : Addr) (ps : Prs) (r : Int) : Prop where
  ob : ∃ dx tp as, H p = some (.ins C dx (flds tp r)) ∧ SqT K H tp (as.map V.ref) ∧ Paired (PairAt K H) as ps
theorem PairAt.same {K : PySem.W.Frag} {H H' : Hp} {a : Addr} {p : Term × Int} (s : Same H H') (h : PairAt K H a p) : PairAt K H' a p :=
  let ⟨b, h1, h2⟩ := h; ⟨b, same_sqT s h1, same_sqT s h2⟩
theorem FormAt.same {K : PySem.W.Frag} {C : Addr} {H H' : Hp} {p : Addr} {ps : Prs} {r : Int} (s : Same H H') (h : FormAt K C H p ps r) : FormAt K C H' p ps r := by
  obtain ⟨dx, tp, as, h1, h2, h3⟩ := h.ob
  exact ⟨dx, tp, as, s _ _ h1, same_sqT s h2, L2.Paired.mapP h3 fun _ _ q => q.same s⟩
def spFInit (K : PySem.W.Frag) (C : Addr) : Sp := fun vs H Q _ => ∃ (p dx l : Addr) (xs : List V) (r : Int), vs = [.ref p, .ref l, .int r] ∧ H p = some (.ins C dx []) ∧ SqL K H l xs ∧
  ∀ tp H', H tp = none → tp ≠ p → H' p = some (.ins C dx (flds tp r)) → H' tp = some (.tup xs) → (∀ b o, H b = some o → b ≠ p → H' b = some o) → Q .non H'
structure FT (K : PySem.W.Frag) (mg : Str → Option Value) (C : Addr) : Prop where
  cl : Cls K C
  nP : NoAttr K C "_pairs"
  nR : NoAttr K C "rest"
  gF : mg "Form" = some (.ref C)
  tuple : mg "tuple" = none
  list : mg "list" = none
section
variable {P : Program} {w : World} {K : PySem.W.Frag} {mg : Str → Option Value} {base : Heap} {C : Addr}
theorem scFI : FnScope ["self", "pairs", "rest"] ["self", "pairs", "rest"] (defScope sFInit) := ⟨rfl, rfl, rfl, by decide +kernel, rfl, by decide +kernel, by decide +kernel⟩
theorem ok_finit {f : Addr} {fd : FuncData} (F : Fun K "__init__" "Form.__init__" sFInit f fd) (T : FT K mg C) : FnOk P w K mg base CX0 1 f fd ["self", "pairs", "rest"] (spFInit K C) := by
  refine F.ok scFI (fun vs H Q E h => ?_) (fun cdv A outer s H vs Q E hr h => ?_)
  · obtain ⟨p, dx, l, xs, r, rfl, _⟩ := h
    rfl
  · obtain ⟨p, dx, l, xs, r, rfl, hp, hl, k⟩ := h
    refine ⟨_, pss_cons (ps_fld (pv 0) (pe_callTy call_tuple_of (by rfl) T.tuple (by decide +kernel) (pa_cons (pv 1) pa_nil)) rfl) (pss_one (ps_fld (pv 0) (pv 2) rfl)), ?_⟩
    refine ⟨_, rfl, l, xs, rfl, .inl ⟨hl, fun tp ht => ?_⟩⟩
    have npt : p ≠ tp := ne_of_none hp ht
    refine ⟨_, rfl, p, C, dx, [], rfl, (by rw [upd_ne npt]; exact hp), T.cl, T.nP, (by show 0 < 1000; decide), _, rfl, _, rfl, p, C, dx, _, rfl, upd_same, T.cl, T.nR, (by show 1 < 1000; decide), ?_⟩
    refine k tp _ ht (Ne.symm npt) upd_same (by rw [upd_ne (Ne.symm npt), upd_ne (Ne.symm npt), upd_same]) fun b o e hb => ?_
    rw [upd_ne hb, upd_ne hb, upd_ne (ne_of_none e ht)]
    exact e
/-- _single(term) -/
def spSingle (K : PySem.W.Frag) (C : Addr) : Sp := fun vs H Q _ => ∃ (b : Addr) (t : Term), vs = [.ref b] ∧ TermAt K H b t ∧ ∀ p H', Same H H' → H p = none → FormAt K C H' p [(t, 1)] 0 → Q (.ref p) H'
theorem scSg : FnScope ["term"] ["term"] (defScope sSingle) := ⟨rfl, rfl, rfl, by decide +kernel, rfl, by decide +kernel, by decide +kernel⟩
theorem ok_single {f fI : Addr} {fd fdI : FuncData} (F : Fun K "_single" "_single" sSingle f fd) (T : FT K mg C) (M : Mk K C fI) (GI : FnOk P w K mg base CX0 1 fI fdI ["self", "pairs", "rest"] (spFInit K C)) (bI : Binds K fdI ["self", "pairs", "rest"] []) :
    FnOk P w K mg base CX0 3 f fd ["term"] (spSingle K C) := by
  refine F.ok scSg (fun vs H Q E h => ?_) (fun cdv A outer s H vs Q E hr h => ?_)
  · obtain ⟨b, t, rfl, _⟩ := h
    rfl
  · obtain ⟨b, t, rfl, ht, k⟩ := h
    refine ⟨_, pss_one (ps_ret (pe_make M GI hr (by rfl) T.gF bI .nil pass0 (pa_cons (pe_lst (pa_cons (pe_tup (pa_cons (pv 0) (pa_cons pe_int pa_nil))) pa_nil)) (pa_cons pe_int pa_nil)))), ?_⟩
    refine ⟨_, rfl, (by show 2 ≤ sizeLine; decide), fun q hq => ?_⟩
    refine ⟨(by show 1 ≤ sizeLine; decide), fun l hl => ?_⟩
    intro p dx hp hdx hne
    obtain ⟨nlq, nl⟩ := upd_nn hl
    obtain ⟨npl, hp1⟩ := upd_nn hp
    obtain ⟨npq, np⟩ := upd_nn hp1
    have sm0 : Same H (upd H q (.tup [V.ref b, V.int 1])) := same_new hq
    have sm1 : Same H (upd (upd H q (.tup [V.ref b, V.int 1])) l (.lst [V.ref q])) := sm0.trans (same_new hl)
    have ndl : l ≠ dx := fun e => (upd_nn hdx).1 e.symm
    have ndq : q ≠ dx := fun e => (upd_nn (upd_nn hdx).2).1 e.symm
    refine ⟨p, dx, l, [V.ref q], 0, rfl, upd_same, .inl (.inl ?_), fun tp H' htp hne2 h1 h2 h3 => ⟨rfl, ?_⟩⟩
    · rw [upd_ne (Ne.symm npl), upd_ne ndl, upd_same]
    · have keep : ∀ c o, upd (upd H q (.tup [V.ref b, V.int 1])) l (.lst [V.ref q]) c = some o → H' c = some o := fun c o e => by
        have cp : c ≠ p := ne_of_none e hp
        have cd : c ≠ dx := ne_of_none e hdx
        exact h3 c o (by rw [upd_ne cp, upd_ne cd]; exact e) cp
      have sm : Same H H' := fun c o e => keep c o (sm1 c o e)
      refine k p H' sm np ⟨dx, tp, [q], h1, .inl (.inl h2), .cons ⟨b, .inl (.inl (keep _ _ ?_)), same_sqT sm ht⟩ .nil⟩
      rw [upd_ne (Ne.symm nlq), upd_same]
/-- form.terms() -/
def spTerms (K : PySem.W.Frag) (C : Addr) : Sp := fun vs H Q _ => ∃ (p dx tp : Addr) (r : Int) (xs : List V), vs = [.ref p] ∧ H p = some (.ins C dx (flds tp r)) ∧ SqT K H tp xs ∧ ∀ l, H l = none → Q (.ref l) (upd H l (.lst xs))
theorem scFT : FnScope ["self"] ["self"] (defScope sFTerms) := ⟨rfl, rfl, rfl, by decide +kernel, rfl, by decide +kernel, by decide +kernel⟩
theorem ok_terms {f : Addr} {fd : FuncData} (F : Fun K "terms" "Form.terms" sFTerms f fd) (T : FT K mg C) : FnOk P w K mg base CX0 1 f fd ["self"] (spTerms K C) := by
  refine F.ok scFT (fun vs H Q E h => ?_) (fun cdv A outer s H vs Q E hr h => ?_)
  · obtain ⟨p, dx, tp, r, xs, rfl, _⟩ := h
    rfl
  · obtain ⟨p, dx, tp, r, xs, rfl, hp, ht, k⟩ := h
    exact ⟨_, pss_one (ps_ret (pe_callTy call_list_of (by rfl) T.list (by decide +kernel) (pa_cons (pe_fld (pv 0) rfl) pa_nil))), _, rfl, p, C, dx, _, _, rfl, hp, T.cl, T.nP, flds_pairs _ _, tp, xs, rfl, .inr ht, k⟩
/-- members(), bound(), faulty() -/
def spConst (K : PySem.W.Frag) (C : Addr) (x : Str) : Sp := fun vs H Q _ => vs = [] ∧ ∀ p H', Same H H' → H p = none → FormAt K C H' p [([x], 1)] 0 → Q (.ref p) H'
theorem ok_const {st : Stmt} {nm x : Str} {f fS : Addr} {fd fdS : FuncData} {p1 p2 p3 p4 p5 : Pos} {j k : Nat} (hbody : defBody st = [.Return (some (.Call (.Name "_single" p1) [.Tuple [.Constant (.str x) j p2] k p3] [] p4)) p5]) (sc : FnScope [] [] (defScope st)) (hgl : (defScope st).names.lookup ("_single" : Str) = some .globalImplicit)
    (F : Fun K nm nm st f fd) (gS : mg "_single" = some (.ref fS)) (kS : PySem.W.keepIn K (.ref fS) = true) (GS : FnOk P w K mg base CX0 3 fS fdS ["term"] (spSingle K C)) (bS : Binds K fdS ["term"] []) : FnOk P w K mg base CX0 4 f fd [] (spConst K C x) := by
  refine F.ok sc (fun vs H Q E h => ?_) (fun cdv A outer s H vs Q E hr h => ?_)
  · obtain ⟨rfl, _⟩ := h
    rfl
  · obtain ⟨rfl, k⟩ := h
    rw [hbody]
    refine ⟨_, pss_one (ps_ret (pe_call GS hr hgl gS kS bS .nil pass0 (pa_cons (pe_tup (pa_cons pe_str pa_nil)) pa_nil))), ?_⟩
    refine ⟨(by show 1 ≤ sizeLine; decide), fun q hq => ?_⟩
    refine ⟨q, [x], rfl, .inl (.inl upd_same), fun p H' sm hp hf => k p H' ((same_new hq).trans sm) (upd_nn hp).2 hf⟩
end
end Mv
namespace Mv
open PySem PySem.Spec PyProof.Rows L2
/-- _checked_word(thing) -/
def spChecked (K : PySem.W.Frag) (CB : Addr) : Sp := fun vs H Q E => ∃ x, vs = [x] ∧ Kn K H x ∧ (isW x = true → ∀ H', Same H H' → Q x H') ∧ (isW x = false → ∀ H' d, Same H H' → H' d = none → E (.ref CB) (some d) (upd H' d (.xd [(("word" : Str), x)])))
/-- at(place) and its like -/
def spTerm (K : PySem.W.Frag) (C CB : Addr) (nm : Str) : Sp := fun vs H Q E => ∃ x, vs = [x] ∧ Kn K H x ∧ (∀ z, x = .str z → isWS z = true → ∀ p H', Same H H' → H p = none → FormAt K C H' p [([nm, z], 1)] 0 → Q (.ref p) H') ∧
  (isW x = false → ∀ H' d, Same H H' → H' d = none → E (.ref CB) (some d) (upd H' d (.xd [(("word" : Str), x)])))
section
variable {P : Program} {w : World} {K : PySem.W.Frag} {mg : Str → Option Value} {base : Heap} {C CB : Addr}
theorem scCk : FnScope ["thing"] ["thing"] (defScope sChecked) := ⟨rfl, rfl, rfl, by decide +kernel, rfl, by decide +kernel, by decide +kernel⟩
theorem ok_checked {f fW : Addr} {fd fdW : FuncData} (F : Fun K "_checked_word" "_checked_word" sChecked f fd) (T : Err P w K mg base "BadWord" CB "word") (gW : mg "is_word" = some (.ref fW)) (kW : PySem.W.keepIn K (.ref fW) = true)
    (GW : FnOk P w K mg base CX0 1 fW fdW ["thing"] (spIsWord K)) (bW : Binds K fdW ["thing"] []) : FnOk P w K mg base (L2.CX P w) 4 f fd ["thing"] (spChecked K CB) := by
  refine F.okX scCk (fun vs H Q E h => ?_) (fun cdv A outer s H vs Q E hr h => ?_)
  · obtain ⟨x, rfl, _⟩ := h
    rfl
  · obtain ⟨x, rfl, hk, k1, k2⟩ := h
    refine ⟨_, pss_cons (ps_if (pt_not (pt_val (pe_call GW (hr.mono (by decide)) rfl gW kW bW .nil pass0 (pa_cons (pv 0) pa_nil)))) (pss_one (ps_raiseErr rfl T hr (takes_of rfl rfl rfl rfl) rfl (pv 0))) pss_nil) (pss_one (ps_ret (pv 0))), ?_⟩
    refine ⟨_, rfl, x, rfl, hk, fun H1 s1 => ⟨_, rfl, ?_⟩⟩
    cases e : isW x with
    | false =>
      refine iteT ?_
      exact ⟨_, rfl, fun d hd => k2 e H1 d s1 hd⟩
    | true =>
      refine iteF ?_
      exact ⟨_, rfl, k1 e H1 s1⟩
theorem ok_term {st : Stmt} {nm x par : Str} {f fS fC : Addr} {fd fdS fdC : FuncData} {p1 p2 p3 p4 p5 p6 p7 p8 : Pos} {j k : Nat} (hbody : defBody st = [.Return (some (.Call (.Name "_single" p1) [.Tuple [.Constant (.str x) j p2, .Call (.Name "_checked_word" p6) [.Name par p7] [] p8] k p3] [] p4)) p5])
    (sc : FnScope [par] [par] (defScope st)) (hg1 : (defScope st).names.lookup ("_single" : Str) = some .globalImplicit) (hg2 : (defScope st).names.lookup ("_checked_word" : Str) = some .globalImplicit) (hpl : (defScope st).names.lookup par = some .local) (hd1 : (par == ("__debug__" : Str)) = false) (hd2 : (par == ("__classdict__" : Str)) = false)
    (F : Fun K nm nm st f fd) (gS : mg "_single" = some (.ref fS)) (kS : PySem.W.keepIn K (.ref fS) = true) (GS : FnOk P w K mg base CX0 3 fS fdS ["term"] (spSingle K C)) (bS : Binds K fdS ["term"] [])
    (gC : mg "_checked_word" = some (.ref fC)) (kC : PySem.W.keepIn K (.ref fC) = true) (GC : FnOk P w K mg base (L2.CX P w) 4 fC fdC ["thing"] (spChecked K CB)) (bC : Binds K fdC ["thing"] []) : FnOk P w K mg base (L2.CX P w) 5 f fd [par] (spTerm K C CB x) := by
  refine F.okX sc (fun vs H Q E h => ?_) (fun cdv A outer s H vs Q E hr h => ?_)
  · obtain ⟨v, rfl, _⟩ := h
    rfl
  · obtain ⟨v, rfl, hk, k1, k2⟩ := h
    rw [hbody]
    refine ⟨_, pss_one (ps_ret (pe_call GS (hr.mono (by decide)) hg1 gS kS bS .nil pass0 (pa_cons (pe_tup (pa_cons pe_str (pa_cons (pe_call (E := E) GC hr hg2 gC kC bC .nil (passes_call (takes_of rfl rfl rfl rfl) (fun _ _ _ _ q => q)) (pa_cons (pv 0 rfl (.inl hpl) hd1 hd2) pa_nil)) pa_nil))) pa_nil))), ?_⟩
    refine ⟨v, rfl, v, rfl, hk, fun e H1 s1 => ?_, fun e H1 d s1 hd => k2 e H1 d s1 hd⟩
    obtain ⟨z, rfl⟩ := isW_str e
    refine ⟨(by show 2 ≤ sizeLine; decide), fun q hq => ?_⟩
    exact ⟨q, [x, z], rfl, .inl (.inl upd_same), fun p H' sm hp hf => k1 z rfl e p H' (s1.trans ((same_new hq).trans sm)) (s1.free (upd_nn hp).2) hf⟩
end
end Mv
namespace Mv
open PySem PySem.Spec PyProof.Rows L2 StX
/-- heard's body, sorts at a -/
def spHeardB (K : PySem.W.Frag) (C CB : Addr) : Sp := fun vs H Q E => ∃ (a : Addr) (xs : List V), vs = [.ref a] ∧ SqT K H a xs ∧ xs.length ≤ 50 ∧ (∀ x ∈ xs, ∀ H', Same H H' → Kn K H' x) ∧
  (xs = [] → ∀ H' d e, Same H H' → H' e = some (.tup []) → H' d = none → E (.ref CB) (some d) (upd H' d (.xd [(("word" : Str), .ref e)]))) ∧
  (∀ i x, xs[i]? = some x → badAt xs i = true → (∀ j, j < i → badAt xs j = false) → ∀ H' d, Same H H' → H' d = none → E (.ref CB) (some d) (upd H' d (.xd [(("word" : Str), x)]))) ∧
  (xs ≠ [] → (∀ j, j < xs.length → badAt xs j = false) → ∃ zs : List Str, xs = zs.map V.str ∧ ∀ ys : List Str, ys.Perm zs → sortedS ys = true → ∀ p H', Same H H' → H p = none → FormAt K C H' p [("heard" :: ys, 1)] 0 → Q (.ref p) H')
/-- heard(*sorts), called with the values xs -/
def spHeard (K : PySem.W.Frag) (C CB : Addr) : Sp := fun xs H Q E => ∀ p, H p = none → spHeardB K C CB [.ref p] (upd H p (.tup xs)) Q E
section
variable {P : Program} {w : World} {K : PySem.W.Frag} {mg : Str → Option Value} {base : Heap} {C CB : Addr}
theorem scHd : FnScope ["sorts", "index"] ["sorts"] (defScope sHeard) := ⟨rfl, rfl, rfl, by decide +kernel, rfl, by decide +kernel, by decide +kernel⟩
theorem ok_heard {f fS fU : Addr} {fd fdS fdU : FuncData} (F : Fun K "heard" "heard" sHeard f fd) (T : Err P w K mg base "BadWord" CB "word") (so : mg "sorted" = none)
    (gS : mg "_single" = some (.ref fS)) (kS : PySem.W.keepIn K (.ref fS) = true) (GS : FnOk P w K mg base CX0 3 fS fdS ["term"] (spSingle K C)) (bS : Binds K fdS ["term"] [])
    (gU : mg "first_unfit" = some (.ref fU)) (kU : PySem.W.keepIn K (.ref fU) = true) (GU : FnOk P w K mg base CX0 2 fU fdU ["words"] (spFirst K)) (bU : Binds K fdU ["words"] []) :
    FnR P w K mg base (L2.CX P w) 4 f (fun vs H Q E => ∃ ws rest, vs = ws ++ rest ∧ ws.length = ([] : List Str).length ∧ rest.length ≤ sizeLine ∧ ∀ p, H p = none → spHeardB K C CB (ws ++ [V.ref p]) (upd H p (.tup rest)) Q E) := by
  obtain ⟨oc, od, kV, doc, pm, an, cdv, ct, osl, rfl, lk, hcd⟩ := F.ex
  refine fn_star (k := 3) (ps := []) (pv := "sorts") (N := ["sorts", "index"]) lk hcd scHd cxUp (fun us rest hu => ?_) (fun A outer s H vs Q E hr h => ?_)
  · cases us with
    | nil => cases rest <;> rfl
    | cons _ _ => cases hu
  · obtain ⟨a, xs, rfl, hS, hz, hk, k1, k2, k3⟩ := h
    refine ⟨_, pss_cons (ps_if (pt_not (pt_truth (pv 0) (by intro _; rfl))) (pss_one (ps_raiseErr rfl T hr (takes_of rfl rfl rfl rfl) rfl (pe_tup pa_nil))) pss_nil)
      (pss_cons (ps_set (i := 1) scHd.nd rfl (.inl rfl) (pe_call GU (hr.mono (by decide)) rfl gU kU bU .nil pass0 (pa_cons (pv 0) pa_nil)))
      (pss_cons (ps_if (pt_cmp (pc_notN (pv 1))) (pss_one (ps_raiseErr rfl T hr (takes_of rfl rfl rfl rfl) rfl (pe_ix ix_tup (pv 0) (pv 1) (fun _ _ => rfl)))) pss_nil)
      (pss_one (ps_ret (pe_call GS hr rfl gS kS bS .nil pass0 (pa_cons (pe_tup (pa_cons pe_str (pa_star (pe_callB cr_sortedT (by rfl) so (by decide +kernel) (pa_cons (pv 0) pa_nil)) pa_nil))) pa_nil)))))), ?_⟩
    refine ⟨_, rfl, !xs.isEmpty, .inr (.inl ⟨xs, hS, rfl⟩), ?_⟩
    cases xs with
    | nil =>
      refine iteT ?_
      exact ⟨(by show 0 ≤ sizeLine; decide), fun e he d hd => k1 rfl _ d e (same_new he) upd_same hd⟩
    | cons x0 xt =>
      refine iteF ?_
      have kg : ∀ i x, (x0 :: xt)[i]? = some x → badAt (x0 :: xt) i = true → (∀ j, j < i → badAt (x0 :: xt) j = false) → ∀ H', Same H H' → True := fun _ _ _ _ _ _ _ => True.intro
      refine ⟨_, rfl, a, x0 :: xt, rfl, hS, hk, fun i hi hb hg H1 s1 => ?_, fun hg H1 s1 => ?_⟩
      · refine ⟨_, rfl, _, rfl, ?_⟩
        refine iteT ?_
        refine ⟨_, rfl, _, rfl, a, x0 :: xt, _, _, rfl, rfl, same_sqT s1 hS, atI_nat (List.getElem?_eq_getElem hi), fun d hd => ?_⟩
        exact k2 i _ (List.getElem?_eq_getElem hi) hb hg H1 d s1 hd
      · refine ⟨_, rfl, _, rfl, ?_⟩
        refine iteF ?_
        obtain ⟨zs, ez, k⟩ := k3 (by simp) hg
        refine ⟨_, rfl, a, zs, rfl, (by rw [← ez]; exact same_sqT s1 hS), ?_, fun ys p hp hs hn => ?_⟩
        · have e := congrArg List.length ez
          rw [List.length_map] at e
          omega
        · refine ⟨p, _, rfl, .inr (.inl (.inl upd_same)), ?_⟩
          refine ⟨?_, fun q hq => ?_⟩
          · have e1 := hp.length_eq
            have e2 := congrArg List.length ez
            rw [List.length_map] at e2
            rw [List.length_cons, List.length_append, List.length_map, sizeLine_eq, e1, ← e2]
            show (x0 :: xt).length + 0 + 1 ≤ _
            omega
          · refine ⟨q, "heard" :: ys, rfl, ?_, fun r H' sm hr2 hf => k ys hp hs r H' (s1.trans ((same_new hn).trans ((same_new hq).trans sm))) (s1.free (upd_nn (upd_nn hr2).2).2) hf⟩
            refine .inl (.inl ?_)
            rw [upd_same, List.append_nil]
            rfl
end
end Mv
namespace Mv
open PySem PySem.Spec PySem.W PyProof.Rows L2
section
variable {prog : Program} {w : World} {A : Around} {E : Value → Shared → Prop} {s : Shared} {K : Frag} {x C L f : Addr} {h₀ : Heap} {m : Str → Option Value} {ox : Obj} {od : Option Obj} {b tb : Value}
/-- the inherited != by an own == -/
theorem neTree {Q : Fin → Shared → Prop} (hu : A.units < cLine) (X : K.In s.heap) (I : PySem.W.InstAt s.heap x ox C od) (hs : findIn K (.ref C) "__eq__" = some (some (.ref f))) (hf : isFn K (.ref f) = true)
    (hc : wpAny (model prog w) A (call (.ref f) [.ref x, b]) (fun v s' => ∃ k, v = .bool k ∧ Q (.done (.ret (.bool (!k)))) s') E s) :
    wpAny (model prog w) A (Builtin.«object.__ne__» ⟨[.ref x, b], []⟩) Q E s := by
  unfold Builtin.«object.__ne__»
  refine wpAny_bind (wpAny_of_eq (a := (.ref x, [b])) (by first | rfl | kernel_rfl) ?_)
  refine wpAny_bind (wpAny_cRoomFor hu ?_)
  refine wpAny_bind (ifBound_K X I hs hf (wpAny_mono hc (fun r s' hr => ?_) fun _ _ e => e))
  obtain ⟨k, rfl, q⟩ := hr
  exact wpAny_bind (wpAny_truthy_bool (wpAny_pure q))
theorem ifBound_ne {Q : Option Value → Shared → Prop} (X : K.In s.heap) (I : PySem.W.InstAt s.heap x ox C od) (hne : findIn K (.ref C) "__ne__" = some (some (.builtin "object.__ne__")))
    (h : wpAny (model prog w) A (call (.builtin "object.__ne__") [.ref x, b]) (fun v => Q (some v)) E s) : wpAny (model prog w) A (callSpecialIfBound? (.ref x) "__ne__" [b]) Q E s := by
  have hb := PySem.F.slot_enumerate_ne.bind (.ref x)
  simp only [callSpecialIfBound?, bindSpecialIfBound?]
  refine wpAny_holding (wpAny_bind (wpAny_bind (wpAny_bind (I.type.here ((looks_findIn X hne).here (wpAny_bind (wpAny_askSetting (wpAny_ite ?_))))))))
  have fin : wpAny (model prog w) A (call (.builtin "object.__ne__") ([.ref x] ++ [b]) >>= fun v => pure (some v)) Q E s := wpAny_bind (wpAny_mono h (fun v s' q => wpAny_pure q) fun _ _ q => q)
  split
  · exact wpAny_bind (wpAny_of_eq hb (wpAny_pure (by exact fin)))
  · exact wpAny_tryCatch (wpAny_bind (wpAny_of_eq hb (wpAny_pure (by exact fin))))
theorem ne_K {Q : Value → Shared → Prop} (hu : A.units + 1 < cLine) (Fh : Fr h₀ L s.heap m) (X₀ : K.In h₀) (I : PySem.W.InstAt s.heap x ox C od) (hb : Looks (model prog w) s.heap (typeOf b) tb) (hn : notFirst K C tb = true)
    (hne : findIn K (.ref C) "__ne__" = some (some (.builtin "object.__ne__"))) (hob : subIn K (.ref C) (.type "object") = some true) (hs : findIn K (.ref C) "__eq__" = some (some (.ref f))) (hf : isFn K (.ref f) = true)
    (h : wpAny (model prog w) A.in1 (call (.ref f) [.ref x, b]) (fun v s' => ∃ k, v = .bool k ∧ Q (.bool (!k)) s') E s) : wpAny (model prog w) A (compareOp .NotEq (.ref x) b) Q E s := by
  have X := X₀.keeps Fh.keep
  have sub : Looks (model prog w) s.heap (isInstance (.ref x) (.type "object")) true := I.type.andThen (looks_subIn X hob)
  have one : wpAny (model prog w) A (tryCompare (.ref x) "__ne__" b) (fun r s' => ∃ v, r = some v ∧ Q v s') E s := by
    unfold tryCompare
    refine wpAny_bind (ifBound_ne X I hne (wpAny_call (codeAny_call_builtin PySem.F.slot_enumerate_ne.plain F.cmpEntry_ne (PySem.W.check_slot F.cmpKind_ne F.cmpSplit_ne sub (F.cmpArgs_ne _ _) ?_))))
    refine neTree (A := A.in1) hu X I hs hf (wpAny_mono h (fun v s' hv => ?_) fun _ _ e => e)
    obtain ⟨k, rfl, q⟩ := hv
    exact ⟨k, rfl, wpAny_pure ⟨_, rfl, q⟩⟩
  show wpAny (model prog w) A (richCompare .NotEq (.ref x) b) Q E s
  have e1 : (cmpInfo .NotEq).2.1 = "__ne__" := rfl
  unfold richCompare
  simp only [oneThing_ref]
  refine wpAny_holding (wpAny_bind (wpAny_cRoomFor (Nat.lt_of_succ_lt hu) (wpAny_bind (I.type.here (wpAny_bind (hb.here ?_))))))
  split
  · rename_i q
    have e : subIn K tb (.ref C) = some false := by
      rcases Bool.or_eq_true_iff.mp hn with e | e
      · rw [beq_iff_eq.mp e] at q
        simp at q
      · exact beq_iff_eq.mp e
    refine wpAny_bind ((looks_subIn X e).here ?_)
    simp only [Bool.false_eq_true, if_false]
    refine wpAny_bind (wpAny_mono one (fun r s' ⟨v, hr, q⟩ => ?_) fun _ _ e => e)
    subst hr
    exact wpAny_pure q
  · refine wpAny_bind (wpAny_pure ?_)
    simp only [Bool.false_eq_true, if_false]
    refine wpAny_bind (wpAny_mono one (fun r s' ⟨v, hr, q⟩ => ?_) fun _ _ e => e)
    subst hr
    exact wpAny_pure q
end
section
variable {X : Cx} {C f : Addr} {sp : Sp}
/-- an instance of the class at C, by its own == : the def at f, of the promise sp -/
def OwnEqR (K : Frag) (C : Addr) (sp : Sp) (neg : Bool) : R2 := fun x y H Q => ∃ (a dx : Addr) (fs : List (Str × V)) (t : Value), x = .ref a ∧ H a = some (.ins C dx fs) ∧ TyX K H y t ∧ notFirst K C t = true ∧ sp [x, y] H (fun v H' => ∃ k, v = .bl k ∧ Q (.bl (if neg then !k else k)) H') (fun _ _ _ => False)
theorem looks_ty {pins : List (Addr × Obj)} {σ : L2.St} {H : Hp} {s : Shared} {y : V} {u t : Value} (I : Inv X pins σ H s) (ry : RelV y u) (ty : TyX X.K H y t) : Looks (model X.prog X.w) s.heap (typeOf u) t := by
  obtain ⟨Pp, Z, p, -⟩ := kit_of I ry ty
  exact Z.ty _ _ I.kIn p
variable {k : Nat} {fd : FuncData} {ps : List Str}
theorem op_ownEq (G : FnOk X.prog X.w X.K X.mg X.base CX0 k f fd ps sp) (hb : Binds X.K fd ps []) (hr : Room k X.A) (hs : findIn X.K (.ref C) "__eq__" = some (some (.ref f))) (hf : isFn X.K (.ref f) = true) : OpR X (compareOp .Eq) (OwnEqR X.K C sp false) := by
  intro pins s σ H x y v u Q I rx ry h
  obtain ⟨a, dx, fs, t, rfl, ha, ty, hn, q⟩ := h
  cases rx
  obtain ⟨mA, J, _⟩ := ins_get I.hok ha
  obtain ⟨od, J, _⟩ := J.look
  obtain ⟨m, hF⟩ := I.fr
  show wpAny (model X.prog X.w) X.A (richCompare .Eq (.ref a) u) (EP X pins σ Q) X.xe s
  refine cmp_K (op := .Eq) (tb := t) hr.units0 hF I.ok.mod.kin J (looks_ty I ry ty) hn hs hf ?_
  have r2 : Vals [V.ref a, y] [Value.ref a, u] := .cons rfl (.cons ry .nil)
  have q2 : sp ([V.ref a, y] ++ []) H (fun v H' => ∃ k, v = .bl k ∧ Q (.bl k) H') E0 := q
  refine wpAny_mono (run_fn G hr hb .nil pass0 I r2 q2) (fun r s' z => ?_) fun _ _ z => z
  obtain ⟨v', H', I', rv, k', ev, q'⟩ := z
  subst ev
  cases rv
  exact ⟨.bl k', H', I', rfl, q'⟩
theorem op_ownNe (G : FnOk X.prog X.w X.K X.mg X.base CX0 k f fd ps sp) (hb : Binds X.K fd ps []) (hr : Room (k + 1) X.A) (hs : findIn X.K (.ref C) "__eq__" = some (some (.ref f))) (hf : isFn X.K (.ref f) = true)
    (hne : findIn X.K (.ref C) "__ne__" = some (some (.builtin "object.__ne__"))) (hob : subIn X.K (.ref C) (.type "object") = some true) : OpR X (compareOp .NotEq) (OwnEqR X.K C sp true) := by
  intro pins s σ H x y v u Q I rx ry h
  obtain ⟨a, dx, fs, t, rfl, ha, ty, hn, q⟩ := h
  cases rx
  obtain ⟨mA, J, _⟩ := ins_get I.hok ha
  obtain ⟨od, J, _⟩ := J.look
  obtain ⟨m, hF⟩ := I.fr
  refine ne_K (tb := t) (hu_of hr) hF I.ok.mod.kin J (looks_ty I ry ty) hn hne hob hs hf ?_
  have e0 : Env0 X.prog X.w X.K X.mg X.base X.A.in1 X.stack s H := by
    have e := I.env0
    exact ⟨e.frames, e.mod, e.bs, e.bsz, e.funs, e.frf, e.hok, e.bare⟩
  have r2 : Vals [V.ref a, y] [Value.ref a, u] := .cons rfl (.cons ry .nil)
  have hl := G.len _ _ _ _ q
  have hb2 := hb s [.ref a, u] I.kIn (by simpa using hl)
  refine wpAny_call (codeAny_mono (G.run X.A.in1 X.stack s H ⟨[.ref a, u], []⟩ [.ref a, u] [.ref a, y] _ _ hr.in1 e0 (by simpa using hb2) r2 q) fun r s' z => ?_)
  cases r with
  | error e => exact (show False from z).elim
  | ok fl =>
    cases fl with
    | ret v =>
      obtain ⟨v', H', I', rv, k', ev, q'⟩ := I.after z
      subst ev
      cases rv
      exact ⟨k', rfl, .bl (!k'), H', I', rfl, q'⟩
    | next => exact False.elim z
    | brk => exact False.elim z
    | cont => exact False.elim z
end
end Mv
namespace Mv
open PySem PySem.Spec PyProof.Rows L2
/-! ### forms as data -/
def termD (t : Term) : PyData := .tuple (t.map PyData.str)
def pairD (p : Term × Int) : PyData := .tuple [termD p.1, .int p.2]
def pairsD (ps : Prs) : PyData := .tuple (ps.map pairD)
def okT (t : Term) : Prop := ∀ z ∈ t, PyData.strOk z = true
def okP (ps : Prs) : Prop := ∀ p ∈ ps, okT p.1
theorem dp_strs {K : PySem.W.Frag} {H : Hp} : ∀ (t : List Str), DpAll K H (t.map V.str) (t.map PyData.str)
  | [] => .nil
  | z :: t => .cons (.str z) (dp_strs t)
theorem dp_pair {K : PySem.W.Frag} {H : Hp} {a : Addr} {p : Term × Int} (h : PairAt K H a p) : Dp K H (.ref a) (pairD p) := by
  obtain ⟨b, h1, h2⟩ := h
  exact .tup h1 (.cons (.tup h2 (dp_strs p.1)) (.cons (.int p.2) .nil))
theorem dp_pairs {K : PySem.W.Frag} {H : Hp} : ∀ {as : List Addr} {ps : Prs}, Paired (PairAt K H) as ps → DpAll K H (as.map V.ref) (ps.map pairD)
  | _, _, .nil => .nil
  | _, _, .cons h t => .cons (dp_pair h) (dp_pairs t)
theorem lay_strs : ∀ {t : List Str}, okT t → PyData.canLayAll0 (t.map PyData.str) = true
  | [], _ => rfl
  | z :: t, h => by
    show (PyData.canLay0 (.str z) && PyData.canLayAll0 (t.map PyData.str)) = true
    rw [lay_strs fun y hy => h y (List.mem_cons_of_mem _ hy), Bool.and_true]
    exact h z List.mem_cons_self
theorem depth_strs : ∀ (t : List Str), PyData.depthAll (t.map PyData.str) = 0
  | [] => rfl
  | z :: t => by
    show max (PyData.depth (.str z)) (PyData.depthAll (t.map PyData.str)) = 0
    rw [depth_strs t]
    rfl
theorem lay_pairs : ∀ {ps : Prs}, okP ps → PyData.canLayAll0 (ps.map pairD) = true
  | [], _ => rfl
  | p :: ps, h => by
    show (PyData.canLay0 (pairD p) && PyData.canLayAll0 (ps.map pairD)) = true
    rw [lay_pairs fun y hy => h y (List.mem_cons_of_mem _ hy), Bool.and_true]
    show (PyData.canLayAll0 (p.1.map PyData.str) && (true && true)) = true
    rw [lay_strs (h p List.mem_cons_self)]
    rfl
theorem depth_pairs : ∀ (ps : Prs), PyData.depthAll (ps.map pairD) ≤ 2
  | [] => Nat.zero_le _
  | p :: ps => by
    show max (PyData.depth (pairD p)) (PyData.depthAll (ps.map pairD)) ≤ 2
    have e : PyData.depth (pairD p) = 2 := by
      show max (PyData.depthAll (p.1.map PyData.str) + 1) (max 0 0) + 1 = 2
      rw [depth_strs]
      omega
    have h := depth_pairs ps
    omega
theorem shaped_pairs {ps : Prs} (h : okP ps) : SeqAt.shaped (pairsD ps) = true := by
  unfold SeqAt.shaped
  have e1 : (pairsD ps).canLay0 = true := lay_pairs h
  have e2 : (pairsD ps).depth ≤ 64 := by
    show PyData.depthAll (ps.map pairD) + 1 ≤ 64
    have q := depth_pairs ps
    omega
  rw [e1, decide_eq_true e2]
  rfl
theorem eqv_strs : ∀ (t u : List Str), PyData.eqvAll (t.map PyData.str) (u.map PyData.str) = decide (t = u)
  | [], [] => by simp [PyData.eqvAll]
  | [], _ :: _ => by simp [PyData.eqvAll]
  | _ :: _, [] => by simp [PyData.eqvAll]
  | x :: t, y :: u => by
    show ((x == y) && PyData.eqvAll (t.map PyData.str) (u.map PyData.str)) = _
    rw [eqv_strs t u]
    by_cases h1 : x = y <;> by_cases h2 : t = u <;> simp [h1, h2]
theorem eqv_pair (p q : Term × Int) : PyData.eqv (pairD p) (pairD q) = decide (p = q) := by
  show (PyData.eqvAll (p.1.map PyData.str) (q.1.map PyData.str) && ((p.2 == q.2) && true)) = _
  rw [eqv_strs]
  obtain ⟨t, i⟩ := p
  obtain ⟨u, j⟩ := q
  by_cases h1 : t = u <;> by_cases h2 : i = j <;> simp [h1, h2]
theorem eqv_pairs : ∀ (ps qs : Prs), PyData.eqvAll (ps.map pairD) (qs.map pairD) = decide (ps = qs)
  | [], [] => by simp [PyData.eqvAll]
  | [], _ :: _ => by simp [PyData.eqvAll]
  | _ :: _, [] => by simp [PyData.eqvAll]
  | p :: ps, q :: qs => by
    show (PyData.eqv (pairD p) (pairD q) && PyData.eqvAll (ps.map pairD) (qs.map pairD)) = _
    rw [eqv_pairs ps qs, eqv_pair]
    by_cases h1 : p = q <;> by_cases h2 : ps = qs <;> simp [h1, h2]
/-- what isinstance and == ask of the class -/
structure FQ (K : PySem.W.Frag) (mg : Str → Option Value) (C f : Addr) : Prop where
  ca : PySem.W.findIn K (.ref C) "__class__" = some (some (.builtin "object.__class__"))
  cn : PySem.W.specialIn K (.builtin "object.__class__") "__get__" = some (some (.builtin "getset_descriptor.__get__"))
  ct : PySem.W.takesIn K (.builtin "object.__class__") = some true
  cm : PySem.W.mroIn K C (.type "object") = some true
  kit : PySem.W.kitOne K (.ref C) (.ref C) = some true
  isi : mg "isinstance" = none
  eq : PySem.W.findIn K (.ref C) "__eq__" = some (some (.ref f))
  fn : PySem.W.isFn K (.ref f) = true
  ne : PySem.W.findIn K (.ref C) "__ne__" = some (some (.builtin "object.__ne__"))
  ob : PySem.W.subIn K (.ref C) (.type "object") = some true
/-- form == y -/
def spFEq (K : PySem.W.Frag) (C : Addr) : Sp := fun vs H Q _ => ∃ (p : Addr) (y : V) (ps : Prs) (r : Int), vs = [.ref p, y] ∧ FormAt K C H p ps r ∧ okP ps ∧
  ((∃ (q : Addr) (qs : Prs) (r2 : Int), y = .ref q ∧ FormAt K C H q qs r2 ∧ okP qs ∧ Q (.bl (decide (ps = qs) && decide (r = r2))) H) ∨ ∃ t, TyX K H y t ∧ PySem.W.kitOne K t (.ref C) = some false ∧ Q (.bl false) H)
section
variable {P : Program} {w : World} {K : PySem.W.Frag} {mg : Str → Option Value} {base : Heap} {C : Addr}
theorem ty_form {f : Addr} {H : Hp} {p : Addr} {ps : Prs} {r : Int} (T : FT K mg C) (U : FQ K mg C f) (h : FormAt K C H p ps r) : TyX K H (.ref p) (.ref C) := by
  obtain ⟨dx, tp, as, h1, _⟩ := h.ob
  exact .base (.ins h1 T.cl U.ca U.cn U.ct U.cm)
theorem scFE : FnScope ["self", "other"] ["self", "other"] (defScope sFEq) := ⟨rfl, rfl, rfl, by decide +kernel, rfl, by decide +kernel, by decide +kernel⟩
theorem ok_feq {f : Addr} {fd : FuncData} (F : Fun K "__eq__" "Form.__eq__" sFEq f fd) (T : FT K mg C) (U : FQ K mg C f) : FnOk P w K mg base CX0 1 f fd ["self", "other"] (spFEq K C) := by
  refine F.ok scFE (fun vs H Q E h => ?_) (fun cdv A outer s H vs Q E hr h => ?_)
  · obtain ⟨p, y, ps, r, rfl, _⟩ := h
    rfl
  · obtain ⟨p, y, ps, r, rfl, hp, okp, h⟩ := h
    refine ⟨_, pss_one (ps_ret (pe_and (pe_callB call_isi (by rfl) U.isi (by decide +kernel) (pa_cons (pv 1) (pa_cons (pe_glob (v := .ref C) rfl T.gF rfl) pa_nil)))
      (pe_and (pe_cmpR (op_eqD hr.units) (pe_fld (pv 0) rfl) (pe_fld (pv 1) rfl) (nomark _)) (pe_one (pe_cmpR op_eq (pe_fld (pv 0) rfl) (pe_fld (pv 1) rfl) (nomark _)))))), ?_⟩
    rcases h with ⟨q, qs, r2, rfl, hq, okq, k⟩ | ⟨t, ty, ht, k⟩
    · refine ⟨_, rfl, _, _, _, _, true, rfl, .own C, ty_form T U hq, U.kit, true, rfl, ?_⟩
      refine iteT ?_
      obtain ⟨dx, tp, as, h1, h2, h3⟩ := hp.ob
      obtain ⟨dy, tq, bs, g1, g2, g3⟩ := hq.ob
      refine ⟨_, rfl, p, C, dx, _, _, rfl, h1, T.cl, T.nP, flds_pairs _ _, _, rfl, q, C, dy, _, _, rfl, g1, T.cl, T.nP, flds_pairs _ _, pairsD ps, pairsD qs, .tup h2 (dp_pairs h3), .tup g2 (dp_pairs g3), shaped_pairs okp, shaped_pairs okq, _, rfl, ?_⟩
      have e : PyData.eqv (pairsD ps) (pairsD qs) = decide (ps = qs) := eqv_pairs ps qs
      rw [e]
      by_cases hpq : ps = qs
      · refine ifT (decide_eq_true hpq) ?_
        refine ⟨_, rfl, p, C, dx, _, _, rfl, h1, T.cl, T.nR, flds_rest _ _, _, rfl, q, C, dy, _, _, rfl, g1, T.cl, T.nR, flds_rest _ _, rfl, ?_⟩
        rw [decide_eq_true hpq, Bool.true_and] at k
        have e2 : decide (V.int r = V.int r2) = decide (r = r2) := by
          by_cases h : r = r2 <;> simp [h]
        rw [e2]
        exact k
      · refine ifF (decide_eq_false hpq) ?_
        rw [decide_eq_false hpq] at k
        exact k
    · refine ⟨_, rfl, _, _, _, _, false, rfl, .own C, ty, ht, false, rfl, ?_⟩
      exact iteF k
end
end Mv
namespace Mv
open PySem PySem.Spec PyProof.Rows L2 RZ L2
abbrev sSame : Stmt := top 29
/-! ### isinstance with several classes -/
def kitsB (a : String) : List String → Option Bool
  | [] => some false
  | b :: bs => match kitB a b with
    | some true => some true
    | some false => kitsB a bs
    | none => none
theorem kit_any {K : PySem.W.Frag} {a : String} : ∀ {bs : List String} {r : Bool}, kitsB a bs = some r → PySem.W.kitAny K (.type a) (bs.map Value.type) = some r
  | [], r, h => by
    cases h
    exact kitAny_nil
  | b :: bs, r, h => by
    unfold kitsB at h
    cases e : kitB a b with
    | none =>
      rw [e] at h
      cases h
    | some k =>
      rw [e] at h
      cases k with
      | true =>
        cases h
        exact kitAny_cons (kit_ty e) (fun q => by cases q) fun _ => rfl
      | false => exact kitAny_cons (kit_ty e) (fun _ => kit_any h) fun q => by cases q
theorem cls_tys : ∀ (bs : List String), Paired ClsV (bs.map V.ty) (bs.map Value.type)
  | [] => .nil
  | b :: bs => .cons (.ty b) (cls_tys bs)
theorem ty_lst {K : PySem.W.Frag} {H : Hp} {a : Addr} {xs : List V} (h : SqL K H a xs) : TyX K H (.ref a) (.type "list") := by
  rcases h with h | ⟨o, its, n, hk, hc, _⟩
  · rcases h with h | ⟨o, h⟩
    · exact .base (.lst h)
    · exact .base (.frz h)
  · exact .kList hk hc
theorem ty_tup {K : PySem.W.Frag} {H : Hp} {a : Addr} {xs : List V} (h : SqT K H a xs) : TyX K H (.ref a) (.type "tuple") := by
  rcases h with h | ⟨o, its, n, hk, hc, _⟩
  · rcases h with h | ⟨o, h⟩
    · exact .base (.tup h)
    · exact .fTuple h
  · exact .kTuple hk hc
theorem same_ty {K : PySem.W.Frag} {H H' : Hp} {x : V} {n : String} (s : Same H H') (h : TyX K H x (.type n)) : TyX K H' x (.type n) := by
  cases h with
  | base b =>
    refine .base ?_
    cases b with
    | non => exact .non
    | bl x => exact .bl x
    | int i => exact .int i
    | str z => exact .str z
    | flt z => exact .flt z
    | lst e => exact .lst (s _ _ e)
    | frz e => exact .frz (s _ _ e)
    | tup e => exact .tup (s _ _ e)
    | dK e => exact .dK (s _ _ e)
    | dT e => exact .dT (s _ _ e)
  | byt b => exact .byt b
  | set e => exact .set (s _ _ e)
  | kList e c => exact .kList e c
  | kTuple e c => exact .kTuple e c
  | kDict e c => exact .kDict e c
  | fTuple e => exact .fTuple (s _ _ e)
  | fDict e => exact .fDict (s _ _ e)
theorem walk_zipT {K : PySem.W.Frag} {a b : Addr} {xs ys : List V} (hl : xs.length = ys.length) : Walk (ItzT K a b) xs.length (fun H => SqT K H a xs ∧ SqT K H b ys) (YPair (fun i => xs[i]?) (fun i => ys[i]?)) := by
  refine ⟨fun i _ hi q => ?_, fun _ q => ⟨xs, ys, q.1, q.2, .inl (Nat.le_refl _)⟩, fun i H v H' _ q y => ?_⟩
  · exact ⟨xs, ys, xs[i], ys[i]'(hl ▸ hi), q.1, q.2, by simp [hi], by simp [hl ▸ hi]⟩
  · obtain ⟨T, x, z, h1, h2, h3, h4, h5⟩ := y
    exact ⟨T, x, z, h1, h2, h3, h4 xs q.1, h5 ys q.2⟩
theorem opR_or {X : Cx} {f : Value → Value → Sem Value} {r r' : R2} (h : OpR X f r) (h' : OpR X f r') : OpR X f (fun x y H Q => r x y H Q ∨ r' x y H Q) := fun pins s σ H x y v u Q I rx ry q =>
  q.elim (h pins s σ H x y v u Q I rx ry) (h' pins s σ H x y v u Q I rx ry)
/-! ### alike data -/
/-- found and due are alike, to the depth n -/
inductive SmD (K : PySem.W.Frag) (H : Hp) : Nat → V → V → Prop where
  | int (n : Nat) (i : Int) : SmD K H n (.int i) (.int i)
  | bl (n : Nat) (b : Bool) : SmD K H n (.bl b) (.bl b)
  | non (n : Nat) : SmD K H n .non .non
  | str (n : Nat) (z : Str) : SmD K H n (.str z) (.str z)
  | dic (n : Nat) {a : Addr} (h : H a = some (.dK [])) : SmD K H n (.ref a) (.ref a)
  | lst {n : Nat} {a b : Addr} {xs ys : List V} (h1 : SqL K H a xs) (h2 : SqL K H b ys) (hl : xs.length = ys.length) (hz : xs.length ≤ 1000) (h : ∀ (i : Nat) (x y : V), xs[i]? = some x → ys[i]? = some y → SmD K H n x y) : SmD K H (n + 1) (.ref a) (.ref b)
  | tup {n : Nat} {a b : Addr} {xs ys : List V} (h1 : SqT K H a xs) (h2 : SqT K H b ys) (hl : xs.length = ys.length) (hz : xs.length ≤ 1000) (h : ∀ (i : Nat) (x y : V), xs[i]? = some x → ys[i]? = some y → SmD K H n x y) : SmD K H (n + 1) (.ref a) (.ref b)
theorem SmD.same {K : PySem.W.Frag} {H H' : Hp} {n : Nat} {x y : V} (s : Same H H') (h : SmD K H n x y) : SmD K H' n x y := by
  induction h with
  | int n i => exact .int n i
  | bl n b => exact .bl n b
  | non n => exact .non n
  | str n z => exact .str n z
  | dic n h => exact .dic n (s _ _ h)
  | lst h1 h2 hl hz _ ih => exact .lst (s.seq h1) (s.seq h2) hl hz ih
  | tup h1 h2 hl hz _ ih => exact .tup (same_sqT s h1) (same_sqT s h2) hl hz ih
def spSame (K : PySem.W.Frag) (n : Nat) : Sp := fun vs H Q _ => ∃ x y, vs = [x, y] ∧ SmD K H n x y ∧ ∀ H', Same H H' → Q (.bl true) H'
def spPrev (K : PySem.W.Frag) : Nat → Sp
  | 0 => fun _ _ _ _ => False
  | n + 1 => spSame K n
/-- the type that both have -/
theorem SmD.ty {K : PySem.W.Frag} {H : Hp} {n : Nat} {x y : V} (h : SmD K H n x y) : ∃ t, t ∈ ["int", "bool", "NoneType", "str", "dict", "list", "tuple"] ∧ TyX K H x (.type t) ∧ TyX K H y (.type t) := by
  cases h with
  | int n i => exact ⟨"int", by simp, .base (.int _), .base (.int _)⟩
  | bl n b => exact ⟨"bool", by simp, .base (.bl _), .base (.bl _)⟩
  | non n => exact ⟨"NoneType", by simp, .base .non, .base .non⟩
  | str n z => exact ⟨"str", by simp, .base (.str _), .base (.str _)⟩
  | dic n h => exact ⟨"dict", by simp, .base (.dK h), .base (.dK h)⟩
  | lst h1 h2 hl hz h => exact ⟨"list", by simp, ty_lst h1, ty_lst h2⟩
  | tup h1 h2 hl hz h => exact ⟨"tuple", by simp, ty_tup h1, ty_tup h2⟩
structure ST (mg : Str → Option Value) (f : Addr) : Prop where
  isi : mg "isinstance" = none
  list : mg "list" = none
  tuple : mg "tuple" = none
  len : mg "len" = none
  all : mg "all" = none
  zip : mg "zip" = none
  bool : mg "bool" = none
  int : mg "int" = none
  self : mg "_law_same" = some (.ref f)
section
variable {P : Program} {w : World} {K : PySem.W.Frag} {mg : Str → Option Value} {base : Heap}
theorem scSm : FnScope ["_law_found", "_law_due_here", "_law_left", "_law_right"] ["_law_found", "_law_due_here"] (defScope sSame) := ⟨rfl, rfl, rfl, by decide +kernel, rfl, by decide +kernel, by decide +kernel⟩
theorem same_step {f : Addr} {fd : FuncData} {n k : Nat} (F : Fun K "_law_same" "_law_same" sSame f fd) (T : ST mg f) (b : Binds K fd ["_law_found", "_law_due_here"] []) (G : FnOk P w K mg base CX0 k f fd ["_law_found", "_law_due_here"] (spPrev K n)) : FnOk P w K mg base CX0 (k + 1) f fd ["_law_found", "_law_due_here"] (spSame K n) := by
  refine F.ok scSm (fun vs H Q E h => ?_) (fun cdv A outer s H vs Q E hr h => ?_)
  · obtain ⟨x, y, rfl, _⟩ := h
    rfl
  · obtain ⟨x, y, rfl, hd, kq⟩ := h
    have hkF := F.kp
    refine ⟨_, pss_cons (ps_if (pt_val (pe_callB call_isiT (by rfl) T.isi (by decide +kernel) (pa_cons (pv 1) (pa_cons (pe_tup (pa_cons (pe_bltn (v := .ty "list") (by rfl) T.list (by decide +kernel) rfl) (pa_cons (pe_bltn (v := .ty "tuple") (by rfl) T.tuple (by decide +kernel) rfl) pa_nil))) pa_nil))))
        (pss_cons (ps_if (PW.pt (pw_or (pt_cmpR op_ne (pe_callB call_isi (by rfl) T.isi (by decide +kernel) (pa_cons (pv 0) (pa_cons (pe_bltn (v := .ty "list") (by rfl) T.list (by decide +kernel) rfl) pa_nil))) (pe_callB call_isi (by rfl) T.isi (by decide +kernel) (pa_cons (pv 1) (pa_cons (pe_bltn (v := .ty "list") (by rfl) T.list (by decide +kernel) rfl) pa_nil))) (nomark _))
            (pw_or1 (pt_cmpR op_ne (pe_callB call_isi (by rfl) T.isi (by decide +kernel) (pa_cons (pv 0) (pa_cons (pe_bltn (v := .ty "tuple") (by rfl) T.tuple (by decide +kernel) rfl) pa_nil))) (pe_callB call_isi (by rfl) T.isi (by decide +kernel) (pa_cons (pv 1) (pa_cons (pe_bltn (v := .ty "tuple") (by rfl) T.tuple (by decide +kernel) rfl) pa_nil))) (nomark _))))) (pss_one (ps_ret pe_bl)) pss_nil)
          (pss_one (ps_ret (pe_and (pe_cmpR op_eq (pe_callB call_len_seq (by rfl) T.len PySem.boot_len (pa_cons (pv 0) pa_nil)) (pe_callB call_len_seq (by rfl) T.len PySem.boot_len (pa_cons (pv 1) pa_nil)) (nomark _))
            (pe_one (pe_callB (cr_all rfl) (by rfl) T.all (by decide +kernel) (pa_cons (pe_lc (own := [("_law_left", 2), ("_law_right", 3)]) (g := gTup _ 2 (gCons (gName 2) (gCons (gName 3) gNil))) (tt := tYes) rfl scSm.nd (pi_zipA (by rfl) T.zip (pa_cons (pv 0) (pa_cons (pv 1) pa_nil)))
              (blkOk_by (N := ["_law_found", "_law_due_here", "_law_left", "_law_right"]) (sc := defScope sSame) (by decide +kernel))
              (fun _ _ _ _ _ => pg_tup rfl (pgs_cons (pg_name (i := 2) scSm.nd rfl (Or.inl rfl)) (pgs_cons (pg_name (i := 3) scSm.nd rfl (Or.inl rfl)) pgs_nil))) (fun _ _ _ _ _ => pts_nil)
              (fun _ _ _ _ _ => pe_call G hr rfl T.self hkF b .nil pass0 (pa_cons (pv 2) (pa_cons (pv 3) pa_nil)))) pa_nil)))))))
        pss_nil)
      (pss_cons (ps_if (pt_val (pe_callB call_isiT (by rfl) T.isi (by decide +kernel) (pa_cons (pv 1) (pa_cons (pe_tup (pa_cons (pe_bltn (v := .ty "bool") (by rfl) T.bool (by decide +kernel) rfl) (pa_cons (pe_bltn (v := .ty "int") (by rfl) T.int (by decide +kernel) rfl) pa_nil))) pa_nil))))
        (pss_one (ps_ret (pe_and (pe_callB call_isi (by rfl) T.isi (by decide +kernel) (pa_cons (pv 0) (pa_cons (pe_bltn (v := .ty "int") (by rfl) T.int (by decide +kernel) rfl) pa_nil)))
          (pe_and (pe_cmpR op_eq (pe_callB call_isi (by rfl) T.isi (by decide +kernel) (pa_cons (pv 0) (pa_cons (pe_bltn (v := .ty "bool") (by rfl) T.bool (by decide +kernel) rfl) pa_nil))) (pe_callB call_isi (by rfl) T.isi (by decide +kernel) (pa_cons (pv 1) (pa_cons (pe_bltn (v := .ty "bool") (by rfl) T.bool (by decide +kernel) rfl) pa_nil))) (nomark _))
            (pe_one (pe_cmpR op_eq (pv 0) (pv 1) (nomark _))))))) pss_nil)
      (pss_one (ps_ret (pe_and (pe_not (pe_callB call_isiT (by rfl) T.isi (by decide +kernel) (pa_cons (pv 0) (pa_cons (pe_tup (pa_cons (pe_bltn (v := .ty "bool") (by rfl) T.bool (by decide +kernel) rfl) (pa_cons (pe_bltn (v := .ty "int") (by rfl) T.int (by decide +kernel) rfl) (pa_cons (pe_bltn (v := .ty "list") (by rfl) T.list (by decide +kernel) rfl) (pa_cons (pe_bltn (v := .ty "tuple") (by rfl) T.tuple (by decide +kernel) rfl) pa_nil))))) pa_nil))))
        (pe_one (pe_cmpR (opR_or op_eq (op_eq_dictA hr.units0)) (pv 0) (pv 1) (nomark _))))))), ?_⟩
    cases hd with
    | int n i =>
      refine ⟨_, rfl, (by show 2 ≤ sizeLine; decide), fun tp ht => ?_⟩
      refine ⟨_, tp, [.ty "list", .ty "tuple"], _, _, false, rfl, upd_same, cls_tys ["list", "tuple"], .base (.int i), kit_any (bs := ["list", "tuple"]) (by decide +kernel), false, rfl, ?_⟩
      refine iteF ?_
      refine ⟨_, rfl, (by show 2 ≤ sizeLine; decide), fun tq hq => ?_⟩
      have sm := (same_new (o := .tup [.ty "list", .ty "tuple"]) ht).trans (same_new (o := .tup [.ty "bool", .ty "int"]) hq)
      refine ⟨_, tq, [.ty "bool", .ty "int"], _, _, true, rfl, upd_same, cls_tys ["bool", "int"], .base (.int i), kit_any (bs := ["bool", "int"]) (by decide +kernel), true, rfl, ?_⟩
      refine iteT ?_
      refine ⟨_, rfl, _, _, _, _, true, rfl, .ty "int", .base (.int i), kit_ty (by decide +kernel), true, rfl, ?_⟩
      refine iteT ?_
      refine ⟨_, rfl, _, _, _, _, false, rfl, .ty "bool", .base (.int i), kit_ty (by decide +kernel), _, rfl, _, _, _, _, false, rfl, .ty "bool", .base (.int i), kit_ty (by decide +kernel), rfl, _, rfl, ?_⟩
      refine iteT ?_
      refine ⟨_, rfl, _, rfl, rfl, ?_⟩
      rw [decide_eq_true rfl]
      exact kq _ sm
    | bl n i =>
      refine ⟨_, rfl, (by show 2 ≤ sizeLine; decide), fun tp ht => ?_⟩
      refine ⟨_, tp, [.ty "list", .ty "tuple"], _, _, false, rfl, upd_same, cls_tys ["list", "tuple"], .base (.bl i), kit_any (bs := ["list", "tuple"]) (by decide +kernel), false, rfl, ?_⟩
      refine iteF ?_
      refine ⟨_, rfl, (by show 2 ≤ sizeLine; decide), fun tq hq => ?_⟩
      have sm := (same_new (o := .tup [.ty "list", .ty "tuple"]) ht).trans (same_new (o := .tup [.ty "bool", .ty "int"]) hq)
      refine ⟨_, tq, [.ty "bool", .ty "int"], _, _, true, rfl, upd_same, cls_tys ["bool", "int"], .base (.bl i), kit_any (bs := ["bool", "int"]) (by decide +kernel), true, rfl, ?_⟩
      refine iteT ?_
      refine ⟨_, rfl, _, _, _, _, true, rfl, .ty "int", .base (.bl i), kit_ty (by decide +kernel), true, rfl, ?_⟩
      refine iteT ?_
      refine ⟨_, rfl, _, _, _, _, true, rfl, .ty "bool", .base (.bl i), kit_ty (by decide +kernel), _, rfl, _, _, _, _, true, rfl, .ty "bool", .base (.bl i), kit_ty (by decide +kernel), rfl, _, rfl, ?_⟩
      refine iteT ?_
      refine ⟨_, rfl, _, rfl, rfl, ?_⟩
      rw [decide_eq_true rfl]
      exact kq _ sm
    | non n =>
      have ty0 : TyX K H _ (.type _) := .base .non
      refine ⟨_, rfl, (by show 2 ≤ sizeLine; decide), fun tp ht => ?_⟩
      have sm1 := same_new (o := .tup [.ty "list", .ty "tuple"]) ht
      refine ⟨_, tp, [.ty "list", .ty "tuple"], _, _, false, rfl, upd_same, cls_tys ["list", "tuple"], same_ty sm1 ty0, kit_any (bs := ["list", "tuple"]) (by decide +kernel), false, rfl, ?_⟩
      refine iteF ?_
      refine ⟨_, rfl, (by show 2 ≤ sizeLine; decide), fun tq hq => ?_⟩
      have sm2 := sm1.trans (same_new (o := .tup [.ty "bool", .ty "int"]) hq)
      refine ⟨_, tq, [.ty "bool", .ty "int"], _, _, false, rfl, upd_same, cls_tys ["bool", "int"], same_ty sm2 ty0, kit_any (bs := ["bool", "int"]) (by decide +kernel), false, rfl, ?_⟩
      refine iteF ?_
      refine ⟨_, rfl, (by show 4 ≤ sizeLine; decide), fun tr hr3 => ?_⟩
      have sm3 := sm2.trans (same_new (o := .tup [.ty "bool", .ty "int", .ty "list", .ty "tuple"]) hr3)
      refine ⟨_, tr, [.ty "bool", .ty "int", .ty "list", .ty "tuple"], _, _, false, rfl, upd_same, cls_tys ["bool", "int", "list", "tuple"], same_ty sm3 ty0, kit_any (bs := ["bool", "int", "list", "tuple"]) (by decide +kernel), ?_⟩
      refine ⟨_, rfl, true, rfl, ?_⟩
      refine iteT ?_
      refine ⟨_, rfl, _, rfl, .inl ⟨rfl, by rw [decide_eq_true rfl]; exact kq _ sm3⟩⟩
    | str n z =>
      have ty0 : TyX K H _ (.type _) := .base (.str z)
      refine ⟨_, rfl, (by show 2 ≤ sizeLine; decide), fun tp ht => ?_⟩
      have sm1 := same_new (o := .tup [.ty "list", .ty "tuple"]) ht
      refine ⟨_, tp, [.ty "list", .ty "tuple"], _, _, false, rfl, upd_same, cls_tys ["list", "tuple"], same_ty sm1 ty0, kit_any (bs := ["list", "tuple"]) (by decide +kernel), false, rfl, ?_⟩
      refine iteF ?_
      refine ⟨_, rfl, (by show 2 ≤ sizeLine; decide), fun tq hq => ?_⟩
      have sm2 := sm1.trans (same_new (o := .tup [.ty "bool", .ty "int"]) hq)
      refine ⟨_, tq, [.ty "bool", .ty "int"], _, _, false, rfl, upd_same, cls_tys ["bool", "int"], same_ty sm2 ty0, kit_any (bs := ["bool", "int"]) (by decide +kernel), false, rfl, ?_⟩
      refine iteF ?_
      refine ⟨_, rfl, (by show 4 ≤ sizeLine; decide), fun tr hr3 => ?_⟩
      have sm3 := sm2.trans (same_new (o := .tup [.ty "bool", .ty "int", .ty "list", .ty "tuple"]) hr3)
      refine ⟨_, tr, [.ty "bool", .ty "int", .ty "list", .ty "tuple"], _, _, false, rfl, upd_same, cls_tys ["bool", "int", "list", "tuple"], same_ty sm3 ty0, kit_any (bs := ["bool", "int", "list", "tuple"]) (by decide +kernel), ?_⟩
      refine ⟨_, rfl, true, rfl, ?_⟩
      refine iteT ?_
      refine ⟨_, rfl, _, rfl, .inl ⟨rfl, by rw [decide_eq_true rfl]; exact kq _ sm3⟩⟩
    | @dic n a hda =>
      have ty0 : TyX K H _ (.type _) := .base (.dK hda)
      refine ⟨_, rfl, (by show 2 ≤ sizeLine; decide), fun tp ht => ?_⟩
      have sm1 := same_new (o := .tup [.ty "list", .ty "tuple"]) ht
      refine ⟨_, tp, [.ty "list", .ty "tuple"], _, _, false, rfl, upd_same, cls_tys ["list", "tuple"], same_ty sm1 ty0, kit_any (bs := ["list", "tuple"]) (by decide +kernel), false, rfl, ?_⟩
      refine iteF ?_
      refine ⟨_, rfl, (by show 2 ≤ sizeLine; decide), fun tq hq => ?_⟩
      have sm2 := sm1.trans (same_new (o := .tup [.ty "bool", .ty "int"]) hq)
      refine ⟨_, tq, [.ty "bool", .ty "int"], _, _, false, rfl, upd_same, cls_tys ["bool", "int"], same_ty sm2 ty0, kit_any (bs := ["bool", "int"]) (by decide +kernel), false, rfl, ?_⟩
      refine iteF ?_
      refine ⟨_, rfl, (by show 4 ≤ sizeLine; decide), fun tr hr3 => ?_⟩
      have sm3 := sm2.trans (same_new (o := .tup [.ty "bool", .ty "int", .ty "list", .ty "tuple"]) hr3)
      refine ⟨_, tr, [.ty "bool", .ty "int", .ty "list", .ty "tuple"], _, _, false, rfl, upd_same, cls_tys ["bool", "int", "list", "tuple"], same_ty sm3 ty0, kit_any (bs := ["bool", "int", "list", "tuple"]) (by decide +kernel), ?_⟩
      refine ⟨_, rfl, true, rfl, ?_⟩
      refine iteT ?_
      refine ⟨_, rfl, _, rfl, .inr ⟨a, a, [], [], rfl, rfl, sm3 _ _ hda, sm3 _ _ hda, rfl, (fun p hp => nomatch hp), kq _ sm3⟩⟩
    | @lst n a b xs ys h1 h2 hl hz hh =>
      refine ⟨_, rfl, (by show 2 ≤ sizeLine; decide), fun tp ht => ?_⟩
      have sm1 := same_new (o := .tup [.ty "list", .ty "tuple"]) ht
      have g1 := Same.seq sm1 h1
      have g2 := Same.seq sm1 h2
      refine ⟨_, tp, [.ty "list", .ty "tuple"], _, _, true, rfl, upd_same, cls_tys ["list", "tuple"], ty_lst g2, kit_any (bs := ["list", "tuple"]) (by decide +kernel), true, rfl, ?_⟩
      refine iteT ?_
      refine ⟨_, rfl, _, _, _, _, true, rfl, .ty "list", ty_lst g1, kit_ty (by decide +kernel), _, rfl, _, _, _, _, true, rfl, .ty "list", ty_lst g2, kit_ty (by decide +kernel), rfl, _, rfl, ?_⟩
      refine ifF (by simp) ?_
      refine ⟨_, rfl, _, _, _, _, false, rfl, .ty "tuple", ty_lst g1, kit_ty (by decide +kernel), _, rfl, _, _, _, _, false, rfl, .ty "tuple", ty_lst g2, kit_ty (by decide +kernel), rfl, _, rfl, ?_⟩
      refine ifF (by simp) ?_
      refine ⟨_, rfl, a, xs, rfl, .inl g1, _, rfl, b, ys, rfl, .inl g2, rfl, _, rfl, ?_⟩
      refine ifT (by simp [hl]) ?_
      refine ⟨_, rfl, _, rfl, a, b, xs, ys, rfl, .inl ⟨g1, g2, fun D hD => ?_⟩⟩
      refine lc_it (walk_zip (n := xs.length) (by rw [← hl]; simp)) (fun i H' => Same (upd H tp (.tup [.ty "list", .ty "tuple"])) H' ∧ H' D = some (.lst ((List.replicate i true).map V.bl))) ⟨same_new hD, upd_same⟩ (fun i H' _ p => ⟨Same.seq p.1 g1, Same.seq p.1 g2⟩) ?_ ?_
      · rintro i x Hi Hi' hi ⟨sm, hd⟩ ⟨Tp, u, v, rfl, nT, rfl, hu, hv⟩
        refine ⟨Tp, [u, v], rfl, .inl (.inl upd_same), rfl, u, [v], rfl, ?_⟩
        refine ⟨v, [], rfl, rfl, ?_⟩
        refine ⟨rfl, ?_⟩
        unfold tYes
        refine iteT ?_
        have sm2 := sm.trans (same_new (o := .tup [u, v]) nT)
        refine ⟨_, rfl, _, rfl, u, v, rfl, ((hh i u v hu hv).same sm1).same sm2, fun H2 s2 => ?_⟩
        have e : H2 D = some (.lst ((List.replicate i true).map V.bl)) := s2 _ _ (by rw [upd_ne (ne_of_none hd nT)]; exact hd)
        refine ⟨_, e, ?_, same_put (sm2.trans s2) hD, ?_⟩
        · rw [List.length_map, List.length_replicate]
          exact small1000 (by omega)
        · rw [upd_same, List.replicate_succ', List.map_append]
          rfl
      · rintro H2 ⟨sm, hd⟩
        refine ⟨D, List.replicate xs.length true, rfl, SqL.of hd, ?_⟩
        have e : (List.replicate xs.length true).all id = true := by simp
        rw [e]
        exact kq _ (sm1.trans sm)
    | @tup n a b xs ys h1 h2 hl hz hh =>
      refine ⟨_, rfl, (by show 2 ≤ sizeLine; decide), fun tp ht => ?_⟩
      have sm1 := same_new (o := .tup [.ty "list", .ty "tuple"]) ht
      have g1 := same_sqT sm1 h1
      have g2 := same_sqT sm1 h2
      refine ⟨_, tp, [.ty "list", .ty "tuple"], _, _, true, rfl, upd_same, cls_tys ["list", "tuple"], ty_tup g2, kit_any (bs := ["list", "tuple"]) (by decide +kernel), true, rfl, ?_⟩
      refine iteT ?_
      refine ⟨_, rfl, _, _, _, _, false, rfl, .ty "list", ty_tup g1, kit_ty (by decide +kernel), _, rfl, _, _, _, _, false, rfl, .ty "list", ty_tup g2, kit_ty (by decide +kernel), rfl, _, rfl, ?_⟩
      refine ifF (by simp) ?_
      refine ⟨_, rfl, _, _, _, _, true, rfl, .ty "tuple", ty_tup g1, kit_ty (by decide +kernel), _, rfl, _, _, _, _, true, rfl, .ty "tuple", ty_tup g2, kit_ty (by decide +kernel), rfl, _, rfl, ?_⟩
      refine ifF (by simp) ?_
      refine ⟨_, rfl, a, xs, rfl, .inr g1, _, rfl, b, ys, rfl, .inr g2, rfl, _, rfl, ?_⟩
      refine ifT (by simp [hl]) ?_
      refine ⟨_, rfl, _, rfl, a, b, xs, ys, rfl, .inr ⟨g1, g2, fun D hD => ?_⟩⟩
      refine lc_it (walk_zipT hl) (fun i H' => Same (upd H tp (.tup [.ty "list", .ty "tuple"])) H' ∧ H' D = some (.lst ((List.replicate i true).map V.bl))) ⟨same_new hD, upd_same⟩ (fun i H' _ p => ⟨same_sqT p.1 g1, same_sqT p.1 g2⟩) ?_ ?_
      · rintro i x Hi Hi' hi ⟨sm, hd⟩ ⟨Tp, u, v, rfl, nT, rfl, hu, hv⟩
        refine ⟨Tp, [u, v], rfl, .inl (.inl upd_same), rfl, u, [v], rfl, ?_⟩
        refine ⟨v, [], rfl, rfl, ?_⟩
        refine ⟨rfl, ?_⟩
        unfold tYes
        refine iteT ?_
        have sm2 := sm.trans (same_new (o := .tup [u, v]) nT)
        refine ⟨_, rfl, _, rfl, u, v, rfl, ((hh i u v hu hv).same sm1).same sm2, fun H2 s2 => ?_⟩
        have e : H2 D = some (.lst ((List.replicate i true).map V.bl)) := s2 _ _ (by rw [upd_ne (ne_of_none hd nT)]; exact hd)
        refine ⟨_, e, ?_, same_put (sm2.trans s2) hD, ?_⟩
        · rw [List.length_map, List.length_replicate]
          exact small1000 (by omega)
        · rw [upd_same, List.replicate_succ', List.map_append]
          rfl
      · rintro H2 ⟨sm, hd⟩
        refine ⟨D, List.replicate xs.length true, rfl, SqL.of hd, ?_⟩
        have e : (List.replicate xs.length true).all id = true := by simp
        rw [e]
        exact kq _ (sm1.trans sm)
/-- to every depth, by so many levels -/
theorem ok_same {f : Addr} {fd : FuncData} (F : Fun K "_law_same" "_law_same" sSame f fd) (T : ST mg f) (b : Binds K fd ["_law_found", "_law_due_here"] []) : ∀ n, FnOk P w K mg base CX0 (n + 1) f fd ["_law_found", "_law_due_here"] (spSame K n)
  | 0 => same_step (k := 0) F T b ⟨fun _ _ _ _ z => z.elim, fun _ _ _ _ _ _ _ _ _ _ _ _ _ z => z.elim⟩
  | n + 1 => same_step F T b (ok_same F T b n)
end
end Mv
namespace Mv
open PySem PySem.Spec PyProof.Rows L2
abbrev sSource : Stmt := top 26
abbrev sDraw : Stmt := top 27
abbrev sPick : Stmt := top 28
abbrev sSome : Stmt := top 34
def dr (x y z : Int) : HO := .lst [.int x, .int y, .int z]
def spSource (K : PySem.W.Frag) : Sp := fun vs H Q _ => ∃ (a : Addr) (ns : List Int) (i : Nat), vs = [.ref a, .int i] ∧ SqL K H a (ns.map V.int) ∧ i ≤ 1000 ∧ ∀ l x y, H l = none → Q (.ref l) (upd H l (dr x y 0))
def spDraw : Sp := fun vs H Q _ => ∃ (d : Addr) (m x y z : Int), vs = [.ref d, .int m] ∧ H d = some (dr x y z) ∧ 0 < m ∧ m < 1000 ∧ ∀ r x' y' z', 0 ≤ r → r < m → Q (.int r) (upd H d (dr x' y' z'))
structure DT (mg : Str → Option Value) : Prop where
  len : mg "len" = none
  int : mg "int" = none
section
variable {P : Program} {w : World} {K : PySem.W.Frag} {mg : Str → Option Value} {base : Heap}
theorem scSo : FnScope ["_law_script", "_law_place", "_law_cell"] ["_law_script", "_law_place"] (defScope sSource) := ⟨rfl, rfl, rfl, by decide +kernel, rfl, by decide +kernel, by decide +kernel⟩
theorem ok_source {f : Addr} {fd : FuncData} (F : Fun K "_law_source" "_law_source" sSource f fd) (T : DT mg) : FnOk P w K mg base CX0 1 f fd ["_law_script", "_law_place"] (spSource K) := by
  refine F.ok scSo (fun vs H Q E h => ?_) (fun cdv A outer s H vs Q E hr h => ?_)
  · obtain ⟨a, ns, i, rfl, _⟩ := h
    rfl
  · obtain ⟨a, ns, i, rfl, hS, hi, k⟩ := h
    refine ⟨_, pss_cons (ps_set (i := 2) scSo.nd rfl (.inl rfl) (pe_ifExp (pt_cmpR op_lt (pv 1) (pe_callB call_len_seq (by rfl) T.len PySem.boot_len (pa_cons (pv 0) pa_nil)) (nomark _)) (pe_ix ix_list (pv 0) (pv 1) (fun _ _ => rfl)) (pe_op op_add (pe_op op_mul pe_int (pv 1)) pe_int)))
      (pss_one (ps_ret (pe_lst (pa_cons (pe_ifExp (pt_cmpR op_ge (pv 2) (pe_op op_pow pe_int pe_int) (nomark _)) (pv 2) pe_int) (pa_cons (pe_op op_modN (pe_callTy call_int1 (by rfl) T.int (by decide +kernel) (pa_cons (pv 2) pa_nil)) pe_int) (pa_cons pe_int pa_nil)))))), ?_⟩
    refine ⟨_, rfl, _, rfl, a, _, rfl, .inl hS, _, _, rfl, rfl, _, rfl, ?_⟩
    by_cases hlt : (i : Int) < (ns.map V.int).length
    · refine ifT (decide_eq_true hlt) ?_
      have hl2 : i < ns.length := by
        rw [List.length_map] at hlt
        omega
      have hat : (ns.map V.int)[i]? = some (.int ns[i]) := by rw [List.getElem?_map, List.getElem?_eq_getElem hl2]; rfl
      refine ⟨_, rfl, _, rfl, a, _, _, _, rfl, rfl, hS, atI_nat hat, ?_⟩
      refine ⟨_, rfl, _, _, rfl, rfl, ⟨by decide, by decide, by decide⟩, _, _, rfl, rfl, _, rfl, ?_⟩
      refine ite2 (fun _ => ?_) (fun _ => ?_)
      · refine ⟨_, rfl, _, rfl, .inl ⟨_, rfl, _, _, rfl, rfl, (show (2147483629 : Int) ≠ 0 by decide), ?_⟩⟩
        exact ⟨(by show 3 ≤ sizeLine; decide), fun l hl => k l _ _ hl⟩
      · refine ⟨_, rfl, .inl ⟨_, rfl, _, _, rfl, rfl, (show (2147483629 : Int) ≠ 0 by decide), ?_⟩⟩
        exact ⟨(by show 3 ≤ sizeLine; decide), fun l hl => k l _ _ hl⟩
    · refine ifF (decide_eq_false hlt) ?_
      refine ⟨_, rfl, _, _, rfl, rfl, .inl ⟨by decide, by decide⟩, _, _, rfl, rfl, ?_⟩
      refine ⟨_, rfl, _, _, rfl, rfl, ⟨by decide, by decide, by decide⟩, _, _, rfl, rfl, _, rfl, ?_⟩
      refine ite2 (fun _ => ?_) (fun _ => ?_)
      · refine ⟨_, rfl, _, rfl, .inl ⟨_, rfl, _, _, rfl, rfl, (show (2147483629 : Int) ≠ 0 by decide), ?_⟩⟩
        exact ⟨(by show 3 ≤ sizeLine; decide), fun l hl => k l _ _ hl⟩
      · refine ⟨_, rfl, .inl ⟨_, rfl, _, _, rfl, rfl, (show (2147483629 : Int) ≠ 0 by decide), ?_⟩⟩
        exact ⟨(by show 3 ≤ sizeLine; decide), fun l hl => k l _ _ hl⟩
theorem scDw : FnScope ["_law_draws", "_law_many", "_law_found"] ["_law_draws", "_law_many"] (defScope sDraw) := ⟨rfl, rfl, rfl, by decide +kernel, rfl, by decide +kernel, by decide +kernel⟩
theorem fmod_lo {a m : Int} (h : 0 < m) : 0 ≤ a.fmod m := by
  rw [Int.fmod_eq_emod_of_nonneg _ (Int.le_of_lt h)]
  exact Int.emod_nonneg _ (by omega)
theorem fmod_hi {a m : Int} (h : 0 < m) : a.fmod m < m := by
  rw [Int.fmod_eq_emod_of_nonneg _ (Int.le_of_lt h)]
  exact Int.emod_lt_of_pos _ h
theorem ok_draw {f : Addr} {fd : FuncData} (F : Fun K "_law_draw" "_law_draw" sDraw f fd) (T : DT mg) : FnOk P w K mg base CX0 1 f fd ["_law_draws", "_law_many"] spDraw := by
  refine F.ok scDw (fun vs H Q E h => ?_) (fun cdv A outer s H vs Q E hr h => ?_)
  · obtain ⟨d, m, x, y, z, rfl, _⟩ := h
    rfl
  · obtain ⟨d, m, x, y, z, rfl, hd, m0, m1, k⟩ := h
    refine ⟨_, pss_cons (ps_if (pt_cmpR op_gt (pe_ix ix_list (pv 0) pe_int (fun _ _ => rfl)) pe_int (nomark _))
        (pss_cons (ps_set (i := 2) scDw.nd rfl (.inl rfl) (pe_op op_modN (pe_callTy call_int1 (by rfl) T.int (by decide +kernel) (pa_cons (pe_ix ix_list (pv 0) pe_int (fun _ _ => rfl)) pa_nil)) (pv 1)))
        (pss_cons (ps_asg (pe_op op_fdivN (pe_ix ix_list (pv 0) pe_int (fun _ _ => rfl)) (pv 1)) (pg_sub (pv 0) pe_int set_list)) (pss_one (ps_ret (pv 2))))) pss_nil)
      (pss_cons (ps_asg (pe_op op_add (pe_ix ix_list (pv 0) pe_int (fun _ _ => rfl)) pe_int) (pg_sub (pv 0) pe_int set_list))
      (pss_cons (ps_asg (pe_op op_modN (pe_callTy call_int1 (by rfl) T.int (by decide +kernel) (pa_cons (pe_op op_add (pe_op op_add (pe_op op_mul (pe_ix ix_list (pv 0) pe_int (fun _ _ => rfl)) pe_int) (pe_op op_mul (pe_ix ix_list (pv 0) pe_int (fun _ _ => rfl)) pe_int)) pe_int) pa_nil)) pe_int) (pg_sub (pv 0) pe_int set_list))
      (pss_one (ps_ret (pe_op op_modN (pe_callTy call_int1 (by rfl) T.int (by decide +kernel) (pa_cons (pe_op op_add (pe_op op_fdivN (pe_ix ix_list (pv 0) pe_int (fun _ _ => rfl)) pe_int) (pe_ix ix_list (pv 0) pe_int (fun _ _ => rfl))) pa_nil)) (pv 1)))))), ?_⟩
    have mne : m ≠ 0 := by omega
    refine ⟨_, rfl, d, _, 0, _, rfl, rfl, .inl (.inl hd), rfl, _, _, rfl, rfl, _, rfl, ?_⟩
    by_cases hx : 0 < x
    · refine ifT (decide_eq_true hx) ?_
      refine ⟨_, rfl, d, _, 0, _, rfl, rfl, .inl (.inl hd), rfl, .inl ⟨_, rfl, _, rfl, _, _, rfl, rfl, mne, ?_⟩⟩
      refine ⟨_, rfl, d, _, 0, _, rfl, rfl, .inl (.inl hd), rfl, _, rfl, _, _, rfl, rfl, ⟨mne, by omega⟩, ?_⟩
      refine ⟨_, rfl, d, _, 0, 0, rfl, rfl, hd, rfl, ?_⟩
      exact ⟨_, rfl, k _ _ y z (fmod_lo m0) (fmod_hi m0)⟩
    · refine ifF (decide_eq_false hx) ?_
      refine ⟨_, rfl, d, _, 2, _, rfl, rfl, .inl (.inl hd), rfl, _, _, rfl, rfl, ?_⟩
      refine ⟨_, rfl, d, _, 2, 2, rfl, rfl, hd, rfl, ?_⟩
      obtain ⟨H1, e1⟩ : ∃ H1, H1 = upd H d (dr x y (z + 1)) := ⟨_, rfl⟩
      have h1 : H1 d = some (dr x y (z + 1)) := by rw [e1, upd_same]
      show tSeq _ _ _ _ (upd H d (dr x y (z + 1)))
      rw [← e1]
      refine ⟨_, rfl, d, _, 1, _, rfl, rfl, .inl (.inl h1), rfl, _, _, rfl, rfl, .inr ⟨by decide, by decide⟩, ?_⟩
      refine ⟨_, rfl, d, _, 2, _, rfl, rfl, .inl (.inl h1), rfl, _, _, rfl, rfl, .inr ⟨by decide, by decide⟩, ?_⟩
      refine ⟨_, _, rfl, rfl, _, _, rfl, rfl, .inl ⟨_, rfl, _, _, rfl, rfl, (show (2147483629 : Int) ≠ 0 by decide), ?_⟩⟩
      refine ⟨_, rfl, d, _, 1, 1, rfl, rfl, h1, rfl, ?_⟩
      refine ⟨_, rfl, d, _, 1, _, rfl, rfl, .inl (.inl upd_same), rfl, _, _, rfl, rfl, (show (32768 : Int) ≠ 0 ∧ (32768 : Int).natAbs < 1073741824 by decide), ?_⟩
      refine ⟨_, rfl, d, _, 1, _, rfl, rfl, .inl (.inl upd_same), rfl, _, _, rfl, rfl, .inl ⟨_, rfl, _, rfl, _, _, rfl, rfl, mne, ?_⟩⟩
      rw [e1, upd_upd]
      exact k _ x _ (z + 1) (fmod_lo m0) (fmod_hi m0)
end
end Mv
namespace Mv
open PySem PySem.Spec PyProof.Rows L2
theorem sq_upd {K : PySem.W.Frag} {H : Hp} {l d : Addr} {o : HO} {xs : List V} (h : SqL K H l xs) (n : l ≠ d) : SqL K (upd H d o) l xs := by
  rcases h with h | h
  · rcases h with h | ⟨u, h⟩
    · exact .inl (.inl (by rw [upd_ne n]; exact h))
    · exact .inl (.inr ⟨u, by rw [upd_ne n]; exact h⟩)
  · exact .inr h
def spPick (K : PySem.W.Frag) : Sp := fun vs H Q _ => ∃ (d l : Addr) (x y z : Int) (xs : List V), vs = [.ref d, .ref l] ∧ H d = some (dr x y z) ∧ l ≠ d ∧ SqL K H l xs ∧ 0 < xs.length ∧ xs.length < 1000 ∧ ∀ (i : Nat) (v : V) (x' y' z' : Int), xs[i]? = some v → Q v (upd H d (dr x' y' z'))
/-- the heap but for d -/
def But (d : Addr) (H H' : Hp) : Prop := ∀ b o, H b = some o → b ≠ d → H' b = some o
theorem But.refl (d : Addr) (H : Hp) : But d H H := fun _ _ h _ => h
theorem But.trans {d : Addr} {H H1 H2 : Hp} (a : But d H H1) (b : But d H1 H2) : But d H H2 := fun c o h n => b c o (a c o h n) n
theorem But.of {d : Addr} {H H1 : Hp} (a : Same H H1) : But d H H1 := fun c o h _ => a c o h
theorem But.upd {d : Addr} {H : Hp} {o : HO} : But d H (upd H d o) := fun c u h n => by
  rw [upd_ne n]
  exact h
def WORDS : List Str := ["a", "yes", "longword", "jumpkivy", "cdfghlqz", "no", "x"]
def ODDS : List Str := ["", "longwords", "A", "a b", "a1"]
/-- what _law_some gives -/
inductive SomeV (H : Hp) (d : Addr) : V → Prop where
  | str {z : Str} (h : z ∈ WORDS ++ ODDS) : SomeV H d (.str z)
  | non : SomeV H d .non
  | int : SomeV H d (.int 5)
  | bl : SomeV H d (.bl true)
  | tup {a : Addr} (n : a ≠ d) (h : H a = some (.tup [.str "a"])) : SomeV H d (.ref a)
  | lst {a : Addr} (n : a ≠ d) (h : H a = some (.lst [.str "a"])) : SomeV H d (.ref a)
  | dic {a : Addr} (n : a ≠ d) (h : H a = some (.dK [])) : SomeV H d (.ref a)
theorem SomeV.but {H H' : Hp} {d : Addr} {v : V} (b : But d H H') (h : SomeV H d v) : SomeV H' d v := by
  cases h with
  | str h => exact .str h
  | non => exact .non
  | int => exact .int
  | bl => exact .bl
  | tup n h => exact .tup n (b _ _ h n)
  | lst n h => exact .lst n (b _ _ h n)
  | dic n h => exact .dic n (b _ _ h n)
def spSome : Sp := fun vs H Q _ => ∃ (d : Addr) (x y z : Int), vs = [.ref d] ∧ H d = some (dr x y z) ∧ ∀ v H' x' y' z', But d H H' → H' d = some (dr x' y' z') → SomeV H' d v → (∀ b, v = .ref b → H b = none) → Q v H'
section
variable {P : Program} {w : World} {K : PySem.W.Frag} {mg : Str → Option Value} {base : Heap}
theorem scPk : FnScope ["_law_draws", "_law_xs"] ["_law_draws", "_law_xs"] (defScope sPick) := ⟨rfl, rfl, rfl, by decide +kernel, rfl, by decide +kernel, by decide +kernel⟩
theorem ok_pick {f fD : Addr} {fd fdD : FuncData} (F : Fun K "_law_pick" "_law_pick" sPick f fd) (T : DT mg) (gD : mg "_law_draw" = some (.ref fD)) (kD : PySem.W.keepIn K (.ref fD) = true) (GD : FnOk P w K mg base CX0 1 fD fdD ["_law_draws", "_law_many"] spDraw) (bD : Binds K fdD ["_law_draws", "_law_many"] []) :
    FnOk P w K mg base CX0 2 f fd ["_law_draws", "_law_xs"] (spPick K) := by
  refine F.ok scPk (fun vs H Q E h => ?_) (fun cdv A outer s H vs Q E hr h => ?_)
  · obtain ⟨d, l, x, y, z, xs, rfl, _⟩ := h
    rfl
  · obtain ⟨d, l, x, y, z, xs, rfl, hd, nl, hl, l0, l1, k⟩ := h
    refine ⟨_, pss_one (ps_ret (pe_ix ix_list (pv 1) (pe_call GD hr rfl gD kD bD .nil pass0 (pa_cons (pv 0) (pa_cons (pe_callB call_len_seq (by rfl) T.len PySem.boot_len (pa_cons (pv 1) pa_nil)) pa_nil))) (fun _ _ => rfl))), ?_⟩
    refine ⟨_, rfl, _, rfl, _, rfl, l, xs, rfl, .inl hl, d, _, x, y, z, rfl, hd, by omega, by omega, fun r x' y' z' r0 r1 => ?_⟩
    have hi : r.toNat < xs.length := by omega
    have er : ((r.toNat : Nat) : Int) = r := Int.toNat_of_nonneg r0
    have hat := List.getElem?_eq_getElem hi
    refine ⟨l, xs, r, xs[r.toNat], rfl, rfl, sq_upd hl nl, ?_, k _ _ x' y' z' hat⟩
    have q := atI_nat hat
    rw [er] at q
    exact q
theorem scSe : FnScope ["_law_draws", "_law_good", "_law_odd"] ["_law_draws"] (defScope sSome) := ⟨rfl, rfl, rfl, by decide +kernel, rfl, by decide +kernel, by decide +kernel⟩
theorem ok_some {f fD fP : Addr} {fd fdD fdP : FuncData} (F : Fun K "_law_some" "_law_some" sSome f fd) (gD : mg "_law_draw" = some (.ref fD)) (kD : PySem.W.keepIn K (.ref fD) = true) (GD : FnOk P w K mg base CX0 1 fD fdD ["_law_draws", "_law_many"] spDraw) (bD : Binds K fdD ["_law_draws", "_law_many"] [])
    (gP : mg "_law_pick" = some (.ref fP)) (kP : PySem.W.keepIn K (.ref fP) = true) (GP : FnOk P w K mg base CX0 2 fP fdP ["_law_draws", "_law_xs"] (spPick K)) (bP : Binds K fdP ["_law_draws", "_law_xs"] []) :
    FnOk P w K mg base CX0 3 f fd ["_law_draws"] spSome := by
  refine F.ok scSe (fun vs H Q E h => ?_) (fun cdv A outer s H vs Q E hr h => ?_)
  · obtain ⟨d, x, y, z, rfl, _⟩ := h
    rfl
  · obtain ⟨d, x, y, z, rfl, hd, k⟩ := h
    refine ⟨_, pss_cons (ps_set (i := 1) scSe.nd rfl (.inl rfl) (pe_lst (pa_cons pe_str (pa_cons pe_str (pa_cons pe_str (pa_cons pe_str (pa_cons pe_str (pa_cons pe_str (pa_cons pe_str pa_nil)))))))))
      (pss_cons (ps_set (i := 2) scSe.nd rfl (.inl rfl) (pe_lst (pa_cons pe_str (pa_cons pe_str (pa_cons pe_str (pa_cons pe_str (pa_cons pe_str (pa_cons pe_non (pa_cons pe_int (pa_cons (pe_tup (pa_cons pe_str pa_nil)) (pa_cons (pe_lst (pa_cons pe_str pa_nil)) (pa_cons pe_bl (pa_cons pe_dnewK pa_nil)))))))))))))
      (pss_one (ps_ret (pe_ifExp (pt_cmpR op_gt (pe_call GD (hr.mono (by decide)) rfl gD kD bD .nil pass0 (pa_cons (pv 0) (pa_cons pe_int pa_nil))) pe_int (nomark _))
        (pe_call GP hr rfl gP kP bP .nil pass0 (pa_cons (pv 0) (pa_cons (pv 1) pa_nil))) (pe_call GP hr rfl gP kP bP .nil pass0 (pa_cons (pv 0) (pa_cons (pv 2) pa_nil))))))), ?_⟩
    refine ⟨(by show 7 ≤ sizeLine; decide), fun g hg => ?_⟩
    refine ⟨(by show 1 ≤ sizeLine; decide), fun a1 h1 => ?_⟩
    refine ⟨(by show 1 ≤ sizeLine; decide), fun a2 h2 => ?_⟩
    intro a3 h3
    refine ⟨(by show 11 ≤ sizeLine; decide), fun o ho => ?_⟩
    obtain ⟨n21, h2'⟩ := upd_nn h2
    obtain ⟨n32, h3'⟩ := upd_nn h3
    obtain ⟨n31, h3''⟩ := upd_nn h3'
    have ngd : g ≠ d := fun e => by rw [e, hd] at hg; cases hg
    have sm0 : Same H (upd H g (.lst [.str "a", .str "yes", .str "longword", .str "jumpkivy", .str "cdfghlqz", .str "no", .str "x"])) := same_new hg
    obtain ⟨H1, e1⟩ : ∃ H1, H1 = upd H g (.lst [.str "a", .str "yes", .str "longword", .str "jumpkivy", .str "cdfghlqz", .str "no", .str "x"]) := ⟨_, rfl⟩
    rw [← e1] at sm0
    have hd1 : H1 d = some (dr x y z) := sm0 _ _ hd
    have hg1 : H1 g = some (.lst [.str "a", .str "yes", .str "longword", .str "jumpkivy", .str "cdfghlqz", .str "no", .str "x"]) := by rw [e1, upd_same]
    have nd1 : a1 ≠ d := fun e => by
      rw [← e1, e, hd1] at h1
      cases h1
    have nd2 : a2 ≠ d := fun e => by
      rw [← e1, e, hd1] at h2'
      cases h2'
    have nd3 : a3 ≠ d := fun e => by
      rw [← e1, e, hd1] at h3''
      cases h3''
    have n1o : a1 ≠ o := fun e => by
      have q := (upd_nn (upd_nn (upd_nn ho).2).2).1
      exact q e.symm
    have n2o : a2 ≠ o := fun e => (upd_nn (upd_nn ho).2).1 e.symm
    have n3o : a3 ≠ o := fun e => (upd_nn ho).1 e.symm
    rw [← e1] at h1 h2' h3'' ho
    have sm1 := sm0.trans (same_new (o := .tup [.str "a"]) h1)
    rw [← e1] at h2
    have sm2 := sm1.trans (same_new (o := .lst [.str "a"]) h2)
    rw [← e1] at h3
    have sm3 := sm2.trans (same_new (o := .dK []) h3)
    have t3 := (same_new (o := .tup [.str "a"]) h1).trans ((same_new (o := .lst [.str "a"]) h2).trans (same_new (o := .dK []) h3))
    rw [← e1]
    obtain ⟨H3, e3⟩ : ∃ H3, H3 = upd (upd (upd H1 a1 (.tup [.str "a"])) a2 (.lst [.str "a"])) a3 (.dK []) := ⟨_, rfl⟩
    have v1 : H3 a1 = some (.tup [.str "a"]) := by rw [e3, upd_ne (Ne.symm n31), upd_ne (Ne.symm n21), upd_same]
    have v2 : H3 a2 = some (.lst [.str "a"]) := by rw [e3, upd_ne (Ne.symm n32), upd_same]
    have v3 : H3 a3 = some (.dK []) := by rw [e3, upd_same]
    rw [← e3] at sm3 t3 ho
    rw [← e3]
    obtain ⟨H4, e4⟩ : ∃ H4, H4 = upd H3 o (.lst [.str "", .str "longwords", .str "A", .str "a b", .str "a1", .non, .int 5, .ref a1, .ref a2, .bl true, .ref a3]) := ⟨_, rfl⟩
    have t4 : Same H3 H4 := by rw [e4]; exact same_new ho
    have w4 : H4 o = some (.lst [.str "", .str "longwords", .str "A", .str "a b", .str "a1", .non, .int 5, .ref a1, .ref a2, .bl true, .ref a3]) := by rw [e4, upd_same]
    have hd4 : H4 d = some (dr x y z) := t4 _ _ (sm3 _ _ hd)
    have hg4 := t4 _ _ (t3 _ _ hg1)
    have nod : o ≠ d := fun e => by
      rw [e, sm3 _ _ hd] at ho
      cases ho
    rw [← e4]
    refine ⟨_, rfl, d, 6, x, y, z, rfl, hd4, by decide, by decide, fun r x' y' z' r0 r1 => ?_⟩
    have bd : But d H (upd H4 d (dr x' y' z')) := (But.of (sm3.trans t4)).trans But.upd
    refine ⟨_, _, rfl, rfl, _, rfl, ?_⟩
    refine ite2 (fun _ => ?_) (fun _ => ?_)
    · refine ⟨_, rfl, _, rfl, d, g, x', y', z', _, rfl, upd_same, ngd, .inl (.inl (by rw [upd_ne ngd]; exact hg4)), (by show 0 < 7; decide), (by show 7 < 1000; decide), fun i v x2 y2 z2 hv => ?_⟩
      rw [upd_upd]
      obtain ⟨w', hw, rfl⟩ := List.mem_map.mp (show v ∈ WORDS.map V.str from List.mem_of_getElem? hv)
      exact k _ _ x2 y2 z2 ((But.of (sm3.trans t4)).trans But.upd) upd_same (.str (List.mem_append_left _ hw)) (fun b e => nomatch e)
    · refine ⟨_, rfl, _, rfl, d, o, x', y', z', _, rfl, upd_same, nod, .inl (.inl (by rw [upd_ne nod]; exact w4)), (by show 0 < 11; decide), (by show 11 < 1000; decide), fun i v x2 y2 z2 hv => ?_⟩
      rw [upd_upd]
      have kk := k v _ x2 y2 z2 ((But.of (sm3.trans t4)).trans But.upd) upd_same
      have hm := List.mem_of_getElem? hv
      simp only [List.mem_cons, List.not_mem_nil, or_false] at hm
      rcases hm with rfl | rfl | rfl | rfl | rfl | rfl | rfl | rfl | rfl | rfl | rfl
      · exact kk (.str (by decide)) (fun b e => nomatch e)
      · exact kk (.str (by decide)) (fun b e => nomatch e)
      · exact kk (.str (by decide)) (fun b e => nomatch e)
      · exact kk (.str (by decide)) (fun b e => nomatch e)
      · exact kk (.str (by decide)) (fun b e => nomatch e)
      · exact kk .non (fun b e => nomatch e)
      · exact kk .int (fun b e => nomatch e)
      · exact kk (.tup nd1 (by rw [upd_ne nd1]; exact t4 _ _ v1)) (fun b e => by cases e; exact sm0.free h1)
      · exact kk (.lst nd2 (by rw [upd_ne nd2]; exact t4 _ _ v2)) (fun b e => by cases e; exact sm0.free h2')
      · exact kk .bl (fun b e => nomatch e)
      · exact kk (.dic nd3 (by rw [upd_ne nd3]; exact t4 _ _ v3)) (fun b e => by cases e; exact sm0.free h3'')
end
end Mv
namespace Mv
open PySem PySem.Spec PyProof.Rows L2
abbrev sLWord : Stmt := top 31
abbrev sLHeard : Stmt := top 32
abbrev sLDue : Stmt := top 33
/-- a list against the empty list -/
theorem op_eq_nil {X : Cx} (hu : X.A.units + 64 < cLine) : OpR X (compareOp .Eq) (fun x y H Q => ∃ (a b : Addr) (xs : List V), x = .ref a ∧ y = .ref b ∧ H a = some (.lst xs) ∧ H b = some (.lst []) ∧ Q (.bl xs.isEmpty) H) := by
  intro pins s σ H x y v u Q I rx ry h
  obtain ⟨a, b, xs, rfl, rfl, ha, hb, q⟩ := h
  cases xs with
  | nil => exact op_eqD hu pins s σ H (.ref a) (.ref b) v u Q I rx ry ⟨.list [], .list [], .lst (.inl (.inl ha)) .nil, .lst (.inl (.inl hb)) .nil, rfl, rfl, q⟩
  | cons x0 xt =>
    cases rx
    cases ry
    obtain ⟨_, its, n, r1, o1⟩ := I.hok a _ ha
    obtain ⟨_, its2, n2, r2, o2⟩ := I.hok b _ hb
    cases r2
    cases r1 with
    | @cons _ u0 _ us ru rt =>
    show wpAny (model X.prog X.w) X.A (richCompare .Eq (.ref a) (.ref b)) (EP X pins σ Q) X.xe s
    refine wpAny_richCompare_same_room (op := .Eq) ⟨_, o1, rfl⟩ ⟨_, o2, rfl⟩ PySem.F.slot_list_eq (GQ.call_here PySem.F.slot_list_eq ⟨_, o1, rfl⟩ PySem.F.entry_list_eq (PySem.F.args_list_eq_2 _ _) ?_) (by omega)
    exact AutoSeq1.list___eq___list_list_0 a _ n b _ n2 (by simp) X.prog X.w X.A (wants (fun v s' => v ≠ .notImplemented ∧ EP X pins σ Q v s') X.xe) s ⟨o1, o2, (fun z => by cases z), .bl false, H, I.tok _, rfl, q⟩
section
variable {X : Cx} {CX : CXT} {k i : Nat} {f : Addr} {sp : Sp} {E : XK} {x : Str} {e : Expr} {es : List Expr} {t : TA} {p pos : Pos}
theorem pe_callR (F : FnR X.prog X.w X.K X.mg X.base CX k f sp) (hr : Room k X.A) (hk : PySem.W.keepIn X.K (.ref f) = true) (hg : Gl X x) (hm : X.mg x = some (.ref f)) (hx : Passes CX X E) (ha : PA X (e :: es) t) (hd : (x == ("__debug__" : Str)) = false := by decide)
    (he : starEach (e :: es) X.env = (false, eval e X.env) :: starEach es X.env := by rfl) (hpl : (backTo pos (starEach es X.env)).any (·.1) = false := by rfl) :
    PE X (.Call (.Name x p) (e :: es) [] pos) (fun σ H Q => t σ H fun vs H1 => sp vs H1 Q E) := by
  refine ⟨fun pins s σ H Q I h => wpAny_Call_Name_kw (ld_glob I hg hm ?_ hd)⟩
  refine PySem.W.callWith_K (h₀ := X.base) I.ok.mod.kin hk (thn (ha.run pos pins s σ H _ I h) fun us s1 ⟨vs, H1, I1, r, q⟩ => ⟨I1.kIn, ?_⟩) he hpl
  exact wpAny_call (run_fnR F hr hx I1 r q)
theorem pe_callR0 (F : FnR X.prog X.w X.K X.mg X.base CX k f sp) (hr : Room k X.A) (hk : PySem.W.keepIn X.K (.ref f) = true) (hg : Gl X x) (hm : X.mg x = some (.ref f)) (hx : Passes CX X E) (hd : (x == ("__debug__" : Str)) = false := by decide) :
    PE X (.Call (.Name x p) [] [] pos) (fun _ H Q => sp [] H Q E) :=
  ⟨fun pins s σ H Q I h => wpAny_Call_Name_kw (ld_glob I hg hm (PySem.W.callWith_K0 I.kIn hk (wpAny_call (run_fnR (us := []) F hr hx I .nil h))) hd)⟩
end
section
variable {P : Program} {w : World} {K : PySem.W.Frag} {mg : Str → Option Value} {base : Heap} {C CB : Addr}
theorem scLW : FnScope ["_law_thing", "_law_sign"] ["_law_thing"] (defScope sLWord) := ⟨rfl, rfl, rfl, by decide +kernel, rfl, by decide +kernel, by decide +kernel⟩
theorem ok_lword {f : Addr} {fd : FuncData} (F : Fun K "_law_is_word" "_law_is_word" sLWord f fd) (T : WT K mg) : FnOk P w K mg base CX0 1 f fd ["_law_thing"] (spIsWord K) := by
  refine F.ok scLW (fun vs H Q E h => ?_) (fun cdv A outer s H vs Q E hr h => ?_)
  · obtain ⟨x, rfl, _⟩ := h
    rfl
  · obtain ⟨x, rfl, hk, k⟩ := h
    refine ⟨_, pss_cons (ps_if (PW.pt (pw_or (pt_not (pt_val (pe_callB call_isi (by rfl) T.isi (by decide +kernel) (pa_cons (pv 0) (pa_cons (pe_bltn (v := .ty "str") (by rfl) T.str (by decide +kernel) rfl) pa_nil)))))
        (pw_or1 (pt_not (pt_chain op_le op_le pe_int (pe_callB call_len_str (by rfl) T.len PySem.boot_len (pa_cons (pv 0) pa_nil)) pe_int))))) (pss_one (ps_ret pe_bl)) pss_nil)
      (pss_one (ps_ret (pe_callB (cr_all rfl) (by rfl) T.all (by decide +kernel) (pa_cons (pe_lc (own := [("_law_sign", 1)]) (g := gName 1) (tt := tYes) rfl scLW.nd (pi_str (pv 0)) (blkOk_by (N := ["_law_thing", "_law_sign"]) (sc := defScope sLWord) (by decide +kernel))
        (fun _ _ _ _ _ => pg_name (i := 1) scLW.nd rfl (Or.inl rfl)) (fun _ _ _ _ _ => pts_nil) (fun _ _ _ _ _ => pe_cmpR op_in_sign (pv 1) pe_str (by rfl))) pa_nil)))), ?_⟩
    cases hk with
    | oth ty hb hn =>
      refine ⟨_, rfl, _, _, _, _, false, rfl, .ty "str", ty, hb, false, rfl, ?_⟩
      refine iteT ?_
      rw [hn] at k
      exact k H (Same.refl H)
    | @str z hz =>
      refine ⟨_, rfl, _, _, _, _, true, rfl, .ty "str", .base (.str _), kit_ty (by decide +kernel), true, rfl, ?_⟩
      refine iteF ?_
      refine ⟨_, rfl, _, rfl, hz, _, _, rfl, rfl, _, rfl, ?_⟩
      by_cases h1 : (1 : Int) ≤ z.length
      · refine ifT (decide_eq_true h1) ?_
        refine ⟨_, _, rfl, rfl, _, rfl, ?_⟩
        by_cases h2 : (z.length : Int) ≤ 8
        · refine ifF (by simp [h2]) ?_
          refine ⟨_, rfl, z, rfl, fun D hD => ?_⟩
          have e : isW (.str z) = (signs z).all id := by
            show isWS z = _
            unfold isWS
            have a1 : 1 ≤ z.length := by omega
            have a2 : z.length ≤ 8 := by omega
            simp [a1, a2]
          have hlen : z.cps.toList.length = z.length := rfl
          refine lc_it walk_str (fun i H' => Same H H' ∧ H' D = some (.lst (((signs z).take i).map V.bl))) ?_ (fun _ _ _ _ => True.intro) ?_ ?_
          · exact ⟨same_new hD, upd_same⟩
          · rintro i x H1 H1' hi ⟨sm, hd⟩ ⟨eH, c, hc, rfl⟩
            rw [eH]
            have hs : (signs z)[i]? = some (decide (c ∈ LET.cps.toList)) := by
              unfold signs
              rw [List.getElem?_map, Array.getElem?_toList, hc]
              rfl
            refine ⟨rfl, ?_⟩
            unfold tYes
            refine iteT ?_
            refine ⟨_, rfl, c, LET, rfl, rfl, _, hd, ?_, same_put sm hD, ?_⟩
            · rw [List.length_map, List.length_take]
              have h5 : z.cps.size ≤ sizeLine := hz
              exact Nat.lt_of_le_of_lt (Nat.min_le_left _ _) (Nat.lt_of_lt_of_le hi h5)
            · rw [upd_same, take_next hs, List.map_append]
              rfl
          · rintro H1 ⟨sm, hd⟩
            rw [show z.cps.size = (signs z).length from by unfold signs; simp, List.take_length] at hd
            exact ⟨D, signs z, rfl, SqL.of hd, by rw [← e]; exact k H1 sm⟩
        · refine ifT (by simp [h2]) ?_
          have e : isW (.str z) = false := by
            show isWS z = _
            unfold isWS
            have a2 : ¬ z.length ≤ 8 := by omega
            simp [a2]
          rw [e] at k
          exact k H (Same.refl H)
      · refine ifF (decide_eq_false h1) ?_
        refine ⟨_, rfl, ?_⟩
        refine iteT ?_
        have e : isW (.str z) = false := by
          show isWS z = _
          unfold isWS
          have a1 : ¬ 1 ≤ z.length := by omega
          simp [a1]
        rw [e] at k
        exact k H (Same.refl H)
/-- heard, by the values that it is called with -/
theorem heardR {f : Addr} (G : FnR P w K mg base (L2.CX P w) 4 f (fun vs H Q E => ∃ ws rest, vs = ws ++ rest ∧ ws.length = ([] : List Str).length ∧ rest.length ≤ sizeLine ∧ ∀ p, H p = none → spHeardB K C CB (ws ++ [V.ref p]) (upd H p (.tup rest)) Q E)) :
    FnR P w K mg base (L2.CX P w) 4 f (fun xs H Q E => xs.length ≤ 50 ∧ spHeard K C CB xs H Q E) :=
  G.imp fun vs H Q E ⟨h1, h2⟩ => ⟨[], vs, rfl, rfl, (by rw [sizeLine_eq]; omega), h2⟩
/-- _law_heard(row) -/
def spLHeard (K : PySem.W.Frag) (C CB : Addr) : Sp := fun vs H Q E => ∃ (a : Addr) (xs : List V), vs = [.ref a] ∧ H a = some (.lst xs) ∧ xs.length ≤ 4 ∧ ∀ H', Same H H' → spHeard K C CB xs H' Q E
theorem scLH : FnScope ["_law_row"] ["_law_row"] (defScope sLHeard) := ⟨rfl, rfl, rfl, by decide +kernel, rfl, by decide +kernel, by decide +kernel⟩
theorem ok_lheard {f fH : Addr} {fd : FuncData} (F : Fun K "_law_heard" "_law_heard" sLHeard f fd) (len : mg "len" = none) (gH : mg "heard" = some (.ref fH)) (kH : PySem.W.keepIn K (.ref fH) = true)
    (GH : FnR P w K mg base (L2.CX P w) 4 fH (fun xs H Q E => xs.length ≤ 50 ∧ spHeard K C CB xs H Q E)) : FnOk P w K mg base (L2.CX P w) 5 f fd ["_law_row"] (spLHeard K C CB) := by
  refine F.okX scLH (fun vs H Q E h => ?_) (fun cdv A outer s H vs Q E hr h => ?_)
  · obtain ⟨a, xs, rfl, _⟩ := h
    rfl
  · obtain ⟨a, xs, rfl, ha, hl, k⟩ := h
    have tk : Passes (L2.CX P w) (cxOf (L2.CX P w) P w K mg base ["_law_row"] "_law_heard" (defScope sLHeard) f cdv A outer s H E) E := passes_call (takes_of rfl rfl rfl rfl) (fun _ _ _ _ q => q)
    refine ⟨_, pss_cons (ps_if (pt_cmpR (op_eq_nil hr.units) (pv 0) (pe_lst pa_nil) (nomark _)) (pss_one (ps_ret (pe_callR0 GH hr kH rfl gH tk))) pss_nil)
      (pss_cons (ps_if (pt_cmpR op_lt (pe_callB call_len_seq (by rfl) len PySem.boot_len (pa_cons (pv 0) pa_nil)) pe_int (nomark _))
        (pss_one (ps_ret (pe_ifExp (pt_cmpR op_eq (pe_callB call_len_seq (by rfl) len PySem.boot_len (pa_cons (pv 0) pa_nil)) pe_int (nomark _)) (pe_callR GH hr kH rfl gH tk (pa_cons (pe_ix ix_list (pv 0) pe_int (fun _ _ => rfl)) pa_nil))
          (pe_callR GH hr kH rfl gH tk (pa_cons (pe_ix ix_list (pv 0) pe_int (fun _ _ => rfl)) (pa_cons (pe_ix ix_list (pv 0) pe_int (fun _ _ => rfl)) pa_nil)))))) pss_nil)
      (pss_one (ps_ret (pe_ifExp (pt_cmpR op_eq (pe_callB call_len_seq (by rfl) len PySem.boot_len (pa_cons (pv 0) pa_nil)) pe_int (nomark _)) (pe_callR GH hr kH rfl gH tk (pa_cons (pe_ix ix_list (pv 0) pe_int (fun _ _ => rfl)) (pa_cons (pe_ix ix_list (pv 0) pe_int (fun _ _ => rfl)) (pa_cons (pe_ix ix_list (pv 0) pe_int (fun _ _ => rfl)) pa_nil))))
        (pe_callR GH hr kH rfl gH tk (pa_cons (pe_ix ix_list (pv 0) pe_int (fun _ _ => rfl)) (pa_cons (pe_ix ix_list (pv 0) pe_int (fun _ _ => rfl)) (pa_cons (pe_ix ix_list (pv 0) pe_int (fun _ _ => rfl)) (pa_cons (pe_ix ix_list (pv 0) pe_int (fun _ _ => rfl)) pa_nil))))))))), ?_⟩
    refine ⟨_, rfl, (by show 0 ≤ sizeLine; decide), fun p hp => ?_⟩
    have sm := same_new (o := .lst []) hp
    have ha2 := sm _ _ ha
    refine ⟨a, p, xs, rfl, rfl, ha2, upd_same, _, rfl, ?_⟩
    match xs, hl with
    | [], _ =>
      refine iteT ?_
      exact ⟨by simp, k _ sm⟩
    | [x1], _ =>
      refine iteF ?_
      refine ⟨_, rfl, a, _, rfl, .inl (.inl (.inl ha2)), _, _, rfl, rfl, _, rfl, ?_⟩
      refine ifT (by simp) ?_
      refine ⟨_, rfl, a, _, rfl, .inl (.inl (.inl ha2)), rfl, _, rfl, ?_⟩
      refine ifT (by simp) ?_
      exact ⟨_, rfl, a, _, 0, _, rfl, rfl, .inl (.inl ha2), rfl, by simp, k _ sm⟩
    | [x1, x2], _ =>
      refine iteF ?_
      refine ⟨_, rfl, a, _, rfl, .inl (.inl (.inl ha2)), _, _, rfl, rfl, _, rfl, ?_⟩
      refine ifT (by simp) ?_
      refine ⟨_, rfl, a, _, rfl, .inl (.inl (.inl ha2)), rfl, _, rfl, ?_⟩
      refine ifF (by simp) ?_
      exact ⟨_, rfl, a, _, 0, _, rfl, rfl, .inl (.inl ha2), rfl, _, rfl, a, _, 1, _, rfl, rfl, .inl (.inl ha2), rfl, by simp, k _ sm⟩
    | [x1, x2, x3], _ =>
      refine iteF ?_
      refine ⟨_, rfl, a, _, rfl, .inl (.inl (.inl ha2)), _, _, rfl, rfl, _, rfl, ?_⟩
      refine ifF (by simp) ?_
      refine ⟨_, rfl, a, _, rfl, .inl (.inl (.inl ha2)), rfl, _, rfl, ?_⟩
      refine ifT (by simp) ?_
      exact ⟨_, rfl, a, _, 0, _, rfl, rfl, .inl (.inl ha2), rfl, _, rfl, a, _, 1, _, rfl, rfl, .inl (.inl ha2), rfl, _, rfl, a, _, 2, _, rfl, rfl, .inl (.inl ha2), rfl, by simp, k _ sm⟩
    | [x1, x2, x3, x4], _ =>
      refine iteF ?_
      refine ⟨_, rfl, a, _, rfl, .inl (.inl (.inl ha2)), _, _, rfl, rfl, _, rfl, ?_⟩
      refine ifF (by simp) ?_
      refine ⟨_, rfl, a, _, rfl, .inl (.inl (.inl ha2)), rfl, _, rfl, ?_⟩
      refine ifF (by simp) ?_
      exact ⟨_, rfl, a, _, 0, _, rfl, rfl, .inl (.inl ha2), rfl, _, rfl, a, _, 1, _, rfl, rfl, .inl (.inl ha2), rfl, _, rfl, a, _, 2, _, rfl, rfl, .inl (.inl ha2), rfl, _, rfl, a, _, 3, _, rfl, rfl, .inl (.inl ha2), rfl, by simp, k _ sm⟩
    | _ :: _ :: _ :: _ :: _ :: _, h => exact absurd h (by simp)
end
end Mv
namespace Mv
open PySem PySem.Spec PyProof.Rows L2
/-- _law_due(row) -/
def spDue (K : PySem.W.Frag) : Sp := fun vs H Q _ => ∃ (a : Addr) (xs : List V), vs = [.ref a] ∧ H a = some (.lst xs) ∧ xs.length ≤ 50 ∧ (∀ x ∈ xs, ∀ H', Same H H' → Kn K H' x) ∧
  (∀ i x, xs[i]? = some x → badAt xs i = true → (∀ j, j < i → badAt xs j = false) → ∀ p H', Same H H' → H p = none → H' p = some (.tup [.str "word", x]) → Q (.ref p) H') ∧
  (xs = [] → ∀ p e H', Same H H' → H p = none → H' e = some (.tup []) → H' p = some (.tup [.str "word", .ref e]) → Q (.ref p) H') ∧
  (xs ≠ [] → (∀ j, j < xs.length → badAt xs j = false) → ∃ zs : List Str, xs = zs.map V.str ∧ ∀ (ys : List Str) (p l q t : Addr) (H' : Hp), ys.Perm zs → sortedS ys = true → Same H H' → H p = none → H' t = some (.tup ((("heard" : Str) :: ys).map V.str)) → H' q = some (.tup [.ref t, .int 1]) → H' l = some (.lst [.ref q]) → H' p = some (.tup [.str "form", .ref l, .int 0]) → Q (.ref p) H')
section
variable {P : Program} {w : World} {K : PySem.W.Frag} {mg : Str → Option Value} {base : Heap}
theorem scDu : FnScope ["_law_row", "_law_at_index", "_law_thing"] ["_law_row"] (defScope sLDue) := ⟨rfl, rfl, rfl, by decide +kernel, rfl, by decide +kernel, by decide +kernel⟩
theorem ok_due {f fW : Addr} {fd fdW : FuncData} (F : Fun K "_law_due" "_law_due" sLDue f fd) (en : mg "enumerate" = none) (tu : mg "tuple" = none) (so : mg "sorted" = none) (gW : mg "_law_is_word" = some (.ref fW)) (kW : PySem.W.keepIn K (.ref fW) = true)
    (GW : FnOk P w K mg base CX0 1 fW fdW ["_law_thing"] (spIsWord K)) (bW : Binds K fdW ["_law_thing"] []) : FnOk P w K mg base CX0 2 f fd ["_law_row"] (spDue K) := by
  refine F.ok scDu (fun vs H Q E h => ?_) (fun cdv A outer s H vs Q E hr h => ?_)
  · obtain ⟨a, xs, rfl, _⟩ := h
    rfl
  · obtain ⟨a, xs, rfl, hS, hz, hk, kb, ke, kn⟩ := h
    refine ⟨_, pss_cons (ps_for PassesOwn.never rfl (pi_enum (by rfl) en (pa_cons (pv 0) pa_nil)) (pg_tup rfl (pgs_cons (pg_name (i := 1) scDu.nd rfl (Or.inl rfl)) (pgs_cons (pg_name (i := 2) scDu.nd rfl (Or.inl rfl)) pgs_nil)))
        (pss_one (ps_if (PW.pt (pw_or (pt_not (pt_val (pe_call GW hr rfl gW kW bW .nil pass0 (pa_cons (pv 2) pa_nil)))) (pw_or1 (pt_cmpR op_in_seq (pv 2) (pe_slice sl_list (pv 0) po_none (po_some (pv 1))) (by rfl)))))
          (pss_one (ps_ret (pe_tup (pa_cons pe_str (pa_cons (pv 2) pa_nil))))) pss_nil)))
      (pss_one (ps_ret (pe_ifExp (pt_cmpR (op_eq_nil hr.units) (pv 0) (pe_lst pa_nil) (nomark _)) (pe_tup (pa_cons pe_str (pa_cons (pe_tup pa_nil) pa_nil)))
        (pe_tup (pa_cons pe_str (pa_cons (pe_lst (pa_cons (pe_tup (pa_cons (pe_callTy call_tuple_of (by rfl) tu (by decide +kernel) (pa_cons (pe_op op_cat (pe_lst (pa_cons pe_str pa_nil)) (pe_callB cr_sortedS (by rfl) so (by decide +kernel) (pa_cons (pv 0) pa_nil))) pa_nil)) (pa_cons pe_int pa_nil))) pa_nil)) (pa_cons pe_int pa_nil))))))), ?_⟩
    refine ⟨_, rfl, a, xs, rfl, .inl (.inl hS), for_it (walk_enum (K := K) (a := a) (xs := xs)) (fun i σ H' => (∃ u v, σ = [some (.ref a), u, v]) ∧ Same H H' ∧ ∀ j, j < i → badAt xs j = false) ?_ ?_ ?_ ?_⟩
    · exact ⟨⟨none, none, rfl⟩, Same.refl H, fun j hj => absurd hj (Nat.not_lt_zero j)⟩
    · rintro i σ H' _ ⟨_, sm, _⟩
      exact .inl (.inl (sm _ _ hS))
    · rintro i y σ H1 H2 hi ⟨⟨u, v, rfl⟩, sm, good⟩ ⟨Tp, x0, x, rfl, nT, rfl, ex0, hx⟩
      cases ex0
      have sm1 : Same H (upd H1 Tp (.tup [.int (i : Nat), x])) := sm.trans (same_new nT)
      refine ⟨Tp, _, rfl, .inl (.inl upd_same), rfl, _, _, rfl, ?_⟩
      refine ⟨x, [], rfl, rfl, ?_⟩
      refine ⟨x, rfl, x, rfl, hk x (List.mem_of_getElem? hx) _ sm1, fun H2 s2 => ⟨_, rfl, ?_⟩⟩
      have sm2 : Same H H2 := sm1.trans s2
      cases e : isW x with
      | false =>
        refine iteT ?_
        refine iteT ?_
        refine ⟨_, rfl, (by show 2 ≤ sizeLine; decide), fun p hp => kb i x hx ?_ good p _ (sm2.trans (same_new hp)) (sm2.free hp) upd_same⟩
        unfold badAt
        simp [hx, e]
      | true =>
        refine iteF ?_
        obtain ⟨z, rfl⟩ := isW_str e
        refine ⟨_, rfl, _, rfl, _, rfl, _, rfl, a, xs, rfl, .inl (.inl (sm2 _ _ hS)), fun p hp => ?_⟩
        rw [cut_take (Nat.le_of_lt hi)]
        refine ⟨p, _, rfl, .inl (.inl (.inl upd_same)), rfl, good_flat good, _, rfl, ?_⟩
        have sm3 : Same H (upd H2 p (.lst (xs.take i))) := sm2.trans (same_new hp)
        have eb : badAt xs i = inV (.str z) (xs.take i) := by
          unfold badAt
          simp [hx, e]
        cases e2 : inV (.str z) (xs.take i) with
        | true =>
          refine iteT ?_
          exact ⟨_, rfl, (by show 2 ≤ sizeLine; decide), fun p2 hp2 => kb i _ hx (eb.trans e2) good p2 _ (sm3.trans (same_new hp2)) (sm3.free hp2) upd_same⟩
        | false =>
          refine iteF ?_
          refine ⟨⟨_, _, rfl⟩, sm3, fun j hj => ?_⟩
          rcases Nat.lt_succ_iff_lt_or_eq.mp hj with q | q
          · exact good j q
          · rw [q, eb, e2]
    · rintro σ H1 ⟨⟨u, v, rfl⟩, sm, good⟩
      refine ⟨_, rfl, (by show 0 ≤ sizeLine; decide), fun e he => ?_⟩
      have sm1 := sm.trans (same_new (o := .lst []) he)
      refine ⟨a, e, xs, rfl, rfl, sm1 _ _ hS, upd_same, _, rfl, ?_⟩
      cases xs with
      | nil =>
        refine iteT ?_
        refine ⟨(by show 0 ≤ sizeLine; decide), fun e2 he2 => ?_⟩
        have sm2 := sm1.trans (same_new (o := .tup []) he2)
        refine ⟨(by show 2 ≤ sizeLine; decide), fun p hp => ke rfl p e2 _ (sm2.trans (same_new hp)) (sm2.free hp) ?_ upd_same⟩
        rw [upd_ne (fun z => (upd_nn hp).1 z.symm), upd_same]
      | cons x0 xt =>
        refine iteF ?_
        obtain ⟨zs, ez, k⟩ := kn (by simp) good
        refine ⟨(by show 1 ≤ sizeLine; decide), fun l1 h1 => ?_⟩
        have sm2 := sm1.trans (same_new (o := .lst [.str "heard"]) h1)
        have zl : zs.length ≤ 50 := by
          have q := congrArg List.length ez
          rw [List.length_map] at q
          omega
        refine ⟨_, rfl, a, zs, rfl, .inl (.inl (by rw [← ez]; exact sm2 _ _ hS)), by omega, fun ys p2 perm srt h2 => ?_⟩
        have yl : ys.length ≤ 50 := by rw [perm.length_eq]; exact zl
        have sm3 := sm2.trans (same_new (o := .lst (ys.map V.str)) h2)
        refine ⟨l1, p2, _, _, rfl, rfl, (by rw [upd_ne (fun z => (upd_nn h2).1 z.symm), upd_same]), upd_same, (by rw [List.length_map, sizeLine_eq]; show 1 + ys.length ≤ _; omega), fun c hc => ?_⟩
        have sm4 := sm3.trans (same_new (o := .lst ([V.str "heard"] ++ ys.map V.str)) hc)
        refine ⟨c, _, rfl, .inl ⟨.inl (.inl upd_same), fun t ht => ?_⟩⟩
        have sm5 := sm4.trans (same_new (o := .tup ([V.str "heard"] ++ ys.map V.str)) ht)
        refine ⟨(by show 2 ≤ sizeLine; decide), fun q hq => ?_⟩
        have sm6 := sm5.trans (same_new (o := .tup [.ref t, .int 1]) hq)
        refine ⟨(by show 1 ≤ sizeLine; decide), fun l hl => ?_⟩
        have sm7 := sm6.trans (same_new (o := .lst [.ref q]) hl)
        refine ⟨(by show 3 ≤ sizeLine; decide), fun p hp => ?_⟩
        have sm8 := sm7.trans (same_new (o := .tup [.str "form", .ref l, .int 0]) hp)
        have ntq : t ≠ q := fun z => (upd_nn hq).1 z.symm
        have ntl : t ≠ l := fun z => (upd_nn (upd_nn hl).2).1 z.symm
        have nql : q ≠ l := fun z => (upd_nn hl).1 z.symm
        have npl : p ≠ l := (upd_nn hp).1
        have npq : p ≠ q := (upd_nn (upd_nn hp).2).1
        have npt : p ≠ t := (upd_nn (upd_nn (upd_nn hp).2).2).1
        exact k ys p l q t _ perm srt sm8 (sm7.free hp) (by rw [upd_ne (Ne.symm npt), upd_ne ntl, upd_ne ntq, upd_same]; rfl) (by rw [upd_ne (Ne.symm npq), upd_ne nql, upd_same]) (by rw [upd_ne (Ne.symm npl), upd_same]) upd_same
end
end Mv
namespace Mv
open PySem PySem.Spec PyProof.Rows L2 LamX
abbrev sTried : Stmt := top 30
/-- what _law_tried makes of the work's reading -/
def TTt (C CB : Addr) (K : PySem.W.Frag) : (XK → Hp → VK → Prop) → Hp → VK → Prop := fun tl H Q =>
  tl (fun cls d H' => cls = .ref CB ∧ ∃ dd x, d = some dd ∧ H' dd = some (.xd [(("word" : Str), x)]) ∧ ∀ a p H'', H' a = none → Same H' H'' → H' p = none → H'' p = some (.tup [.str "word", x]) → Q (.ref p) H'')
    H (fun v H1 => ∃ (p dx tp : Addr) (r : Int) (xs : List V), v = .ref p ∧ H1 p = some (.ins C dx (flds tp r)) ∧ SqT K H1 tp xs ∧ ∀ l q H2, Same H1 H2 → H1 l = none → H2 l = some (.lst xs) → H1 q = none → H2 q = some (.tup [.str "form", .ref l, .int r]) → Q (.ref q) H2)
abbrev nTried : List Str := ["_law_work", "_law_form", "_law_found", "e"]
section
variable {X : Cx} {C CB fT : Addr} {fdT : FuncData}
theorem scTr : FnScope nTried ["_law_work"] (defScope sTried) := ⟨rfl, rfl, rfl, by decide +kernel, rfl, by decide +kernel, by decide +kernel⟩
theorem tried_gives {g : Addr} {cdg : Value} {q : Str} (hcalm : X.A.handled = none) (T : Err X.prog X.w X.K X.mg X.base "BadWord" CB "word") (U : FT X.K X.mg C) (mt : Meth X.K C "terms" fT) (GT : FnOk X.prog X.w X.K X.mg X.base CX0 1 fT fdT ["self"] (spTerms X.K C)) (bT : Binds X.K fdT ["self"] []) (hr0 : ∀ env, Room 1 (X.A.deeper env)) :
    GivesTo X nTried "_law_tried" (defScope sTried) g cdg (defBody sTried) "_law_work" q (TTt C CB X.K) := by
  intro f c' s H Q tl act hc h
  refine ⟨_, pss_cons (ps_try_as (X := (cxOf C8.CX0 X.prog X.w X.K X.mg X.base nTried "_law_tried" (defScope sTried) g cdg X.A X.stack s H C8.E0).nox) (c := .ref CB) (i := 3) (Wout := fun _ _ _ _ => False)
      (tb := fun W D σ H' => ∃ Ech : XK, (∀ cls d σ' H', Ech cls d H' → W cls d σ' H') ∧ (tSeq (tAsg (tWk fun σZ HZ Q => σZ[0]? = some (some (.ref f)) ∧ HZ c' = some (CodeO c' q) ∧ tl Ech HZ Q) (gName 1)) (tAsg (tTup (tCons (tC (.str "form")) (tCons (tMeth C "terms" (spTerms X.K C) [] E0 (tVar 1) tNil) (tCons (tFld X.K (tVar 1) "rest") tNil)))) (gName 2))) D σ H')
      (ts := fun a cls d D σ H' => σ.length = 4 → (tAsg (tTup (tCons (tC (.str "word")) (tCons (tFldErr CB "word" a cls d (tVar 3)) tNil))) (gName 2)) D σ H')
      rfl rfl scTr.nd rfl rfl ⟨rfl, by decide, .inl T.gC⟩ L2.takes0 (fun W pn xe tk _ => ?_) (fun a oe cls d pn hz hf => ?_)) (pss_one (ps_ret (pv 2))), ?_⟩
  · refine ⟨fun pins s' σ H' D I ⟨Ech, hW, h'⟩ => ?_⟩
    refine PSs.run (X := (cxOf C8.CX0 X.prog X.w X.K X.mg X.base nTried "_law_tried" (defScope sTried) g cdg X.A X.stack s H C8.E0).tr pn xe) ?_ pins s' σ H' D I h'
    exact pss_cons (ps_set (i := 1) scTr.nd rfl (.inl rfl) (pe_wk (act W pn xe Ech _ _ tk hW)))
      (pss_one (ps_set (i := 2) scTr.nd rfl (.inl rfl) (pe_tup (pa_cons pe_str (pa_cons (pe_meth0 (pv 1) U.cl mt GT (hr0 _) bT .nil pass0) (pa_cons (pe_fld (pv 1) rfl) pa_nil))))))
  · refine ⟨fun pins s' σ H' D I h' => ?_⟩
    refine PSs.run (X := ((cxOf C8.CX0 X.prog X.w X.K X.mg X.base nTried "_law_tried" (defScope sTried) g cdg X.A X.stack s H C8.E0).nox).suite a ((a, oe) :: pn)) ?_ pins s' σ H' D I (h' I.len)
    exact pss_one (ps_set (i := 2) scTr.nd rfl (.inl rfl) (pe_tup (pa_cons pe_str (pa_cons (pe_fldErr T hz hf (pv 3)) pa_nil))))
  · refine ⟨_, fun cls d σ' H' hE => ?_, _, ⟨rfl, hc, h⟩, ?_⟩
    · obtain ⟨rfl, dd, x, rfl, hx, k⟩ := hE
      refine ⟨true, T.te, fun _ a ha hlen => ?_, fun z => Bool.noConfusion z⟩
      have h4 : σ'.length = 4 := by
        rw [List.length_set] at hlen
        exact hlen
      have g3 : (σ'.set 3 (some (.ref a)))[3]? = some (some (.ref a)) := List.getElem?_set_self (by omega)
      refine ⟨_, g3, rfl, rfl, dd, x, rfl, hx, (by show 2 ≤ sizeLine; decide), fun p hp => ?_⟩
      refine ⟨.ref p, ?_, k a p _ ha (same_new hp) hp upd_same⟩
      rw [List.getElem?_set_ne (by decide), List.getElem?_set_self (by rw [List.length_set]; omega)]
    · rintro v H1 ⟨p, dx, tp, r, xs, rfl, hp, ht, k⟩
      refine ⟨_, rfl, p, dx, _, rfl, hp, flds_no _ _ (by decide +kernel) (by decide +kernel), p, dx, tp, r, xs, rfl, hp, ht, fun l hl => ?_⟩
      have sm := same_new (o := .lst xs) hl
      refine ⟨_, rfl, p, C, dx, _, _, rfl, sm _ _ hp, U.cl, U.nR, flds_rest _ _, (by show 3 ≤ sizeLine; decide), fun q2 hq => ?_⟩
      refine ⟨.ref q2, rfl, k l q2 _ (sm.trans (same_new hq)) hl ?_ (sm.free hq) upd_same⟩
      rw [upd_ne (fun z => (upd_nn hq).1 z.symm), upd_same]
/-- x(), the slot i holds the def at f -/
theorem pe_callL0 {CX : CXT} {k i : Nat} {f : Addr} {fd : FuncData} {ps : List Str} {sp : Sp} {E : XK} {x : Str} {p pos : Pos} (F : FnOk X.prog X.w X.K X.mg X.base CX k f fd ps sp) (hr : Room k X.A) (hN : X.N[i]? = some x) (hv : Vis X.env.scope x) (hk : PySem.W.keepIn X.K (.ref f) = true) (hb : Binds X.K fd ps []) (hx : Passes CX X E)
    (hdb : (x == ("__debug__" : Str)) = false := by decide) (hcd : (x == ("__classdict__" : Str)) = false := by decide) : PE X (.Call (.Name x p) [] [] pos) (fun σ H Q => σ[i]? = some (some (.ref f)) ∧ sp [] H Q E) := by
  refine ⟨fun pins s σ H Q I ⟨hs, ht⟩ => ?_⟩
  refine wpAny_Call_Name_kw (thn ((pe_var (pos := p) hN hv hdb hcd).run pins s σ H (fun v H1 => v = .ref f ∧ H1 = H) I ⟨.ref f, hs, rfl, rfl⟩) fun u s1 ⟨v, H1, I1, r1, q1⟩ => ?_)
  obtain ⟨rfl, rfl⟩ := q1
  cases r1
  exact PySem.W.callWith_K0 I1.kIn hk (run_fn (us := []) (vs := []) (dvs := []) F hr hb .nil hx I1 .nil ht)
end
section
variable {P : Program} {w : World} {K : PySem.W.Frag} {mg : Str → Option Value} {base : Heap} {C CB fT fM : Addr} {fdT fdM : FuncData} {x : Str}
/-- _law_tried(members) and its like -/
def spTriedC (K : PySem.W.Frag) (fM : Addr) (x : Str) : Sp := fun vs H Q _ => vs = [.ref fM] ∧ ∀ (l q a t : Addr) (H2 : Hp), Same H H2 → H q = none → SqT K H2 t [.str x] → SqT K H2 a [.ref t, .int 1] → H2 l = some (.lst [.ref a]) → H2 q = some (.tup [.str "form", .ref l, .int 0]) → Q (.ref q) H2
theorem ok_triedC {f : Addr} {fd : FuncData} (F : Fun K "_law_tried" "_law_tried" sTried f fd) (T : Err P w K mg base "BadWord" CB "word") (U : FT K mg C) (mt : Meth K C "terms" fT) (GT : FnOk P w K mg base CX0 1 fT fdT ["self"] (spTerms K C)) (bT : Binds K fdT ["self"] [])
    (GM : FnOk P w K mg base CX0 4 fM fdM [] (spConst K C x)) (kM : PySem.W.keepIn K (.ref fM) = true) (bM : Binds K fdM [] []) : FnOk P w K mg base CX0 5 f fd ["_law_work"] (spTriedC K fM x) := by
  refine F.ok scTr (fun vs H Q E h => ?_) (fun cdv A outer s H vs Q E hr h => ?_)
  · obtain ⟨rfl, _⟩ := h
    rfl
  · obtain ⟨rfl, k⟩ := h
    refine ⟨_, pss_cons (ps_try_as (c := .ref CB) (i := 3) (Wout := fun _ _ _ _ => False) (tb := fun W => tSeq (tAsg (fun σZ HZ Q => σZ[0]? = some (some (.ref fM)) ∧ spConst K C x [] HZ Q E0) (gName 1)) (tAsg (tTup (tCons (tC (.str "form")) (tCons (tMeth C "terms" (spTerms K C) [] E0 (tVar 1) tNil) (tCons (tFld K (tVar 1) "rest") tNil)))) (gName 2)))
      (ts := fun a cls d => tAsg (tTup (tCons (tC (.str "word")) (tCons (tFldErr CB "word" a cls d (tVar 3)) tNil))) (gName 2)) rfl rfl scTr.nd rfl rfl ⟨rfl, by decide, .inl T.gC⟩ L2.takes0
        (fun W pn xe tk _ => pss_cons (ps_set (i := 1) scTr.nd rfl (.inl rfl) (pe_callL0 GM hr rfl (.inl rfl) kM bM pass0)) (pss_one (ps_set (i := 2) scTr.nd rfl (.inl rfl) (pe_tup (pa_cons pe_str (pa_cons (pe_meth0 (pv 1) U.cl mt GT (hr.mono (by decide)) bT .nil pass0) (pa_cons (pe_fld (pv 1) rfl) pa_nil)))))))
        (fun a oe cls d pn hz hf => pss_one (ps_set (i := 2) scTr.nd rfl (.inl rfl) (pe_tup (pa_cons pe_str (pa_cons (pe_fldErr T hz hf (pv 3)) pa_nil))))))
      (pss_one (ps_ret (pv 2))), ?_⟩
    refine ⟨rfl, rfl, fun p H1 s1 hp hf => ?_⟩
    obtain ⟨dx, tp, as, h1, h2, h3⟩ := hf.ob
    refine ⟨_, rfl, p, dx, _, rfl, h1, flds_no _ _ (by decide +kernel) (by decide +kernel), p, dx, tp, 0, as.map V.ref, rfl, h1, h2, fun l hl => ?_⟩
    have sm := same_new (o := .lst (as.map V.ref)) hl
    refine ⟨_, rfl, p, C, dx, _, _, rfl, sm _ _ h1, U.cl, U.nR, flds_rest _ _, (by show 3 ≤ sizeLine; decide), fun q2 hq => ?_⟩
    refine ⟨.ref q2, rfl, ?_⟩
    cases h3 with
    | @cons a _ _ _ h4 h5 =>
      cases h5
      obtain ⟨t, g1, g2⟩ := h4
      have sm2 := sm.trans (same_new (o := .tup [.str "form", .ref l, .int 0]) hq)
      have hq1 : H1 q2 = none := (upd_nn hq).2
      refine k l q2 a t _ (s1.trans sm2) (s1.free hq1) (same_sqT sm2 g2) (same_sqT sm2 g1) ?_ upd_same
      rw [upd_ne (fun z => (upd_nn hq).1 z.symm), upd_same]
      rfl
end
end Mv
namespace Mv
open PySem PySem.Spec PyProof.Rows L2 LamX
/-! ### what stays through the law: all but the draws' list and the tables -/
def Fr (d : Addr) (H H' : Hp) : Prop := ∀ b o, H b = some o → b ≠ d → (∀ ps, o ≠ .tbl ps) → H' b = some o
theorem Fr.refl (d : Addr) (H : Hp) : Fr d H H := fun _ _ h _ _ => h
theorem Fr.trans {d : Addr} {H H1 H2 : Hp} (a : Fr d H H1) (b : Fr d H1 H2) : Fr d H H2 := fun c o h n t => b c o (a c o h n t) n t
theorem Fr.same {d : Addr} {H H1 : Hp} (a : Same H H1) : Fr d H H1 := fun c o h _ _ => a c o h
theorem Fr.but {d : Addr} {H H1 : Hp} (a : But d H H1) : Fr d H H1 := fun c o h n _ => a c o h n
theorem Fr.ext {d : Addr} {H H1 : Hp} (a : ExtN H H1) : Fr d H H1 := fun c o h _ t => a c o h t
/-- a list that stays -/
def SqS (K : PySem.W.Frag) (H : Hp) (a d : Addr) (xs : List V) : Prop := ∀ H', Fr d H H' → SqL K H' a xs
theorem SqS.fr {K : PySem.W.Frag} {H H' : Hp} {a d : Addr} {xs : List V} (h : SqS K H a d xs) (f : Fr d H H') : SqS K H' a d xs := fun H2 f2 => h H2 (f.trans f2)
theorem SqS.now {K : PySem.W.Frag} {H : Hp} {a d : Addr} {xs : List V} (h : SqS K H a d xs) : SqL K H a xs := h H (Fr.refl d H)
theorem SqS.of {K : PySem.W.Frag} {H : Hp} {a d : Addr} {xs : List V} (h : SqL K H a xs) (n : H d = none) : SqS K H a d xs := by
  intro H' f
  rcases h with h | h
  · rcases h with h | ⟨u, h⟩
    · exact .inl (.inl (f _ _ h (ne_of_none h n) (fun ps z => by cases z)))
    · exact .inl (.inr ⟨u, f _ _ h (ne_of_none h n) (fun ps z => by cases z)⟩)
  · exact .inr h
/-- the tables stay by what changes but d -/
theorem tabs_but {T : List (Addr × Str)} {H H' : Hp} {d : Addr} {x y z : Int} (t : Tabs T H) (hd : H d = some (dr x y z)) (f : But d H H') : Tabs T H' := by
  intro p hp
  obtain ⟨ps, h1, h2, h3⟩ := t p hp
  have ne : ∀ {b : Addr} {o : HO}, H b = some o → o ≠ dr x y z → b ≠ d := fun {b o} e n z => by
    rw [z, hd] at e
    exact n (Option.some.inj e).symm
  refine ⟨ps, f _ _ h1 (ne h1 fun z => by cases z), h2, fun pos cv hc => ?_⟩
  obtain ⟨c, e1, e2⟩ := h3 pos cv hc
  exact ⟨c, e1, f _ _ e2 (ne e2 fun z => by unfold CodeO dr at z; cases z)⟩
theorem tabs_same {T : List (Addr × Str)} {H H' : Hp} (t : Tabs T H) (f : Same H H') : Tabs T H' := t.ext f
theorem SomeV.fr {H H' : Hp} {d : Addr} {v : V} (b : Fr d H H') (h : SomeV H d v) : SomeV H' d v := by
  cases h with
  | str h => exact .str h
  | non => exact .non
  | int => exact .int
  | bl => exact .bl
  | tup n h => exact .tup n (b _ _ h n fun ps z => by cases z)
  | lst n h => exact .lst n (b _ _ h n fun ps z => by cases z)
  | dic n h => exact .dic n (b _ _ h n fun ps z => by cases z)
theorem words_short : ∀ z ∈ WORDS ++ ODDS, z.length ≤ 9 := by decide +kernel
theorem SomeV.kn {K : PySem.W.Frag} {H : Hp} {d : Addr} {v : V} (h : SomeV H d v) : Kn K H v := by
  cases h with
  | str h => exact .str (Nat.le_trans (words_short _ h) (by show 9 ≤ sizeLine; decide))
  | non => exact .oth (.base .non) (kit_ty (by decide +kernel)) rfl
  | int => exact .oth (.base (.int _)) (kit_ty (by decide +kernel)) rfl
  | bl => exact .oth (.base (.bl _)) (kit_ty (by decide +kernel)) rfl
  | tup n h => exact .oth (.base (.tup h)) (kit_ty (by decide +kernel)) rfl
  | lst n h => exact .oth (.base (.lst h)) (kit_ty (by decide +kernel)) rfl
  | dic n h => exact .oth (.base (.dK h)) (kit_ty (by decide +kernel)) rfl
theorem SomeV.sm {K : PySem.W.Frag} {H : Hp} {d : Addr} {v : V} (h : SomeV H d v) (n : Nat) : SmD K H (n + 2) v v := by
  cases h with
  | str h => exact .str _ _
  | non => exact .non _
  | int => exact .int _ _
  | bl => exact .bl _ _
  | tup _ h =>
    refine .tup (.inl (.inl h)) (.inl (.inl h)) rfl (by decide) fun i x y e1 e2 => ?_
    rw [e1] at e2
    cases e2
    match i, e1 with
    | 0, e1 =>
      cases e1
      exact .str _ _
  | lst _ h =>
    refine .lst (.inl (.inl h)) (.inl (.inl h)) rfl (by decide) fun i x y e1 e2 => ?_
    rw [e1] at e2
    cases e2
    match i, e1 with
    | 0, e1 =>
      cases e1
      exact .str _ _
  | dic _ h => exact .dic _ h
/-! ### defs by their names -/
structure Dn (P : Program) (w : World) (K : PySem.W.Frag) (mg : Str → Option Value) (base : Heap) (CX : CXT) (k : Nat) (x : Str) (ps : List Str) (sp : Sp) : Prop where
  ex : ∃ f fd, FnOk P w K mg base CX k f fd ps sp ∧ mg x = some (.ref f) ∧ PySem.W.keepIn K (.ref f) = true ∧ Binds K fd ps []
section
variable {X : Cx} {CX : CXT} {k j : Nat} {x : Str} {ps : List Str} {sp : Sp} {E : XK} {e : Expr} {es : List Expr} {t : TA} {tc : TE} {p pos : Pos}
theorem pe_d (D : Dn X.prog X.w X.K X.mg X.base CX k x ps sp) (hr : Room j X.A) (hk : k ≤ j) (hg : Gl X x) (hx : Passes CX X E) (ha : PA X (e :: es) t) (hdb : (x == ("__debug__" : Str)) = false := by decide)
    (he : starEach (e :: es) X.env = (false, eval e X.env) :: starEach es X.env := by rfl) (hpl : (backTo pos (starEach es X.env)).any (·.1) = false := by rfl) : PE X (.Call (.Name x p) (e :: es) [] pos) (tCall sp [] E t) := by
  obtain ⟨f, fd, F, hm, kp, b⟩ := D.ex
  exact pe_call F (hr.mono hk) hg hm kp b .nil hx ha hdb he hpl
theorem pe_d0 (D : Dn X.prog X.w X.K X.mg X.base CX k x ps sp) (hr : Room j X.A) (hk : k ≤ j) (hg : Gl X x) (hx : Passes CX X E) (hdb : (x == ("__debug__" : Str)) = false := by decide) : PE X (.Call (.Name x p) [] [] pos) (tCall sp [] E tNil) := by
  obtain ⟨f, fd, F, hm, kp, b⟩ := D.ex
  exact pe_call0 F (hr.mono hk) hg hm kp b .nil hx hdb
/-- a callee picked by an expression that is no name and no attribute: one of the defs that FF tells -/
def tCallP (FF : Addr → Sp → Prop) (E : XK) (tc : TE) (t : TA) : TE := fun σ H Q => tc σ H fun v H1 => ∃ f sp, v = .ref f ∧ FF f sp ∧ t σ H1 fun vs H2 => sp (vs ++ []) H2 Q E
theorem pe_callP {FF : Addr → Sp → Prop} {a b : Expr} (hF : ∀ f sp, FF f sp → ∃ fd ps, FnOk X.prog X.w X.K X.mg X.base CX k f fd ps sp ∧ PySem.W.keepIn X.K (.ref f) = true ∧ Binds X.K fd ps []) (hr : Room k X.A) (hc : PE X (.Subscript a b p) tc) (hx : Passes CX X E) (ha : PA X (e :: es) t)
    (he : starEach (e :: es) X.env = (false, eval e X.env) :: starEach es X.env := by rfl) (hpl : (backTo pos (starEach es X.env)).any (·.1) = false := by rfl) : PE X (.Call (.Subscript a b p) (e :: es) [] pos) (tCallP FF E tc t) := by
  refine ⟨fun pins s σ H Q I h => ?_⟩
  have arm : eval (.Call (.Subscript a b p) (e :: es) [] pos) X.env = (do
      callWith pos (← eval (.Subscript a b p) X.env) [] (backTo pos (starEach (e :: es) X.env)) (backToKw pos (keywordEach [] X.env))) := rfl
  rw [arm]
  refine wpAny_bind (thn (hc.run pins s σ H _ I h) fun u s1 ⟨v, H1, I1, rv, f, sp, ev, hf, ht⟩ => ?_)
  subst ev
  cases rv
  obtain ⟨fd, ps, F, kp, b⟩ := hF f sp hf
  refine PySem.W.callWith_K (h₀ := X.base) I1.ok.mod.kin kp (thn (ha.run pos pins s1 σ H1 _ I1 ht) fun us s2 ⟨vs, H2, I2, r, q⟩ => ⟨I2.kIn, ?_⟩) he hpl
  exact run_fn F hr b .nil hx I2 r q
end
/-! ### statements told by what holds ahead of and behind them -/
def Ho (X : Cx) (st : Stmt) (pre post : L2.St → Hp → Prop) : Prop := ∃ t, PS X st t ∧ ∀ D σ H, pre σ H → (∀ σ' H', post σ' H' → D.nx σ' H') → t D σ H
def Hos (X : Cx) (sts : List Stmt) (pre post : L2.St → Hp → Prop) : Prop := ∃ t, PSs X sts t ∧ ∀ D σ H, pre σ H → (∀ σ' H', post σ' H' → D.nx σ' H') → t D σ H
theorem Ho.cons {X : Cx} {st : Stmt} {r : List Stmt} {a b c : L2.St → Hp → Prop} (h : Ho X st a b) (g : Hos X r b c) : Hos X (st :: r) a c := by
  obtain ⟨t, ht, kt⟩ := h
  obtain ⟨u, hu, ku⟩ := g
  refine ⟨_, C8.pss_cut ht hu, fun D σ H ha k => ⟨b, kt _ σ H ha fun _ _ q => q, fun σ' H' hb => ku D σ' H' hb k⟩⟩
theorem Hos.nil {X : Cx} {a : L2.St → Hp → Prop} : Hos X [] a a := ⟨_, pss_nil, fun _ _ _ ha k => k _ _ ha⟩
end Mv
namespace Mv
open PySem PySem.Spec PyProof.Rows L2 LamX
abbrev sLaw : Stmt := top 35
def forBody : Stmt → List Stmt
  | .For (body := b) .. => b
  | _ => []
def stAt (l : List Stmt) (i : Nat) : Stmt := l.getD i (.Pass ⟨0, 0, 0, 0⟩)
abbrev lawB : List Stmt := defBody sLaw
abbrev oB : List Stmt := forBody (stAt lawB 0)
abbrev iB : List Stmt := forBody (stAt oB 1)
abbrev nLaw : List Str := ["_law_script", "_law_turn", "_law_draws", "_law_kind", "_law_thing", "_law_due_here", "_law_row", "_law_k", "_law_forms", "_law_one", "_law_other", "_law_j", "_law_told", "_law_name"]
theorem scLa : FnScope nLaw ["_law_script"] (defScope sLaw) := ⟨rfl, rfl, rfl, by decide +kernel, rfl, by decide +kernel, by decide +kernel⟩
abbrev LX (P : Program) (w : World) (K : PySem.W.Frag) (mg : Str → Option Value) (base : Heap) (f c : Addr) (A : Around) (outer : List Env) (s : Shared) (H : Hp) (E : XK) : Cx := (cxOf C8.CX0 P w K mg base nLaw "law" (defScope sLaw) f (.ref c) A outer s H E).nox
abbrev qLam : Str := "law.<locals>.<lambda>"
/-- what the law asks of the module -/
structure LF (P : Program) (w : World) (K : PySem.W.Frag) (mg : Str → Option Value) (base : Heap) (C CB c PT g fT fE : Addr) (fdg fdT fdE : FuncData) : Prop where
  range : mg "range" = none
  min : mg "min" = none
  len : mg "len" = none
  enum : mg "enumerate" = none
  any : mg "any" = none
  src : Dn P w K mg base C8.CX0 1 "_law_source" ["_law_script", "_law_place"] (spSource K)
  draw : Dn P w K mg base C8.CX0 1 "_law_draw" ["_law_draws", "_law_many"] spDraw
  som : Dn P w K mg base C8.CX0 3 "_law_some" ["_law_draws"] spSome
  lw : Dn P w K mg base C8.CX0 1 "_law_is_word" ["_law_thing"] (spIsWord K)
  same : Dn P w K mg base C8.CX0 6 "_law_same" ["_law_found", "_law_due_here"] (spSame K 5)
  due : Dn P w K mg base C8.CX0 2 "_law_due" ["_law_row"] (spDue K)
  lheard : Dn P w K mg base (L2.CX P w) 5 "_law_heard" ["_law_row"] (spLHeard K C CB)
  mem : ∃ fM, mg "members" = some (.ref fM) ∧ Dn P w K mg base C8.CX0 4 "members" [] (spConst K C "n") ∧ Dn P w K mg base C8.CX0 5 "_law_tried" ["_law_work"] (spTriedC K fM "n")
  bou : ∃ fM, mg "bound" = some (.ref fM) ∧ Dn P w K mg base C8.CX0 4 "bound" [] (spConst K C "t") ∧ Dn P w K mg base C8.CX0 5 "_law_tried" ["_law_work"] (spTriedC K fM "t")
  fau : ∃ fM, mg "faulty" = some (.ref fM) ∧ Dn P w K mg base C8.CX0 4 "faulty" [] (spConst K C "f") ∧ Dn P w K mg base C8.CX0 5 "_law_tried" ["_law_work"] (spTriedC K fM "f")
  at_ : ∃ f, mg "at" = some (.ref f) ∧ ∃ fd ps, FnOk P w K mg base (L2.CX P w) 5 f fd ps (spTerm K C CB "at") ∧ PySem.W.keepIn K (.ref f) = true ∧ Binds K fd ps []
  beg : ∃ f, mg "begun" = some (.ref f) ∧ ∃ fd ps, FnOk P w K mg base (L2.CX P w) 5 f fd ps (spTerm K C CB "begun") ∧ PySem.W.keepIn K (.ref f) = true ∧ Binds K fd ps []
  sai : ∃ f, mg "said" = some (.ref f) ∧ ∃ fd ps, FnOk P w K mg base (L2.CX P w) 5 f fd ps (spTerm K C CB "said") ∧ PySem.W.keepIn K (.ref f) = true ∧ Binds K fd ps []
  hrd : ∃ f, FnR P w K mg base (L2.CX P w) 4 f (fun vs H Q E => vs.length ≤ 50 ∧ spHeard K C CB vs H Q E) ∧ mg "heard" = some (.ref f) ∧ PySem.W.keepIn K (.ref f) = true
  tr : Fun K "_law_tried" "_law_tried" sTried g fdg
  trg : mg "_law_tried" = some (.ref g)
  trb : Binds K fdg ["_law_work"] []
  er : Err P w K mg base "BadWord" CB "word"
  ft : FT K mg C
  fq : FQ K mg C fE
  mt : Meth K C "terms" fT
  gt : FnOk P w K mg base C8.CX0 1 fT fdT ["self"] (spTerms K C)
  bt : Binds K fdT ["self"] []
  ge : FnOk P w K mg base C8.CX0 1 fE fdE ["self", "other"] (spFEq K C)
  be : Binds K fdE ["self", "other"] []
  tb : TabB base mg c PT
section
variable {P : Program} {w : World} {K : PySem.W.Frag} {mg : Str → Option Value} {base : Heap} {C CB c PT g fT fE f : Addr} {fdg fdT fdE : FuncData} {A : Around} {outer : List Env} {s : Shared} {H0 : Hp} {E0 : XK}
def IG (K : PySem.W.Frag) (PT a d : Addr) (ns : List Int) (H : Hp) : Prop := SqS K H a d (ns.map V.int) ∧ Tabs [(PT, qLam)] H ∧ ∃ x y z, H d = some (dr x y z)
def S13 (a : Addr) (σ : L2.St) (i : Nat) (v : Option V) : Prop := σ.length = 14 ∧ σ[0]? = some (some (.ref a)) ∧ σ[i]? = some v
/-- the due of a word or of a thing that is none -/
def DueT (H : Hp) (p : Addr) (nm : Str) (v : V) : Prop := (isW v = false ∧ H p = some (.tup [.str "word", v])) ∨ (isW v = true ∧ ∃ l q t, H p = some (.tup [.str "form", .ref l, .int 0]) ∧ H l = some (.lst [.ref q]) ∧ H q = some (.tup [.ref t, .int 1]) ∧ H t = some (.tup [.str nm, v]))
def kinds : List Str := ["at", "begun", "said"]
/-- thing = some(draws) -/
theorem ho_thing (F : LF P w K mg base C CB c PT g fT fE fdg fdT fdE) (hr : Room 7 (LX P w K mg base f c A outer s H0 E0).A) {a : Addr} {ns : List Int} :
    Ho (LX P w K mg base f c A outer s H0 E0) (stAt iB 0) (fun σ H => ∃ (d : Addr) (j : Nat), j < 3 ∧ IG K PT a d ns H ∧ ∃ v1 v4 v5 v6 v7 v8 v9 v10 v11 v12 v13, σ = [some (.ref a), v1, some (.ref d), some (.int j), v4, v5, v6, v7, v8, v9, v10, v11, v12, v13])
      (fun σ H => ∃ (d : Addr) (j : Nat), j < 3 ∧ IG K PT a d ns H ∧ ∃ v v1 v5 v6 v7 v8 v9 v10 v11 v12 v13, SomeV H d v ∧ σ = [some (.ref a), v1, some (.ref d), some (.int j), some v, v5, v6, v7, v8, v9, v10, v11, v12, v13]) := by
  refine ⟨_, ps_set (i := 4) scLa.nd rfl (.inr rfl) (pe_d F.som hr (by decide) rfl pass0 (pa_cons (pv 2) pa_nil)), ?_⟩
  rintro D σ H ⟨d, j, hj, ⟨hs, ht, x, y, z, hd⟩, v1, v4, v5, v6, v7, v8, v9, v10, v11, v12, v13, rfl⟩ k
  refine ⟨_, rfl, d, x, y, z, rfl, hd, fun v H' x' y' z' bt hd' sv _ => ?_⟩
  exact k _ _ ⟨d, j, hj, ⟨hs.fr (Fr.but bt), tabs_but ht hd bt, x', y', z', hd'⟩, v, v1, v5, v6, v7, v8, v9, v10, v11, v12, v13, sv, rfl⟩
def SI (a d : Addr) (j : Nat) (v : V) (p5 : Option V) (σ : L2.St) : Prop := ∃ v1 v6 v7 v8 v9 v10 v11 v12 v13, σ = [some (.ref a), v1, some (.ref d), some (.int j), some v, p5, v6, v7, v8, v9, v10, v11, v12, v13]
theorem ho_due0 {a : Addr} {ns : List Int} :
    Ho (LX P w K mg base f c A outer s H0 E0) (stAt iB 1) (fun σ H => ∃ (d : Addr) (j : Nat), j < 3 ∧ IG K PT a d ns H ∧ ∃ v v1 v5 v6 v7 v8 v9 v10 v11 v12 v13, SomeV H d v ∧ σ = [some (.ref a), v1, some (.ref d), some (.int j), some v, v5, v6, v7, v8, v9, v10, v11, v12, v13])
      (fun σ H => ∃ (d : Addr) (j : Nat), j < 3 ∧ IG K PT a d ns H ∧ ∃ v p, SomeV H d v ∧ SI a d j v (some (.ref p)) σ ∧ H p = some (.tup [.str "word", v])) := by
  refine ⟨_, ps_set (i := 5) scLa.nd rfl (.inl rfl) (pe_tup (pa_cons pe_str (pa_cons (pv 4) pa_nil))), ?_⟩
  rintro D σ H ⟨d, j, hj, ⟨hs, ht, x, y, z, hd⟩, v, v1, v5, v6, v7, v8, v9, v10, v11, v12, v13, sv, rfl⟩ k
  refine ⟨_, rfl, (by show 2 ≤ sizeLine; decide), fun p hp => ?_⟩
  have sm := same_new (o := .tup [.str "word", v]) hp
  exact k _ _ ⟨d, j, hj, ⟨hs.fr (Fr.same sm), tabs_same ht sm, x, y, z, sm _ _ hd⟩, v, p, sv.fr (Fr.same sm), ⟨v1, v6, v7, v8, v9, v10, v11, v12, v13, rfl⟩, upd_same⟩
theorem ho_due1 (F : LF P w K mg base C CB c PT g fT fE fdg fdT fdE) (hr : Room 7 (LX P w K mg base f c A outer s H0 E0).A) {a : Addr} {ns : List Int} :
    Ho (LX P w K mg base f c A outer s H0 E0) (stAt iB 2) (fun σ H => ∃ (d : Addr) (j : Nat), j < 3 ∧ IG K PT a d ns H ∧ ∃ v p, SomeV H d v ∧ SI a d j v (some (.ref p)) σ ∧ H p = some (.tup [.str "word", v]))
      (fun σ H => ∃ (d : Addr) (j : Nat), j < 3 ∧ IG K PT a d ns H ∧ ∃ v p, SomeV H d v ∧ SI a d j v (some (.ref p)) σ ∧ DueT H p (kinds.getD j "") v) := by
  refine ⟨_, ps_if (pt_val (pe_d F.lw hr (by decide) rfl pass0 (pa_cons (pv 4) pa_nil))) (pss_one (ps_set (i := 5) scLa.nd rfl (.inl rfl) (pe_tup (pa_cons pe_str (pa_cons (pe_lst (pa_cons (pe_tup (pa_cons (pe_tup (pa_cons (pe_ix ix_list (pe_lst (pa_cons pe_str (pa_cons pe_str (pa_cons pe_str pa_nil)))) (pv 3) (fun _ _ => rfl)) (pa_cons (pv 4) pa_nil))) (pa_cons pe_int pa_nil))) pa_nil)) (pa_cons pe_int pa_nil)))))) pss_nil, ?_⟩
  rintro D σ H ⟨d, j, hj, ⟨hs, ht, x, y, z, hd⟩, v, p, sv, ⟨v1, v6, v7, v8, v9, v10, v11, v12, v13, rfl⟩, hp⟩ k
  refine ⟨_, rfl, v, rfl, sv.kn, fun H1 s1 => ⟨_, rfl, ?_⟩⟩
  have hs1 := hs.fr (Fr.same s1)
  have ht1 := tabs_same ht s1
  have sv1 := sv.fr (Fr.same s1)
  cases e : isW v with
  | false =>
    refine iteF ?_
    exact k _ _ ⟨d, j, hj, ⟨hs1, ht1, x, y, z, s1 _ _ hd⟩, v, p, sv1, ⟨v1, v6, v7, v8, v9, v10, v11, v12, v13, rfl⟩, .inl ⟨e, s1 _ _ hp⟩⟩
  | true =>
    refine iteT ?_
    refine ⟨(by show 3 ≤ sizeLine; decide), fun l0 h0 => ?_⟩
    have sm0 := same_new (o := .lst [V.str "at", V.str "begun", V.str "said"]) h0
    refine ⟨_, rfl, l0, _, j, .str (kinds.getD j ""), rfl, rfl, .inl (.inl upd_same), ?_, ?_⟩
    · refine atI_nat ?_
      match j, hj with
      | 0, _ => rfl
      | 1, _ => rfl
      | 2, _ => rfl
    · refine ⟨_, rfl, (by show 2 ≤ sizeLine; decide), fun t hht => ?_⟩
      have sm1 := sm0.trans (same_new (o := .tup [.str (kinds.getD j ""), v]) hht)
      refine ⟨(by show 2 ≤ sizeLine; decide), fun q hq => ?_⟩
      have sm2 := sm1.trans (same_new (o := .tup [.ref t, .int 1]) hq)
      refine ⟨(by show 1 ≤ sizeLine; decide), fun l hl => ?_⟩
      have sm3 := sm2.trans (same_new (o := .lst [.ref q]) hl)
      refine ⟨(by show 3 ≤ sizeLine; decide), fun p2 hp2 => ?_⟩
      have sm4 := s1.trans (sm3.trans (same_new (o := .tup [.str "form", .ref l, .int 0]) hp2))
      have ntq : t ≠ q := fun z => (upd_nn hq).1 z.symm
      have ntl : t ≠ l := fun z => (upd_nn (upd_nn hl).2).1 z.symm
      have nql : q ≠ l := fun z => (upd_nn hl).1 z.symm
      have npl : p2 ≠ l := (upd_nn hp2).1
      have npq : p2 ≠ q := (upd_nn (upd_nn hp2).2).1
      have npt : p2 ≠ t := (upd_nn (upd_nn (upd_nn hp2).2).2).1
      exact k _ _ ⟨d, j, hj, ⟨hs.fr (Fr.same sm4), tabs_same ht sm4, x, y, z, sm4 _ _ hd⟩, v, p2, sv.fr (Fr.same sm4), ⟨v1, v6, v7, v8, v9, v10, v11, v12, v13, rfl⟩,
        .inr ⟨e, l, q, t, upd_same, by rw [upd_ne (Ne.symm npl), upd_same], by rw [upd_ne (Ne.symm npq), upd_ne nql, upd_same], by rw [upd_ne (Ne.symm npt), upd_ne ntl, upd_ne ntq, upd_same]⟩⟩
end
end Mv
namespace Mv
open PySem PySem.Spec PyProof.Rows L2 LamX
section
variable {P : Program} {w : World} {K : PySem.W.Frag} {mg : Str → Option Value} {base : Heap} {C CB c PT g fT fE f : Addr} {fdg fdT fdE : FuncData} {A : Around} {outer : List Env} {s : Shared} {H0 : Hp} {E0 : XK}
theorem sm_strs {H : Hp} {a b : Addr} {xs : List Str} (n : Nat) (h1 : SqT K H a (xs.map V.str)) (h2 : SqT K H b (xs.map V.str)) (hz : xs.length ≤ 1000) : SmD K H (n + 1) (.ref a) (.ref b) := by
  refine .tup h1 h2 rfl (by rw [List.length_map]; exact hz) fun i x y e1 e2 => ?_
  rw [e1] at e2
  cases e2
  rw [List.getElem?_map] at e1
  cases e : xs[i]? with
  | none =>
    rw [e] at e1
    cases e1
  | some z =>
    rw [e] at e1
    cases e1
    exact .str _ _
theorem sm_form {H : Hp} {q l a b q' l' a' b' : Addr} {xs : List Str} (n : Nat) (h1 : SqT K H q [.str "form", .ref l, .int 0]) (h2 : SqL K H l [.ref a]) (h3 : SqT K H a [.ref b, .int 1]) (h4 : SqT K H b (xs.map V.str))
    (g1 : SqT K H q' [.str "form", .ref l', .int 0]) (g2 : SqL K H l' [.ref a']) (g3 : SqT K H a' [.ref b', .int 1]) (g4 : SqT K H b' (xs.map V.str)) (hz : xs.length ≤ 1000) : SmD K H (n + 4) (.ref q) (.ref q') := by
  have k1 : SmD K H (n + 2) (.ref a) (.ref a') := by
    refine .tup h3 g3 rfl (by show 2 ≤ 1000; decide) fun i x y e1 e2 => ?_
    match i, e1, e2 with
    | 0, e1, e2 =>
      cases e1
      cases e2
      exact sm_strs n h4 g4 hz
    | 1, e1, e2 =>
      cases e1
      cases e2
      exact .int _ _
  have k2 : SmD K H (n + 3) (.ref l) (.ref l') := by
    refine .lst h2 g2 rfl (by show 1 ≤ 1000; decide) fun i x y e1 e2 => ?_
    match i, e1, e2 with
    | 0, e1, e2 =>
      cases e1
      cases e2
      exact k1
  refine .tup h1 g1 rfl (by show 3 ≤ 1000; decide) fun i x y e1 e2 => ?_
  match i, e1, e2 with
  | 0, e1, e2 =>
    cases e1
    cases e2
    exact .str _ _
  | 1, e1, e2 =>
    cases e1
    cases e2
    exact k2
  | 2, e1, e2 =>
    cases e1
    cases e2
    exact .int _ _
theorem sm_word {H : Hp} {q q' : Addr} {v : V} (n : Nat) (h1 : SqT K H q [.str "word", v]) (g1 : SqT K H q' [.str "word", v]) (hv : SmD K H n v v) : SmD K H (n + 1) (.ref q) (.ref q') := by
  refine .tup h1 g1 rfl (by show 2 ≤ 1000; decide) fun i x y e1 e2 => ?_
  match i, e1, e2 with
  | 0, e1, e2 =>
    cases e1
    cases e2
    exact .str _ _
  | 1, e1, e2 =>
    cases e1
    cases e2
    exact hv
theorem dr_nt (x y z : Int) : ∀ ps, dr x y z ≠ .tbl ps := fun ps e => by
  unfold dr at e
  cases e
theorem sqT_of {H : Hp} {a : Addr} {xs : List V} (h : H a = some (.tup xs)) : SqT K H a xs := .inl (.inl h)
theorem sqL_of {H : Hp} {a : Addr} {xs : List V} (h : H a = some (.lst xs)) : SqL K H a xs := .inl (.inl h)
/-- the terms and the rest of the form at p, or the word -/
def TermFF (K : PySem.W.Frag) (C CB f1 f2 f3 : Addr) (f : Addr) (sp : Sp) : Prop := (f = f1 ∧ sp = spTerm K C CB "at") ∨ (f = f2 ∧ sp = spTerm K C CB "begun") ∨ (f = f3 ∧ sp = spTerm K C CB "said")
theorem ho_try1 (F : LF P w K mg base C CB c PT g fT fE fdg fdT fdE) (hr : Room 7 (LX P w K mg base f c A outer s H0 E0).A) {a : Addr} {ns : List Int} :
    Ho (LX P w K mg base f c A outer s H0 E0) (stAt iB 3) (fun σ H => ∃ (d : Addr) (j : Nat), j < 3 ∧ IG K PT a d ns H ∧ ∃ v p, SomeV H d v ∧ SI a d j v (some (.ref p)) σ ∧ DueT H p (kinds.getD j "") v)
      (fun σ H => ∃ (d : Addr) (j : Nat), j < 3 ∧ IG K PT a d ns H ∧ ∃ v1 v4 v5 v6 v7 v8 v9 v10 v11 v12 v13, σ = [some (.ref a), v1, some (.ref d), some (.int j), v4, v5, v6, v7, v8, v9, v10, v11, v12, v13]) := by
  obtain ⟨f1, g1, e1⟩ := F.at_
  obtain ⟨f2, g2, e2⟩ := F.beg
  obtain ⟨f3, g3, e3⟩ := F.sai
  have hb0 := F.trb
  obtain ⟨oc, od, kV, doc, pm, an, cdv, ct, osl, ef, lk, hcd⟩ := F.tr.ex
  rw [ef] at lk hb0
  have hgv := tried_gives (X := LX P w K mg base f c A outer s H0 E0) (g := g) (cdg := cdv) (q := qLam) hr.hd F.er F.ft F.mt F.gt F.bt (fun env => (hr.mono (by decide)).deeper env)
  have hF : ∀ f sp, TermFF K C CB f1 f2 f3 f sp → ∃ fd ps, FnOk P w K mg base (L2.CX P w) 5 f fd ps sp ∧ PySem.W.keepIn K (.ref f) = true ∧ Binds K fd ps [] := by
    rintro f sp (⟨rfl, rfl⟩ | ⟨rfl, rfl⟩ | ⟨rfl, rfl⟩)
    · exact e1
    · exact e2
    · exact e3
  refine ⟨_, ps_if (pt_not (pt_val (pe_d F.same hr (by decide) rfl pass0 (pa_cons (pe_lamcall (k := 5) (T := [(PT, qLam)]) (a := "_law_work") (t := fun E' => tCallP (TermFF K C CB f1 f2 f3) E' (tOp (rIxL K) (tLst (tCons (tC (.ref f1)) (tCons (tC (.ref f2)) (tCons (tC (.ref f3)) tNil)))) (tVar 3)) (tCons (tVar 4) tNil)) rfl F.trg F.tr.kp lk hcd hb0 scTr rfl (.inl rfl) hgv F.tb rfl (List.mem_singleton.mpr rfl) (fun p hp _ => by rw [List.mem_singleton.mp hp]; rfl) hr (lamS_by (sc := defScope sLaw) (by decide +kernel)) rfl (fun _ _ _ _ _ => rfl)
      (fun A' outer' s' H' E' f' c' hr2 => pe_callP (FF := TermFF K C CB f1 f2 f3) hF hr2 (pe_ix ix_list (pe_lst (pa_cons (pe_glob (v := .ref f1) rfl g1 rfl) (pa_cons (pe_glob (v := .ref f2) rfl g2 rfl) (pa_cons (pe_glob (v := .ref f3) rfl g3 rfl) pa_nil)))) (pv 3) (fun _ _ => rfl)) (passes_call (takes_of rfl rfl rfl rfl) (fun _ _ _ _ q => q)) (pa_cons (pv 4) pa_nil))) (pa_cons (pv 5) pa_nil))))) (pss_one (ps_ret pe_bl)) pss_nil, ?_⟩
  rintro D σ H ⟨d, j, hj, ⟨hs, ht, x, y, z, hd⟩, v, p, sv, ⟨v1, v6, v7, v8, v9, v10, v11, v12, v13, rfl⟩, hp⟩ k
  refine ⟨ht, fun H1 eN T1 => ?_⟩
  obtain ⟨fj, hfj, hat⟩ : ∃ fj, TermFF K C CB f1 f2 f3 fj (spTerm K C CB (kinds.getD j "")) ∧ ([V.ref f1, V.ref f2, V.ref f3] : List V)[j]? = some (.ref fj) := by
    match j, hj with
    | 0, _ => exact ⟨f1, .inl ⟨rfl, rfl⟩, rfl⟩
    | 1, _ => exact ⟨f2, .inr (.inl ⟨rfl, rfl⟩), rfl⟩
    | 2, _ => exact ⟨f3, .inr (.inr ⟨rfl, rfl⟩), rfl⟩
  refine ⟨(by show 3 ≤ sizeLine; decide), fun l0 h0 => ?_⟩
  have sm0 := same_new (o := .lst [V.ref f1, V.ref f2, V.ref f3]) h0
  refine ⟨_, rfl, l0, _, j, .ref fj, rfl, rfl, .inl (.inl upd_same), atI_nat hat, fj, _, rfl, hfj, _, rfl, v, rfl, ?_, fun z0 ez wz p1 H2 s2 n2 hf => ?_, fun wz H2 dd s2 n2 => ?_⟩
  · exact ((sv.fr (Fr.ext eN)).fr (Fr.same sm0)).kn
  · subst ez
    obtain ⟨dx, tp, as, q1, q2, q3⟩ := hf.ob
    refine ⟨p1, dx, tp, 0, as.map V.ref, rfl, q1, q2, fun l q H3 s3 nl hl nq hq => ?_⟩
    have eX : ExtN H H3 := eN.trans (ExtN.of (sm0.trans (s2.trans s3)))
    rcases hp with ⟨h, _⟩ | ⟨_, l', a', t', r1, r2, r3, r4⟩
    · rw [show isW (V.str z0) = true from wz] at h
      cases h
    · cases q3 with
      | @cons a1 _ _ _ u1 u2 =>
        cases u2
        obtain ⟨b1, w1, w2⟩ := u1
        have sm : SmD K H3 5 (.ref q) (.ref p) := sm_form (xs := [kinds.getD j "", z0]) 1 (sqT_of hq) (sqL_of hl) (same_sqT s3 w1) (same_sqT s3 w2) (sqT_of (eX _ _ r1 fun ps z => by cases z)) (sqL_of (eX _ _ r2 fun ps z => by cases z)) (sqT_of (eX _ _ r3 fun ps z => by cases z)) (sqT_of (eX _ _ r4 fun ps z => by cases z)) (by show 2 ≤ 1000; decide)
        refine ⟨_, rfl, .ref q, .ref p, rfl, sm, fun H4 s4 => ⟨_, rfl, ?_⟩⟩
        refine iteF ?_
        have eY := eX.trans (ExtN.of s4)
        exact k _ _ ⟨d, j, hj, ⟨hs.fr (Fr.ext eY), T1.ext fun b o e => s4 _ _ (s3 _ _ (s2 _ _ (sm0 _ _ e))), x, y, z, eY _ _ hd (dr_nt x y z)⟩, v1, _, _, v6, v7, v8, v9, v10, v11, v12, v13, rfl⟩
  · refine ⟨rfl, dd, v, rfl, upd_same, fun a3 p3 H3 na s3 np hp3 => ?_⟩
    have smD := same_new (o := .xd [(("word" : Str), v)]) n2
    have eX : ExtN H H3 := eN.trans (ExtN.of (sm0.trans (s2.trans (smD.trans s3))))
    rcases hp with ⟨_, r1⟩ | ⟨h, _⟩
    · have sm : SmD K H3 5 (.ref p3) (.ref p) := sm_word 4 (sqT_of hp3) (sqT_of (eX _ _ r1 fun ps z => by cases z)) ((sv.fr (Fr.ext eX)).sm 2)
      refine ⟨_, rfl, .ref p3, .ref p, rfl, sm, fun H4 s4 => ⟨_, rfl, ?_⟩⟩
      refine iteF ?_
      have eY := eX.trans (ExtN.of s4)
      exact k _ _ ⟨d, j, hj, ⟨hs.fr (Fr.ext eY), T1.ext fun b o e => s4 _ _ (s3 _ _ (smD _ _ (s2 _ _ (sm0 _ _ e)))), x, y, z, eY _ _ hd (dr_nt x y z)⟩, v1, _, _, v6, v7, v8, v9, v10, v11, v12, v13, rfl⟩
    · rw [wz] at h
      cases h
end
end Mv
namespace Mv
open PySem PySem.Spec PyProof.Rows L2 LamX
section
variable {P : Program} {w : World} {K : PySem.W.Frag} {mg : Str → Option Value} {base : Heap} {C CB c PT g fT fE f : Addr} {fdg fdT fdE : FuncData} {A : Around} {outer : List Env} {s : Shared} {H0 : Hp} {E0 : XK}
/-- draws is there -/
def SO (a d : Addr) (σ : L2.St) : Prop := ∃ v1 v3 v4 v5 v6 v7 v8 v9 v10 v11 v12 v13, σ = [some (.ref a), v1, some (.ref d), v3, v4, v5, v6, v7, v8, v9, v10, v11, v12, v13]
theorem iB_eq : iB = [stAt iB 0, stAt iB 1, stAt iB 2, stAt iB 3] := rfl
theorem ho_inner (F : LF P w K mg base C CB c PT g fT fE fdg fdT fdE) (hr : Room 7 (LX P w K mg base f c A outer s H0 E0).A) {a : Addr} {ns : List Int} :
    Ho (LX P w K mg base f c A outer s H0 E0) (stAt oB 1) (fun σ H => ∃ d, IG K PT a d ns H ∧ SO a d σ) (fun σ H => ∃ d, IG K PT a d ns H ∧ SO a d σ) := by
  have body := (ho_thing (f := f) (A := A) (outer := outer) (s := s) (H0 := H0) (E0 := E0) F hr (a := a) (ns := ns)).cons (ho_due0.cons ((ho_due1 F hr).cons ((ho_try1 F hr).cons Hos.nil)))
  rw [← iB_eq] at body
  obtain ⟨tb, hb, kb⟩ := body
  refine ⟨_, ps_for PassesOwn.never rfl (pi_range1 (by rfl) F.range (pa_cons pe_int pa_nil)) (pg_name (i := 3) scLa.nd rfl (.inr rfl)) hb, ?_⟩
  rintro D σ H ⟨d, ig, so⟩ k
  refine ⟨3, rfl, by decide, by decide, for_it walk_range (fun i σ' H' => ∃ d, IG K PT a d ns H' ∧ SO a d σ') ⟨d, ig, so⟩ (fun _ _ _ _ _ => True.intro) ?_ (fun σ' H' h => k σ' H' h)⟩
  rintro i x σ' H' _ hi ⟨d', ig', v1, v3, v4, v5, v6, v7, v8, v9, v10, v11, v12, v13, rfl⟩ ⟨rfl, rfl⟩
  refine kb _ _ _ ⟨d', i, hi, ig', v1, v4, v5, v6, v7, v8, v9, v10, v11, v12, v13, ?_⟩ ?_
  · show [some (V.ref a), v1, some (V.ref d'), some (V.int (0 + (i : Int))), v4, v5, v6, v7, v8, v9, v10, v11, v12, v13] = _
    rw [Int.zero_add]
  · rintro σ2 H2 ⟨d2, j2, _, ig2, v1, v4, v5, v6, v7, v8, v9, v10, v11, v12, v13, rfl⟩
    exact ⟨d2, ig2, v1, _, v4, v5, v6, v7, v8, v9, v10, v11, v12, v13, rfl⟩
/-- ahead of each turn -/
def OG (K : PySem.W.Frag) (PT a : Addr) (ns : List Int) (H : Hp) : Prop := SqL K H a (ns.map V.int) ∧ Tabs [(PT, qLam)] H
def SB (a : Addr) (v1 : Option V) (σ : L2.St) : Prop := ∃ v2 v3 v4 v5 v6 v7 v8 v9 v10 v11 v12 v13, σ = [some (.ref a), v1, v2, v3, v4, v5, v6, v7, v8, v9, v10, v11, v12, v13]
theorem ho_src (F : LF P w K mg base C CB c PT g fT fE fdg fdT fdE) (hr : Room 7 (LX P w K mg base f c A outer s H0 E0).A) {a : Addr} {ns : List Int} :
    Ho (LX P w K mg base f c A outer s H0 E0) (stAt oB 0) (fun σ H => ∃ i : Nat, i ≤ 1000 ∧ OG K PT a ns H ∧ SB a (some (.int i)) σ) (fun σ H => ∃ d, IG K PT a d ns H ∧ SO a d σ) := by
  refine ⟨_, ps_set (i := 2) scLa.nd rfl (.inr rfl) (pe_d F.src hr (by decide) rfl pass0 (pa_cons (pv 0) (pa_cons (pv 1) pa_nil))), ?_⟩
  rintro D σ H ⟨i, hi, ⟨hS, hT⟩, v2, v3, v4, v5, v6, v7, v8, v9, v10, v11, v12, v13, rfl⟩ k
  refine ⟨_, rfl, _, rfl, a, ns, i, rfl, hS, hi, fun l x y hl => ?_⟩
  have sm := same_new (o := dr x y 0) hl
  exact k _ _ ⟨l, ⟨(SqS.of hS hl).fr (Fr.same sm), tabs_same hT sm, x, y, 0, upd_same⟩, _, v3, v4, v5, v6, v7, v8, v9, v10, v11, v12, v13, rfl⟩
/-- the row that is drawn -/
structure RowAt (H : Hp) (d R : Addr) (xs : List V) : Prop where
  at_ : H R = some (.lst xs)
  ne : R ≠ d
  len : xs.length ≤ 4
  all : ∀ x ∈ xs, SomeV H d x
theorem RowAt.fr {H H' : Hp} {d R : Addr} {xs : List V} (h : RowAt H d R xs) (f : Fr d H H') : RowAt H' d R xs :=
  ⟨f _ _ h.at_ h.ne (fun ps z => by cases z), h.ne, h.len, fun x hx => (h.all x hx).fr f⟩
def SR (a d R : Addr) (σ : L2.St) : Prop := ∃ v1 v3 v4 v5 v7 v8 v9 v10 v11 v12 v13, σ = [some (.ref a), v1, some (.ref d), v3, v4, v5, some (.ref R), v7, v8, v9, v10, v11, v12, v13]
theorem SomeV.upd {H : Hp} {d D : Addr} {v : V} {o : HO} (h : SomeV H d v) (n : v ≠ .ref D) : SomeV (upd H D o) d v := by
  have ne : ∀ {a : Addr}, V.ref a ≠ V.ref D → a ≠ D := fun h e => h (by rw [e])
  cases h with
  | str h => exact .str h
  | non => exact .non
  | int => exact .int
  | bl => exact .bl
  | tup m h => exact .tup m (by rw [upd_ne (ne n)]; exact h)
  | lst m h => exact .lst m (by rw [upd_ne (ne n)]; exact h)
  | dic m h => exact .dic m (by rw [upd_ne (ne n)]; exact h)
theorem ho_row (F : LF P w K mg base C CB c PT g fT fE fdg fdT fdE) (hr : Room 7 (LX P w K mg base f c A outer s H0 E0).A) {a : Addr} {ns : List Int} :
    Ho (LX P w K mg base f c A outer s H0 E0) (stAt oB 2) (fun σ H => ∃ d, IG K PT a d ns H ∧ SO a d σ) (fun σ H => ∃ d R xs, IG K PT a d ns H ∧ RowAt H d R xs ∧ SR a d R σ) := by
  refine ⟨_, ps_set (i := 6) scLa.nd rfl (.inr rfl) (pe_lc (own := [("_law_k", 7)]) (g := gName 7) (tt := tYes) rfl scLa.nd (pi_range1 (by rfl) F.range (pa_cons (pe_d F.draw hr (by decide) rfl pass0 (pa_cons (pv 2) (pa_cons pe_int pa_nil))) pa_nil))
      (blkOk_by (N := nLaw) (sc := defScope sLaw) (by decide +kernel)) (fun _ _ _ _ _ => pg_name (i := 7) scLa.nd rfl (Or.inl rfl)) (fun _ _ _ _ _ => pts_nil) (fun _ _ _ _ _ => pe_d F.som hr (by decide) rfl pass0 (pa_cons (pv 2) pa_nil))), ?_⟩
  rintro D σ H ⟨d, ⟨hs, hT, x, y, z, hd⟩, v1, v3, v4, v5, v6, v7, v8, v9, v10, v11, v12, v13, rfl⟩ k
  refine ⟨_, rfl, d, 5, x, y, z, rfl, hd, by decide, by decide, fun r x' y' z' r0 r1 => ?_⟩
  obtain ⟨H1, e1⟩ : ∃ H1, H1 = upd H d (dr x' y' z') := ⟨_, rfl⟩
  have b1 : But d H H1 := by rw [e1]; exact But.upd
  have hd1 : H1 d = some (dr x' y' z') := by rw [e1, upd_same]
  rw [← e1]
  refine ⟨r, rfl, by omega, by omega, fun R hR => ?_⟩
  have nRd : R ≠ d := fun e => by
    rw [e, hd1] at hR
    cases hR
  refine lc_it walk_range (fun i H' => But d H1 H' ∧ (∃ x y z, H' d = some (dr x y z)) ∧ ∃ xs, H' R = some (.lst xs) ∧ xs.length = i ∧ ∀ v ∈ xs, SomeV H' d v ∧ v ≠ .ref R) ?_ (fun _ _ _ _ => True.intro) ?_ ?_
  · exact ⟨But.of (same_new hR), ⟨x', y', z', same_new hR _ _ hd1⟩, [], upd_same, rfl, fun v hv => nomatch hv⟩
  · rintro i x2 H' H'' hi ⟨bt, ⟨x3, y3, z3, hd3⟩, xs, hx, hl, hs2⟩ ⟨rfl, rfl⟩
    refine ⟨rfl, ?_⟩
    unfold tYes
    refine iteT ?_
    refine ⟨_, rfl, d, x3, y3, z3, rfl, hd3, fun v H4 x4 y4 z4 bt4 hd4 sv fr4 => ?_⟩
    have hR4 : H4 R = some (.lst xs) := bt4 _ _ hx nRd
    have nv : v ≠ .ref R := fun e => by
      have q := fr4 R e
      rw [hx] at q
      cases q
    refine ⟨xs, hR4, ?_, ?_⟩
    · rw [hl]
      have : i < 5 := by omega
      show i < sizeLine
      exact Nat.lt_of_lt_of_le this (by show 5 ≤ sizeLine; decide)
    · refine ⟨fun b o e n => ?_, ⟨x4, y4, z4, by rw [upd_ne (Ne.symm nRd)]; exact hd4⟩, xs ++ [v], upd_same, by rw [List.length_append, hl]; rfl, fun v2 hv2 => ?_⟩
      · rw [upd_ne (ne_of_none e hR)]
        exact bt4 _ _ (bt _ _ e n) n
      · rcases List.mem_append.mp hv2 with q | q
        · obtain ⟨q1, q2⟩ := hs2 v2 q
          exact ⟨(q1.but bt4).upd q2, q2⟩
        · rw [List.mem_singleton.mp q]
          exact ⟨sv.upd nv, nv⟩
  · rintro H' ⟨bt, hd3, xs, hx, hl, hs2⟩
    exact k _ _ ⟨d, R, xs, ⟨hs.fr (Fr.but (b1.trans bt)), tabs_but hT hd (b1.trans bt), hd3⟩, ⟨hx, nRd, by omega, fun v hv => (hs2 v hv).1⟩, v1, v3, v4, v5, v7, v8, v9, v10, v11, v12, v13, rfl⟩
end
end Mv
namespace Mv
open PySem PySem.Spec PyProof.Rows
theorem le_cps {a b : Str} : ltCps b.cps.toList a.cps.toList = false ↔ a.cps.toList ≤ b.cps.toList := by
  rw [ltCps_eq]
  constructor
  · intro h
    exact List.not_lt.mp (of_decide_eq_false h)
  · intro h
    exact decide_eq_false (List.not_lt.mpr h)
theorem rising_pairwise : ∀ (l : List Str) (p : Str), risingS p l = true → (p :: l).Pairwise (fun a b => a.cps.toList ≤ b.cps.toList)
  | [], p, _ => List.pairwise_singleton _ _
  | x :: r, p, h => by
    have h' : (!ltCps x.cps.toList p.cps.toList && risingS x r) = true := h
    rw [Bool.and_eq_true, Bool.not_eq_true'] at h'
    have ih := rising_pairwise r x h'.2
    have px := le_cps.mp h'.1
    refine List.pairwise_cons.mpr ⟨fun y hy => ?_, ih⟩
    rcases List.mem_cons.mp hy with e | hy
    · rw [e]
      exact px
    · exact List.le_trans px (List.rel_of_pairwise_cons ih hy)
theorem sorted_pairwise : ∀ (l : List Str), sortedS l = true → l.Pairwise (fun a b => a.cps.toList ≤ b.cps.toList)
  | [], _ => .nil
  | x :: r, h => rising_pairwise r x h
theorem str_ext {a b : Str} (h : a.cps.toList = b.cps.toList) : a = b := by
  cases a
  cases b
  simp only [Array.toList_inj] at h
  rw [h]
theorem sorted_uniq {a b c : List Str} (h1 : a.Perm c) (h2 : b.Perm c) (s1 : sortedS a = true) (s2 : sortedS b = true) : a = b :=
  List.Perm.eq_of_pairwise (fun x y _ _ p q => str_ext (List.le_antisymm p q)) (sorted_pairwise a s1) (sorted_pairwise b s2) (h1.trans h2.symm)
end Mv
namespace Mv
open PySem PySem.Spec PyProof.Rows L2 LamX
def strV : V → Str
  | .str z => z
  | _ => ""
theorem good_strs {xs : List V} (h : ∀ j, j < xs.length → badAt xs j = false) : ∃ zs : List Str, xs = zs.map V.str := by
  refine ⟨xs.map strV, ?_⟩
  rw [List.map_map]
  have e : ∀ x ∈ xs, (V.str ∘ strV) x = x := fun x hx => by
    obtain ⟨j, hj⟩ := List.mem_iff_getElem?.mp hx
    have q := h j (List.getElem?_eq_some_iff.mp hj).1
    unfold badAt at q
    rw [hj] at q
    cases e : isW x with
    | true =>
      obtain ⟨z, rfl⟩ := isW_str e
      rfl
    | false => simp [e] at q
  calc xs = xs.map id := by rw [List.map_id]
    _ = xs.map (V.str ∘ strV) := List.map_congr_left fun x hx => (e x hx).symm
/-- what BadWord tells -/
def WordC (H : Hp) (xs : List V) (x : V) : Prop := (xs = [] ∧ ∃ e, x = .ref e ∧ H e = some (.tup [])) ∨ ∃ i, xs[i]? = some x ∧ badAt xs i = true ∧ ∀ j, j < i → badAt xs j = false
theorem WordC.same {H H' : Hp} {xs : List V} {x : V} (h : WordC H xs x) (s : Same H H') : WordC H' xs x := h.elim (fun ⟨a, e, b, c⟩ => .inl ⟨a, e, b, s _ _ c⟩) .inr
/-- what is found of a row -/
def Fd (K : PySem.W.Frag) (H : Hp) (q : Addr) (xs : List V) : Prop := (∃ x, WordC H xs x ∧ SqT K H q [.str "word", x]) ∨
  (xs ≠ [] ∧ (∀ j, j < xs.length → badAt xs j = false) ∧ ∃ (zs ys : List Str) (l a b : Addr), xs = zs.map V.str ∧ ys.Perm zs ∧ sortedS ys = true ∧ SqT K H q [.str "form", .ref l, .int 0] ∧ SqL K H l [.ref a] ∧ SqT K H a [.ref b, .int 1] ∧ SqT K H b ((("heard" : Str) :: ys).map V.str))
theorem Fd.same {K : PySem.W.Frag} {H H' : Hp} {q : Addr} {xs : List V} (h : Fd K H q xs) (s : Same H H') : Fd K H' q xs := by
  rcases h with ⟨x, h1, h2⟩ | ⟨h1, h2, zs, ys, l, a, b, h3, h4, h5, h6, h7, h8, h9⟩
  · exact .inl ⟨x, h1.same s, same_sqT s h2⟩
  · exact .inr ⟨h1, h2, zs, ys, l, a, b, h3, h4, h5, same_sqT s h6, s.seq h7, same_sqT s h8, same_sqT s h9⟩
theorem map_str_inj : ∀ {a b : List Str}, a.map V.str = b.map V.str → a = b
  | [], [], _ => rfl
  | [], _ :: _, h => by cases h
  | _ :: _, [], h => by cases h
  | x :: a, y :: b, h => by
    have h1 := List.cons.inj h
    rw [V.str.inj h1.1, map_str_inj h1.2]
section
variable {P : Program} {w : World} {K : PySem.W.Frag} {mg : Str → Option Value} {base : Heap} {C CB c PT g fT fE f : Addr} {fdg fdT fdE : FuncData} {A : Around} {outer : List Env} {s : Shared} {H0 : Hp} {E0 : XK}
theorem lheard_gives {H : Hp} {d R : Addr} {xs : List V} {Q : VK} {E : XK} (row : RowAt H d R xs)
    (kf : xs ≠ [] → (∀ j, j < xs.length → badAt xs j = false) → ∀ (zs ys : List Str) (p : Addr) (H' : Hp), xs = zs.map V.str → ys.Perm zs → sortedS ys = true → Same H H' → H p = none → FormAt K C H' p [(("heard" : Str) :: ys, 1)] 0 → Q (.ref p) H')
    (kw : ∀ (x : V) (H' : Hp) (dd : Addr), WordC H' xs x → Same H H' → H' dd = none → E (.ref CB) (some dd) (upd H' dd (.xd [(("word" : Str), x)]))) : spLHeard K C CB [.ref R] H Q E := by
  refine ⟨R, xs, rfl, row.at_, row.len, fun H1 s1 p hp => ?_⟩
  have sp := s1.trans (same_new (o := .tup xs) hp)
  have hl := row.len
  refine ⟨p, xs, rfl, sqT_of upd_same, by omega, fun x hx H2 s2 => ((row.all x hx).fr (Fr.same (sp.trans s2))).kn, fun e H2 dd e2 s2 he hd => kw _ H2 dd (.inl ⟨e, e2, rfl, he⟩) (sp.trans s2) hd, fun i x hx hb hg H2 dd s2 hd => kw _ H2 dd (.inr ⟨i, hx, hb, hg⟩) (sp.trans s2) hd, fun hne hg => ?_⟩
  obtain ⟨zs, ez⟩ := good_strs hg
  exact ⟨zs, ez, fun ys hp2 hs p2 H2 s2 n2 hf => kf hne hg zs ys p2 H2 ez hp2 hs (sp.trans s2) (sp.free n2) hf⟩
theorem due_same {H : Hp} {d R q : Addr} {xs : List V} {Q : VK} {E : XK} (row : RowAt H d R xs) (hq : Fd K H q xs) (k : ∀ p H', Same H H' → SmD K H' 5 (.ref q) (.ref p) → Q (.ref p) H') : spDue K [.ref R] H Q E := by
  have hl := row.len
  refine ⟨R, xs, rfl, row.at_, by omega, fun x hx H2 s2 => ((row.all x hx).fr (Fr.same s2)).kn, ?_, ?_, ?_⟩
  · intro i x hx hb hg p H' s np hp
    rcases hq with ⟨y, hw, h2⟩ | ⟨h1, h2, _⟩
    · rcases hw with ⟨e1, _⟩ | ⟨i2, hx2, hb2, hg2⟩
      · rw [e1] at hx
        cases hx
      · have e : i = i2 := by
          rcases Nat.lt_trichotomy i i2 with z | z | z
          · rw [hg2 i z] at hb
            cases hb
          · exact z
          · rw [hg i2 z] at hb2
            cases hb2
        subst e
        rw [hx] at hx2
        cases hx2
        exact k p H' s (sm_word 4 (same_sqT s h2) (sqT_of hp) (((row.all x (List.mem_of_getElem? hx)).fr (Fr.same s)).sm 2))
    · rw [h2 i (List.getElem?_eq_some_iff.mp hx).1] at hb
      cases hb
  · intro e1 p e H' s np he hp
    rcases hq with ⟨y, hw, h2⟩ | ⟨h1, _⟩
    · rcases hw with ⟨_, e2, ey, he2⟩ | ⟨i2, hx2, _⟩
      · subst ey
        refine k p H' s ?_
        refine .tup (same_sqT s h2) (sqT_of hp) rfl (by show 2 ≤ 1000; decide) fun i x y a1 a2 => ?_
        match i, a1, a2 with
        | 0, a1, a2 =>
          cases a1
          cases a2
          exact .str _ _
        | 1, a1, a2 =>
          cases a1
          cases a2
          exact .tup (sqT_of (s _ _ he2)) (sqT_of he) rfl (by show 0 ≤ 1000; decide) fun i x y b1 b2 => nomatch b1
      · rw [e1] at hx2
        cases hx2
    · exact absurd e1 h1
  · intro hne hg
    rcases hq with ⟨y, hw, h2⟩ | ⟨_, _, zs, ys, l, a, b, h3, h4, h5, h6, h7, h8, h9⟩
    · rcases hw with ⟨e1, _⟩ | ⟨i2, hx2, hb2, _⟩
      · exact absurd e1 hne
      · rw [hg i2 (List.getElem?_eq_some_iff.mp hx2).1] at hb2
        cases hb2
    · refine ⟨zs, h3, fun ys2 p l2 q2 t2 H' hp2 hs2 s np ht hq2 hl2 hp => ?_⟩
      have e := sorted_uniq h4 hp2 h5 hs2
      subst e
      refine k p H' s (sm_form 1 (same_sqT s h6) (s.seq h7) (same_sqT s h8) (same_sqT s h9) (sqT_of hp) (sqL_of hl2) (sqT_of hq2) (sqT_of ht) ?_)
      have q1 := h4.length_eq
      have q2 := congrArg List.length h3
      rw [List.length_map] at q2
      rw [List.length_cons]
      omega
end
end Mv
namespace Mv
open PySem PySem.Spec PyProof.Rows L2 LamX
section
variable {P : Program} {w : World} {K : PySem.W.Frag} {mg : Str → Option Value} {base : Heap} {C CB c PT g fT fE f : Addr} {fdg fdT fdE : FuncData} {A : Around} {outer : List Env} {s : Shared} {H0 : Hp} {E0 : XK}
theorem ho_try2 (F : LF P w K mg base C CB c PT g fT fE fdg fdT fdE) (hr : Room 7 (LX P w K mg base f c A outer s H0 E0).A) {a : Addr} {ns : List Int} :
    Ho (LX P w K mg base f c A outer s H0 E0) (stAt oB 3) (fun σ H => ∃ d R xs, IG K PT a d ns H ∧ RowAt H d R xs ∧ SR a d R σ) (fun σ H => ∃ d R xs, IG K PT a d ns H ∧ RowAt H d R xs ∧ SR a d R σ) := by
  have hb0 := F.trb
  obtain ⟨oc, od, kV, doc, pm, an, cdv, ct, osl, ef, lk, hcd⟩ := F.tr.ex
  rw [ef] at lk hb0
  have hgv := tried_gives (X := LX P w K mg base f c A outer s H0 E0) (g := g) (cdg := cdv) (q := qLam) hr.hd F.er F.ft F.mt F.gt F.bt (fun env => (hr.mono (by decide)).deeper env)
  refine ⟨_, ps_if (pt_not (pt_val (pe_d F.same hr (by decide) rfl pass0 (pa_cons (pe_lamcall (k := 5) (T := [(PT, qLam)]) (a := "_law_work") (t := fun E' => tCall (spLHeard K C CB) [] E' (tCons (tVar 6) tNil)) rfl F.trg F.tr.kp lk hcd hb0 scTr rfl (.inl rfl) hgv F.tb rfl (List.mem_singleton.mpr rfl) (fun p hp _ => by rw [List.mem_singleton.mp hp]; rfl) hr (lamS_by (sc := defScope sLaw) (by decide +kernel)) rfl (fun _ _ _ _ _ => rfl)
      (fun A' outer' s' H' E' f' c' hr2 => pe_d F.lheard hr2 (by decide) rfl (passes_call (takes_of rfl rfl rfl rfl) (fun _ _ _ _ q => q)) (pa_cons (pv 6) pa_nil))) (pa_cons (pe_d F.due hr (by decide) rfl pass0 (pa_cons (pv 6) pa_nil)) pa_nil))))) (pss_one (ps_ret pe_bl)) pss_nil, ?_⟩
  rintro D σ H ⟨d, R, xs, ⟨hs, ht, x, y, z, hd⟩, row, v1, v3, v4, v5, v7, v8, v9, v10, v11, v12, v13, rfl⟩ k
  refine ⟨ht, fun H1 eN T1 => ?_⟩
  refine ⟨_, rfl, lheard_gives (row.fr (Fr.ext eN)) ?_ ?_⟩
  · intro hne hg zs ys p H2 ez hp2 hss s2 np hf
    obtain ⟨dx, tp, as, q1, q2, q3⟩ := hf.ob
    refine ⟨p, dx, tp, 0, as.map V.ref, rfl, q1, q2, fun l q H3 s3 nl hl nq hq => ?_⟩
    have eX : ExtN H H3 := eN.trans (ExtN.of (s2.trans s3))
    cases q3 with
    | @cons a1 _ _ _ u1 u2 =>
      cases u2
      obtain ⟨b1, w1, w2⟩ := u1
      have fd : Fd K H3 q xs := .inr ⟨hne, hg, zs, ys, l, a1, b1, ez, hp2, hss, sqT_of hq, sqL_of hl, same_sqT s3 w1, same_sqT s3 w2⟩
      refine ⟨_, rfl, ?_⟩
      unfold tNil
      show spDue K [V.ref R] H3 _ _
      refine due_same (row.fr (Fr.ext eX)) fd fun p2 H4 s4 sm => ?_
      refine ⟨.ref q, .ref p2, rfl, sm, fun H5 s5 => ⟨_, rfl, ?_⟩⟩
      refine iteF ?_
      have eY := eX.trans (ExtN.of (s4.trans s5))
      exact k _ _ ⟨d, R, xs, ⟨hs.fr (Fr.ext eY), T1.ext fun b o e => s5 _ _ (s4 _ _ (s3 _ _ (s2 _ _ e))), x, y, z, eY _ _ hd (dr_nt x y z)⟩, row.fr (Fr.ext eY), v1, v3, v4, v5, v7, v8, v9, v10, v11, v12, v13, rfl⟩
  · intro xw H2 dd hw s2 n2
    refine ⟨rfl, dd, xw, rfl, upd_same, fun a3 q H3 na s3 np hq => ?_⟩
    have smD := same_new (o := .xd [(("word" : Str), xw)]) n2
    have eX : ExtN H H3 := eN.trans (ExtN.of (s2.trans (smD.trans s3)))
    have fd : Fd K H3 q xs := .inl ⟨xw, hw.same (smD.trans s3), sqT_of hq⟩
    refine ⟨_, rfl, ?_⟩
    unfold tNil
    show spDue K [V.ref R] H3 _ _
    refine due_same (row.fr (Fr.ext eX)) fd fun p2 H4 s4 sm => ?_
    refine ⟨.ref q, .ref p2, rfl, sm, fun H5 s5 => ⟨_, rfl, ?_⟩⟩
    refine iteF ?_
    have eY := eX.trans (ExtN.of (s4.trans s5))
    exact k _ _ ⟨d, R, xs, ⟨hs.fr (Fr.ext eY), T1.ext fun b o e => s5 _ _ (s4 _ _ (s3 _ _ (smD _ _ (s2 _ _ e)))), x, y, z, eY _ _ hd (dr_nt x y z)⟩, row.fr (Fr.ext eY), v1, v3, v4, v5, v7, v8, v9, v10, v11, v12, v13, rfl⟩
end
end Mv
namespace Mv
open PySem PySem.Spec PyProof.Rows L2 LamX
/-- what == and isinstance ask of other values -/
structure FO (K : PySem.W.Frag) (C : Addr) : Prop where
  own : PySem.W.notFirst K C (.ref C) = true
  oth : ∀ t, t ∈ ["int", "str", "NoneType", "list", "tuple"] → PySem.W.notFirst K C (.type t) = true ∧ PySem.W.kitOne K (.type t) (.ref C) = some false
theorem words_ok : ∀ z ∈ WORDS ++ ODDS, PyData.strOk z = true := by decide +kernel
theorem heard_ok : PyData.strOk "heard" = true := by decide +kernel
theorem inV_mem {x : Str} : ∀ (xs : List Str), inV (.str x) (xs.map V.str) = decide (x ∈ xs)
  | [] => by
    rw [decide_eq_false (by simp)]
    rfl
  | y :: xs => by
    have ih := inV_mem (x := x) xs
    have e : inV (.str x) ((y :: xs).map V.str) = (eqV (.str y) (.str x) || inV (.str x) (xs.map V.str)) := rfl
    rw [e, ih]
    have e2 : eqV (.str y) (.str x) = decide (y = x) := by
      show (y == x) = decide (y = x)
      by_cases h : y = x
      · rw [h]
        simp
      · simp [h]
    rw [e2]
    by_cases h1 : y = x
    · simp [h1]
    · by_cases h2 : x ∈ xs
      · simp [h2]
      · simp [h1, h2, Ne.symm h1]
theorem bad_at {zs : List Str} {j : Nat} {z : Str} (h : zs[j]? = some z) : badAt (zs.map V.str) j = (!isWS z || decide (z ∈ zs.take j)) := by
  unfold badAt
  rw [List.getElem?_map, h]
  show (!isW (.str z) || inV (.str z) ((zs.map V.str).take j)) = _
  rw [← List.map_take, inV_mem]
  rfl
theorem good_rev {zs : List Str} (h : ∀ j, j < (zs.map V.str).length → badAt (zs.map V.str) j = false) : ∀ j, j < (zs.reverse.map V.str).length → badAt (zs.reverse.map V.str) j = false := by
  have ok : ∀ i (hi : i < zs.length), isWS zs[i] = true ∧ zs[i] ∉ zs.take i := fun i hi => by
    have q := h i (by rw [List.length_map]; exact hi)
    rw [bad_at (List.getElem?_eq_getElem hi)] at q
    cases e1 : isWS zs[i] with
    | false => simp [e1] at q
    | true =>
      refine ⟨rfl, fun hm => ?_⟩
      simp [e1, hm] at q
  have nd : zs.Pairwise (· ≠ ·) := by
    rw [List.pairwise_iff_getElem]
    intro i j hi hj hij e
    exact (ok j hj).2 (by rw [← e]; exact List.mem_take_iff_getElem.mpr ⟨i, by omega, rfl⟩)
  have nr : zs.reverse.Pairwise (· ≠ ·) := List.pairwise_reverse.mpr (nd.imp fun h => h.symm)
  intro j hj
  rw [List.length_map] at hj
  rw [bad_at (List.getElem?_eq_getElem hj)]
  have hm : zs.reverse[j] ∈ zs := List.mem_reverse.mp (List.getElem_mem hj)
  obtain ⟨i, hi, e⟩ := List.mem_iff_getElem.mp hm
  have hw : isWS zs.reverse[j] = true := by
    rw [← e]
    exact (ok i hi).1
  have hn : zs.reverse[j] ∉ zs.reverse.take j := fun hm => by
    obtain ⟨i, hi, e⟩ := List.mem_take_iff_getElem.mp hm
    rw [List.pairwise_iff_getElem] at nr
    exact nr i j (by omega) hj (by omega) e
  rw [hw, decide_eq_false hn]
  rfl
end Mv
namespace Mv
open PySem PySem.Spec PyProof.Rows L2 LamX
section
variable {P : Program} {w : World} {K : PySem.W.Frag} {mg : Str → Option Value} {base : Heap} {C CB c PT g fT fE f : Addr} {fdg fdT fdE : FuncData} {A : Around} {outer : List Env} {s : Shared} {H0 : Hp} {E0 : XK}
theorem wf_ne : ¬ (V.str "word" = V.str "form") := fun h => absurd (V.str.inj h) (by decide +kernel)
theorem row_ok {H : Hp} {d R : Addr} {zs ys : List Str} (row : RowAt H d R (zs.map V.str)) (hp : ys.Perm zs) : okP [(("heard" : Str) :: ys, 1)] := by
  intro p hp2
  rw [List.mem_singleton.mp hp2]
  intro z hz
  rcases List.mem_cons.mp hz with e | hz
  · rw [e]
    exact heard_ok
  · have hm : V.str z ∈ zs.map V.str := List.mem_map.mpr ⟨z, hp.mem_iff.mp hz, rfl⟩
    have q := row.all _ hm
    generalize hv : V.str z = v at q
    cases q with
    | str h =>
      cases hv
      exact words_ok _ h
    | non => cases hv
    | int => cases hv
    | bl => cases hv
    | tup => cases hv
    | lst => cases hv
    | dic => cases hv
theorem ho_eq (F : LF P w K mg base C CB c PT g fT fE fdg fdT fdE) (O : FO K C) (hr : Room 7 (LX P w K mg base f c A outer s H0 E0).A) {a : Addr} {ns : List Int} :
    Ho (LX P w K mg base f c A outer s H0 E0) (stAt oB 4) (fun σ H => ∃ d R xs, IG K PT a d ns H ∧ RowAt H d R xs ∧ SR a d R σ) (fun σ H => ∃ d R xs, IG K PT a d ns H ∧ RowAt H d R xs ∧ SR a d R σ) := by
  refine ⟨_, ps_if (PW.pt (pw_and (pt_cmpR op_eq (pe_ix ix_tup (pe_d F.due hr (by decide) rfl pass0 (pa_cons (pv 6) pa_nil)) pe_int (fun _ _ => rfl)) pe_str (nomark _))
    (pw_and1 (pt_not (pt_cmpR (op_ownEq F.ge F.be (hr.mono (by decide)) F.fq.eq F.fq.fn) (pe_d F.lheard hr (by decide) rfl (passes_call (E := fun _ _ _ => False) L2.takes0 (fun _ _ _ _ q => q)) (pa_cons (pv 6) pa_nil))
      (pe_d F.lheard hr (by decide) rfl (passes_call (E := fun _ _ _ => False) L2.takes0 (fun _ _ _ _ q => q)) (pa_cons (pe_revL (pv 6)) pa_nil)) (nomark _)))))) (pss_one (ps_ret pe_bl)) pss_nil, ?_⟩
  rintro D σ H ⟨d, R, xs, ⟨hs, ht, x, y, z, hd⟩, row, v1, v3, v4, v5, v7, v8, v9, v10, v11, v12, v13, rfl⟩ k
  have out : ∀ H', Same H H' → D.nx [some (.ref a), v1, some (.ref d), v3, v4, v5, some (.ref R), v7, v8, v9, v10, v11, v12, v13] H' := fun H' s' =>
    k _ _ ⟨d, R, xs, ⟨hs.fr (Fr.same s'), tabs_same ht s', x, y, z, s' _ _ hd⟩, row.fr (Fr.same s'), v1, v3, v4, v5, v7, v8, v9, v10, v11, v12, v13, rfl⟩
  have hl := row.len
  refine ⟨_, rfl, R, xs, rfl, row.at_, by omega, fun v hv H2 s2 => ((row.all v hv).fr (Fr.same s2)).kn, ?_, ?_, ?_⟩
  · intro i v hv hb hg p H' s' np hp
    refine ⟨p, _, 0, _, rfl, rfl, sqT_of hp, rfl, rfl, _, rfl, ?_⟩
    refine ifF (decide_eq_false wf_ne) ?_
    exact out H' s'
  · intro e0 p e H' s' np he hp
    refine ⟨p, _, 0, _, rfl, rfl, sqT_of hp, rfl, rfl, _, rfl, ?_⟩
    refine ifF (decide_eq_false wf_ne) ?_
    exact out H' s'
  · intro hne hg
    obtain ⟨zs, ez⟩ := good_strs hg
    subst ez
    refine ⟨zs, rfl, fun ys p l q t H1 hpm hss s1 np ht1 hq hl1 hp => ?_⟩
    refine ⟨p, _, 0, _, rfl, rfl, sqT_of hp, rfl, rfl, _, rfl, ?_⟩
    refine ifT (decide_eq_true rfl) ?_
    refine ⟨_, rfl, ?_⟩
    unfold tNil
    show spLHeard K C CB [V.ref R] H1 _ _
    refine lheard_gives (row.fr (Fr.same s1)) ?_ ?_
    · intro _ _ zs2 ys1 p1 H2 ez2 hp1 hs1 s2 n2 hf1
      have e2 := map_str_inj ez2
      subst e2
      have rw2 := row.fr (Fr.same (s1.trans s2))
      refine ⟨_, rfl, R, _, rfl, sqL_of rw2.at_, fun R2 hR2 => ?_⟩
      have sR := same_new (o := .lst (zs.map V.str).reverse) hR2
      have row2 : RowAt (upd H2 R2 (.lst (zs.map V.str).reverse)) d R2 (zs.reverse.map V.str) := by
        refine ⟨by rw [upd_same, List.map_reverse], fun e => ?_, by rw [List.length_map, List.length_reverse]; rw [List.length_map] at hl; exact hl, fun v hv => (rw2.all v ?_).fr (Fr.same sR)⟩
        · rw [e, s2 _ _ (s1 _ _ hd)] at hR2
          cases hR2
        · rw [List.map_reverse] at hv
          exact List.mem_reverse.mp hv
      show spLHeard K C CB [V.ref R2] _ _ _
      refine lheard_gives row2 ?_ ?_
      · intro _ _ zs3 ys2 p2 H3 ez3 hp2 hs2 s3 n3 hf2
        have e3 := map_str_inj ez3
        subst e3
        have ey : ys1 = ys2 := sorted_uniq hp1 (hp2.trans (List.reverse_perm zs)) hs1 hs2
        subst ey
        have g1 := hf1.same (sR.trans s3)
        obtain ⟨dx, tp, as, q1, q2, q3⟩ := g1.ob
        have ok1 := row_ok row hp1
        refine ⟨p1, dx, _, .ref C, rfl, q1, ty_form F.ft F.fq hf2, O.own, p1, _, _, 0, rfl, g1, ok1, .inl ⟨p2, _, 0, rfl, hf2, ok1, true, ?_, _, rfl, ?_⟩⟩
        · rw [decide_eq_true rfl, decide_eq_true rfl]
          rfl
        · refine iteF ?_
          exact out _ (s1.trans (s2.trans (sR.trans s3)))
      · rintro xw H3 dd (⟨e1, _⟩ | ⟨i2, hx2, hb2, _⟩) s3 n3
        · have q := congrArg List.length e1
          rw [List.length_map, List.length_reverse] at q
          refine hne ?_
          rw [List.length_eq_zero_iff.mp q]
          rfl
        · rw [good_rev hg i2 (List.getElem?_eq_some_iff.mp hx2).1] at hb2
          cases hb2
    · rintro xw H2 dd (⟨e1, _⟩ | ⟨i2, hx2, hb2, _⟩) s2 n2
      · exact hne e1
      · rw [hg i2 (List.getElem?_eq_some_iff.mp hx2).1] at hb2
        cases hb2
end
end Mv
namespace Mv
open PySem PySem.Spec PyProof.Rows L2 LamX
section
variable {P : Program} {w : World} {K : PySem.W.Frag} {mg : Str → Option Value} {base : Heap} {C CB c PT g fT fE f : Addr} {fdg fdT fdE : FuncData} {A : Around} {outer : List Env} {s : Shared} {H0 : Hp} {E0 : XK}
theorem oB_eq : oB = [stAt oB 0, stAt oB 1, stAt oB 2, stAt oB 3, stAt oB 4] := rfl
theorem ho_outer (F : LF P w K mg base C CB c PT g fT fE fdg fdT fdE) (O : FO K C) (hr : Room 7 (LX P w K mg base f c A outer s H0 E0).A) {a : Addr} {ns : List Int} :
    Ho (LX P w K mg base f c A outer s H0 E0) (stAt lawB 0) (fun σ H => OG K PT a ns H ∧ ∃ v1, SB a v1 σ) (fun σ H => OG K PT a ns H ∧ ∃ v1, SB a v1 σ) := by
  have body := (ho_src (f := f) (A := A) (outer := outer) (s := s) (H0 := H0) (E0 := E0) F hr (a := a) (ns := ns)).cons ((ho_inner F hr).cons ((ho_row F hr).cons ((ho_try2 F hr).cons ((ho_eq F O hr).cons Hos.nil))))
  rw [← oB_eq] at body
  obtain ⟨tb, hb, kb⟩ := body
  refine ⟨_, ps_for PassesOwn.never rfl (pi_range1 (by rfl) F.range (pa_cons (pe_op op_add pe_int (pe_callB (call_min2 rfl) (by rfl) F.min (by decide +kernel) (pa_cons (pe_callB call_len_seq (by rfl) F.len PySem.boot_len (pa_cons (pv 0) pa_nil)) (pa_cons pe_int pa_nil)))) pa_nil)) (pg_name (i := 1) scLa.nd rfl (.inl rfl)) hb, ?_⟩
  rintro D σ H ⟨⟨hS, hT⟩, v1, so⟩ k
  obtain ⟨v2, v3, v4, v5, v6, v7, v8, v9, v10, v11, v12, v13, rfl⟩ := so
  refine ⟨_, rfl, a, _, rfl, .inl hS, _, _, rfl, _, _, rfl, rfl, ?_⟩
  refine ⟨_, rfl, ?_, ?_, for_it walk_range (fun i σ' H' => OG K PT a ns H' ∧ ∃ v1, SB a v1 σ') ⟨⟨hS, hT⟩, v1, v2, v3, v4, v5, v6, v7, v8, v9, v10, v11, v12, v13, rfl⟩ (fun _ _ _ _ _ => True.intro) ?_ (fun σ' H' h => k σ' H' h)⟩
  · split <;> omega
  · split <;> omega
  · rintro i x σ' H' _ hi ⟨og, v1, v2, v3, v4, v5, v6, v7, v8, v9, v10, v11, v12, v13, rfl⟩ ⟨rfl, rfl⟩
    refine kb _ _ _ ⟨i, ?_, og, v2, v3, v4, v5, v6, v7, v8, v9, v10, v11, v12, v13, ?_⟩ ?_
    · split at hi <;> omega
    · show [some (V.ref a), some (V.int (0 + (i : Int))), v2, v3, v4, v5, v6, v7, v8, v9, v10, v11, v12, v13] = _
      rw [Int.zero_add]
    · rintro σ2 H2 ⟨d, R, xs, ig, row, v1, v3, v4, v5, v7, v8, v9, v10, v11, v12, v13, rfl⟩
      exact ⟨⟨ig.1.now, ig.2.1⟩, v1, _, v3, v4, v5, _, v7, v8, v9, v10, v11, v12, v13, rfl⟩
/-- the law's eight forms -/
def FORMS : List Prs := [[(["n"], 1)], [(["t"], 1)], [(["f"], 1)], [(["at", "a"], 1)], [(["begun", "a"], 1)], [(["said", "a"], 1)], [(["heard", "a"], 1)], [(["heard", "a", "b"], 1)]]
def FormsAt (K : PySem.W.Frag) (C : Addr) (H : Hp) (as : List Addr) : Prop := Paired (fun p ps => FormAt K C H p ps 0) as FORMS
theorem FormsAt.same {H H' : Hp} {as : List Addr} (h : FormsAt K C H as) (s : Same H H') : FormsAt K C H' as := L2.Paired.mapP h fun _ _ q => q.same s
def SL (a L : Addr) (σ : L2.St) : Prop := ∃ v1 v2 v3 v4 v5 v6 v7 v9 v10 v11 v12 v13, σ = [some (.ref a), v1, v2, v3, v4, v5, v6, v7, some (.ref L), v9, v10, v11, v12, v13]
theorem kn_str {z : Str} {H : Hp} (h : z.length ≤ 9) : Kn K H (.str z) := .str (Nat.le_trans h (by show 9 ≤ sizeLine; decide))
theorem heard_words {zs : List Str} {H : Hp} {Q : VK} {E : XK} (hne : zs ≠ []) (hl : zs.length ≤ 4) (hg : ∀ j, j < (zs.map V.str).length → badAt (zs.map V.str) j = false) (hz : ∀ z ∈ zs, z.length ≤ 9)
    (k : ∀ (ys : List Str) (p : Addr) (H' : Hp), ys.Perm zs → sortedS ys = true → Same H H' → H p = none → FormAt K C H' p [(("heard" : Str) :: ys, 1)] 0 → Q (.ref p) H') : (zs.map V.str).length ≤ 50 ∧ spHeard K C CB (zs.map V.str) H Q E := by
  have hl2 : (zs.map V.str).length ≤ 50 := by
    rw [List.length_map]
    omega
  refine ⟨hl2, fun p hp => ?_⟩
  have sp := same_new (o := .tup (zs.map V.str)) hp
  refine ⟨p, _, rfl, sqT_of upd_same, hl2, fun x hx H2 s2 => ?_, fun e => ?_, fun i x hx hb hg2 => ?_, fun _ _ => ⟨zs, rfl, fun ys hpm hs p2 H2 s2 n2 hf => k ys p2 H2 hpm hs (sp.trans s2) (sp.free n2) hf⟩⟩
  · obtain ⟨z, h1, rfl⟩ := List.mem_map.mp hx
    exact kn_str (hz z h1)
  · have q := congrArg List.length e
    rw [List.length_map] at q
    exact absurd (List.length_eq_zero_iff.mp q) hne
  · rw [hg i (List.getElem?_eq_some_iff.mp hx).1] at hb
    cases hb
theorem ho_forms (F : LF P w K mg base C CB c PT g fT fE fdg fdT fdE) (hr : Room 7 (LX P w K mg base f c A outer s H0 E0).A) {a : Addr} :
    Ho (LX P w K mg base f c A outer s H0 E0) (stAt lawB 1) (fun σ H => ∃ v1, SB a v1 σ) (fun σ H => ∃ L as, SL a L σ ∧ H L = some (.lst (as.map V.ref)) ∧ FormsAt K C H as) := by
  obtain ⟨f1, g1, fd1, ps1, G1, k1, b1⟩ := F.at_
  obtain ⟨f2, g2, fd2, ps2, G2, k2, b2⟩ := F.beg
  obtain ⟨f3, g3, fd3, ps3, G3, k3, b3⟩ := F.sai
  obtain ⟨f4, G4, g4, k4⟩ := F.hrd
  obtain ⟨m1, _, M1, _⟩ := F.mem
  obtain ⟨m2, _, M2, _⟩ := F.bou
  obtain ⟨m3, _, M3, _⟩ := F.fau
  have px : Passes (L2.CX P w) (LX P w K mg base f c A outer s H0 E0) (fun _ _ _ => False) := passes_call L2.takes0 (fun _ _ _ _ q => q)
  refine ⟨_, ps_set (i := 8) scLa.nd rfl (.inl rfl) (pe_lst (pa_cons (pe_d0 M1 hr (by decide) rfl pass0) (pa_cons (pe_d0 M2 hr (by decide) rfl pass0) (pa_cons (pe_d0 M3 hr (by decide) rfl pass0)
    (pa_cons (pe_call G1 (hr.mono (by decide)) rfl g1 k1 b1 .nil px (pa_cons pe_str pa_nil)) (pa_cons (pe_call G2 (hr.mono (by decide)) rfl g2 k2 b2 .nil px (pa_cons pe_str pa_nil)) (pa_cons (pe_call G3 (hr.mono (by decide)) rfl g3 k3 b3 .nil px (pa_cons pe_str pa_nil))
    (pa_cons (pe_callR G4 (hr.mono (by decide)) k4 rfl g4 px (pa_cons pe_str pa_nil)) (pa_cons (pe_callR G4 (hr.mono (by decide)) k4 rfl g4 px (pa_cons pe_str (pa_cons pe_str pa_nil))) pa_nil))))))))), ?_⟩
  rintro D σ H ⟨v1, v2, v3, v4, v5, v6, v7, v8, v9, v10, v11, v12, v13, rfl⟩ k
  refine ⟨rfl, fun p1 H1 s1 n1 h1 => ?_⟩
  refine ⟨rfl, fun p2 H2 s2 n2 h2 => ?_⟩
  refine ⟨rfl, fun p3 H3 s3 n3 h3 => ?_⟩
  have wa : isWS "a" = true := by decide +kernel
  refine ⟨_, rfl, kn_str (by decide +kernel), fun z ez wz p4 H4 s4 n4 h4 => ?_, fun wz => absurd (show isWS "a" = false from wz) (by rw [wa]; decide)⟩
  cases ez
  refine ⟨_, rfl, kn_str (by decide +kernel), fun z ez wz p5 H5 s5 n5 h5 => ?_, fun wz => absurd (show isWS "a" = false from wz) (by rw [wa]; decide)⟩
  cases ez
  refine ⟨_, rfl, kn_str (by decide +kernel), fun z ez wz p6 H6 s6 n6 h6 => ?_, fun wz => absurd (show isWS "a" = false from wz) (by rw [wa]; decide)⟩
  cases ez
  refine heard_words (zs := ["a"]) (by decide) (by decide) (by decide +kernel) (by decide +kernel) fun ys p7 H7 hp7 hs7 s7 n7 h7 => ?_
  have e7 : ys = (["a"] : List Str) := sorted_uniq hp7 (List.Perm.refl _) hs7 (by decide +kernel)
  subst e7
  refine heard_words (zs := ["a", "b"]) (by decide) (by decide) (by decide +kernel) (by decide +kernel) fun ys p8 H8 hp8 hs8 s8 n8 h8 => ?_
  have e8 : ys = (["a", "b"] : List Str) := sorted_uniq hp8 (List.Perm.refl _) hs8 (by decide +kernel)
  subst e8
  refine ⟨(by show 8 ≤ sizeLine; decide), fun L hL => ?_⟩
  have s9 := same_new (o := .lst [V.ref p1, V.ref p2, V.ref p3, V.ref p4, V.ref p5, V.ref p6, V.ref p7, V.ref p8]) hL
  have t8 := s9
  have t7 := s8.trans t8
  have t6 := s7.trans t7
  have t5 := s6.trans t6
  have t4 := s5.trans t5
  have t3 := s4.trans t4
  have t2 := s3.trans t3
  have t1 := s2.trans t2
  exact k _ _ ⟨L, [p1, p2, p3, p4, p5, p6, p7, p8], ⟨v1, v2, v3, v4, v5, v6, v7, v9, v10, v11, v12, v13, rfl⟩, upd_same,
    .cons (h1.same t1) (.cons (h2.same t2) (.cons (h3.same t3) (.cons (h4.same t4) (.cons (h5.same t5) (.cons (h6.same t6) (.cons (h7.same t7) (.cons (h8.same t8) .nil)))))))⟩
end
end Mv
namespace Mv
open PySem PySem.Spec PyProof.Rows L2 LamX
theorem paired_at {α β : Type} {R : α → β → Prop} {as : List α} {bs : List β} (h : Paired R as bs) : ∀ {i : Nat} {x : α}, as[i]? = some x → ∃ y, bs[i]? = some y ∧ R x y := by
  induction h with
  | nil => exact fun e => nomatch e
  | cons r _ ih =>
    intro i x e
    match i, e with
    | 0, e =>
      cases e
      exact ⟨_, rfl, r⟩
    | i + 1, e => exact ih e
theorem paired_len {α β : Type} {R : α → β → Prop} {as : List α} {bs : List β} (h : Paired R as bs) : as.length = bs.length := by
  induction h with
  | nil => rfl
  | cons _ _ ih => rw [List.length_cons, List.length_cons, ih]
theorem forms_ok : ∀ ps ∈ FORMS, okP ps := by
  unfold okP okT
  decide +kernel
theorem forms_eq : ∀ i, i < 8 → ∀ j, j < 8 → decide (FORMS[i]? = FORMS[j]?) = decide (j = i) := by decide +kernel
theorem sm_bls {K : PySem.W.Frag} {H : Hp} {a b : Addr} {bs : List Bool} (n : Nat) (h1 : SqL K H a (bs.map V.bl)) (h2 : SqL K H b (bs.map V.bl)) (hz : bs.length ≤ 1000) : SmD K H (n + 1) (.ref a) (.ref b) := by
  refine .lst h1 h2 rfl (by rw [List.length_map]; exact hz) fun i x y e1 e2 => ?_
  rw [e1] at e2
  cases e2
  rw [List.getElem?_map] at e1
  cases e : bs[i]? with
  | none =>
    rw [e] at e1
    cases e1
  | some z =>
    rw [e] at e1
    cases e1
    exact .bl _ _
abbrev fB : List Stmt := forBody (stAt lawB 2)
section
variable {P : Program} {w : World} {K : PySem.W.Frag} {mg : Str → Option Value} {base : Heap} {C CB c PT g fT fE f : Addr} {fdg fdT fdE : FuncData} {A : Around} {outer : List Env} {s : Shared} {H0 : Hp} {E0 : XK}
/-- told for all of some things at once -/
def HoI {I : Type} (X : Cx) (st : Stmt) (pre post : I → L2.St → Hp → Prop) : Prop := ∃ t, PS X st t ∧ ∀ i D σ H, pre i σ H → (∀ σ' H', post i σ' H' → D.nx σ' H') → t D σ H
def HosI {I : Type} (X : Cx) (sts : List Stmt) (pre post : I → L2.St → Hp → Prop) : Prop := ∃ t, PSs X sts t ∧ ∀ i D σ H, pre i σ H → (∀ σ' H', post i σ' H' → D.nx σ' H') → t D σ H
theorem HoI.cons {I : Type} {X : Cx} {st : Stmt} {r : List Stmt} {a b c : I → L2.St → Hp → Prop} (h : HoI X st a b) (g : HosI X r b c) : HosI X (st :: r) a c := by
  obtain ⟨t, ht, kt⟩ := h
  obtain ⟨u, hu, ku⟩ := g
  refine ⟨_, C8.pss_cut ht hu, fun i D σ H ha k => ⟨b i, kt i _ σ H ha fun _ _ q => q, fun σ' H' hb => ku i D σ' H' hb k⟩⟩
theorem HosI.nil {I : Type} {X : Cx} {a : I → L2.St → Hp → Prop} : HosI X [] a a := ⟨_, pss_nil, fun _ _ _ _ ha k => k _ _ ha⟩
def LG (K : PySem.W.Frag) (C a L : Addr) (as : List Addr) (i : Nat) (σ : L2.St) (H : Hp) : Prop := ∃ (p : Addr), H L = some (.lst (as.map V.ref)) ∧ FormsAt K C H as ∧ as[i]? = some p ∧ ∃ v1 v2 v3 v4 v5 v6 v10 v11 v12 v13, σ = [some (.ref a), v1, v2, v3, v4, v5, v6, some (.int i), some (.ref L), some (.ref p), v10, v11, v12, v13]
theorem op_eqB {X : Cx} {sb : Shared} {Hb : Hp} {scope : Scope} {cenv : Env} {fp : List Addr} {C f : Addr} {k : Nat} {fd : FuncData} {ps : List Str} {sp : Sp} (G : FnOk X.prog X.w X.K X.mg X.base C8.CX0 k f fd ps sp) (hb : Binds X.K fd ps []) (hr : Room k X.A) (hs : PySem.W.findIn X.K (.ref C) "__eq__" = some (some (.ref f))) (hf : PySem.W.isFn X.K (.ref f) = true) :
    OpR (X.blk sb Hb scope cenv fp) (compareOp .Eq) (OwnEqR X.K C sp false) := op_ownEq (X := X.blk sb Hb scope cenv fp) G hb hr hs hf
theorem op_neB {X : Cx} {sb : Shared} {Hb : Hp} {scope : Scope} {cenv : Env} {fp : List Addr} {C f : Addr} {k : Nat} {fd : FuncData} {ps : List Str} {sp : Sp} (G : FnOk X.prog X.w X.K X.mg X.base C8.CX0 k f fd ps sp) (hb : Binds X.K fd ps []) (hr : Room (k + 1) X.A) (hs : PySem.W.findIn X.K (.ref C) "__eq__" = some (some (.ref f))) (hf : PySem.W.isFn X.K (.ref f) = true)
    (hne : PySem.W.findIn X.K (.ref C) "__ne__" = some (some (.builtin "object.__ne__"))) (hob : PySem.W.subIn X.K (.ref C) (.type "object") = some true) :
    OpR (X.blk sb Hb scope cenv fp) (compareOp .NotEq) (OwnEqR X.K C sp true) := op_ownNe (X := X.blk sb Hb scope cenv fp) G hb hr hs hf hne hob
theorem ho_if1 (F : LF P w K mg base C CB c PT g fT fE fdg fdT fdE) (O : FO K C) (hr : Room 7 (LX P w K mg base f c A outer s H0 E0).A) {a : Addr} :
    HoI (LX P w K mg base f c A outer s H0 E0) (stAt fB 0) (fun (q : Addr × List Addr) σ H => ∃ i, i < 8 ∧ LG K C a q.1 q.2 i σ H) (fun q σ H => ∃ i, i < 8 ∧ LG K C a q.1 q.2 i σ H) := by
  refine ⟨_, ps_if (pt_not (pt_val (pe_d F.same hr (by decide) rfl pass0 (pa_cons
    (pe_lc (own := [("_law_other", 10)]) (g := gName 10) (tt := tYes) rfl scLa.nd (pi_list (pv 8)) (blkOk_by (N := nLaw) (sc := defScope sLaw) (by decide +kernel)) (fun _ _ _ _ _ => pg_name (i := 10) scLa.nd rfl (Or.inl rfl)) (fun _ _ _ _ _ => pts_nil) (fun _ _ _ _ _ => pe_cmpR (op_eqB (X := LX P w K mg base f c A outer s H0 E0) F.ge F.be (hr.mono (by decide)) F.fq.eq F.fq.fn) (pv 9) (pv 10) (nomark _)))
    (pa_cons (pe_lc (own := [("_law_j", 11)]) (g := gName 11) (tt := tYes) rfl scLa.nd (pi_range1 (by rfl) F.range (pa_cons (pe_callB call_len_seq (by rfl) F.len PySem.boot_len (pa_cons (pv 8) pa_nil)) pa_nil)) (blkOk_by (N := nLaw) (sc := defScope sLaw) (by decide +kernel)) (fun _ _ _ _ _ => pg_name (i := 11) scLa.nd rfl (Or.inl rfl)) (fun _ _ _ _ _ => pts_nil) (fun _ _ _ _ _ => pe_cmpR op_eq (pv 11) (pv 7) (nomark _))) pa_nil))))) (pss_one (ps_ret pe_bl)) pss_nil, ?_⟩
  rintro ⟨L, as⟩ D σ H ⟨i, hi, p, hL, hA, hp, v1, v2, v3, v4, v5, v6, v10, v11, v12, v13, rfl⟩ k
  obtain ⟨fi, hfi, hFi⟩ := paired_at hA hp
  have hlen : as.length = 8 := paired_len hA
  have oki := forms_ok fi (List.mem_of_getElem? hfi)
  refine ⟨_, rfl, L, rfl, ⟨_, sqL_of hL⟩, fun R1 n1 => ?_⟩
  refine lc_it (walk_list (xs := as.map V.ref)) (fun j H' => Same H H' ∧ H' R1 = some (.lst (((List.range j).map fun j => decide (j = i)).map V.bl))) ⟨same_new n1, upd_same⟩ (fun j H' _ q => sqL_of (q.1 _ _ hL)) ?_ ?_
  · rintro j x H1 H1' hj ⟨sm, hd⟩ ⟨rfl, hx⟩
    refine ⟨rfl, ?_⟩
    unfold tYes
    refine iteT ?_
    rw [List.getElem?_map] at hx
    cases eq : as[j]? with
    | none =>
      rw [eq] at hx
      cases hx
    | some q =>
      rw [eq] at hx
      cases hx
      obtain ⟨fj, hfj, hFj⟩ := paired_at hA eq
      have okj := forms_ok fj (List.mem_of_getElem? hfj)
      have g1 := hFi.same sm
      obtain ⟨dx, tp, aa, q1, q2, q3⟩ := g1.ob
      refine ⟨_, rfl, _, rfl, p, dx, _, .ref C, rfl, q1, ty_form F.ft F.fq (hFj.same sm), O.own, p, _, fi, 0, rfl, g1, oki, .inl ⟨q, fj, 0, rfl, hFj.same sm, okj, _, rfl, ?_⟩⟩
      have e2 : decide (fi = fj) = decide (j = i) := by
        rw [← forms_eq i hi j (by rw [List.length_map, hlen] at hj; exact hj), hfi, hfj]
        by_cases h : fi = fj <;> simp [h]
      refine ⟨_, hd, ?_, same_put sm n1, ?_⟩
      · rw [List.length_map, List.length_map, List.length_range]
        rw [List.length_map, hlen] at hj
        exact small1000 (by omega)
      · rw [upd_same, List.range_succ, List.map_append, List.map_append, e2]
        simp
  · rintro H1 ⟨s1, hd1⟩
    rw [List.length_map, hlen] at hd1
    refine ⟨_, rfl, L, _, rfl, .inl (sqL_of (s1 _ _ hL)), _, rfl, ?_, ?_, fun R2 n2 => ?_⟩
    · omega
    · rw [List.length_map, hlen]
      decide
    · rw [List.length_map, hlen]
      refine lc_it walk_range (fun j H' => Same H1 H' ∧ H' R2 = some (.lst (((List.range j).map fun j => decide (j = i)).map V.bl))) ⟨same_new n2, upd_same⟩ (fun _ _ _ _ => True.intro) ?_ ?_
      · rintro j x H2 H2' hj ⟨sm, hd⟩ ⟨rfl, rfl⟩
        refine ⟨rfl, ?_⟩
        unfold tYes
        refine iteT ?_
        refine ⟨_, rfl, _, rfl, rfl, _, hd, ?_, same_put sm n2, ?_⟩
        · rw [List.length_map, List.length_map, List.length_range]
          have : j < 8 := hj
          exact small1000 (by omega)
        · rw [upd_same, List.range_succ, List.map_append, List.map_append]
          have e3 : decide (V.int (0 + (j : Int)) = V.int (i : Int)) = decide (j = i) := by
            rw [Int.zero_add]
            by_cases h : j = i
            · simp [h]
            · have h2 : ¬ (V.int (j : Int) = V.int (i : Int)) := fun e => h (Int.ofNat.inj (V.int.inj e))
              simp [h, h2]
          rw [e3]
          rfl
      · rintro H2 ⟨s2, hd2⟩
        refine ⟨.ref R1, .ref R2, rfl, sm_bls 4 (sqL_of (s2 _ _ hd1)) (sqL_of hd2) (by rw [List.length_map, List.length_range]; decide), fun H3 s3 => ⟨_, rfl, ?_⟩⟩
        refine iteF ?_
        have sT := s1.trans (s2.trans s3)
        exact k _ _ ⟨i, hi, p, sT _ _ hL, hA.same sT, hp, v1, v2, v3, v4, v5, v6, v10, v11, v12, v13, rfl⟩
end
end Mv
namespace Mv
open PySem PySem.Spec PyProof.Rows L2 LamX
section
variable {P : Program} {w : World} {K : PySem.W.Frag} {mg : Str → Option Value} {base : Heap} {C CB c PT g fT fE f : Addr} {fdg fdT fdE : FuncData} {A : Around} {outer : List Env} {s : Shared} {H0 : Hp} {E0 : XK}
/-- a value of a sort that is no form -/
def OthV (K : PySem.W.Frag) (H : Hp) (x : V) : Prop := ∃ t, t ∈ ["int", "str", "NoneType", "list", "tuple"] ∧ TyX K H x (.type t)
theorem OthV.same {H H' : Hp} {x : V} (h : OthV K H x) (s : Same H H') : OthV K H' x := by
  obtain ⟨t, h1, h2⟩ := h
  exact ⟨t, h1, same_ty s h2⟩
theorem ho_if2 (F : LF P w K mg base C CB c PT g fT fE fdg fdT fdE) (O : FO K C) (hr : Room 7 (LX P w K mg base f c A outer s H0 E0).A) {a : Addr} :
    HoI (LX P w K mg base f c A outer s H0 E0) (stAt fB 1) (fun (q : Addr × List Addr) σ H => ∃ i, i < 8 ∧ LG K C a q.1 q.2 i σ H) (fun q σ H => ∃ i, i < 8 ∧ LG K C a q.1 q.2 i σ H) := by
  refine ⟨_, ps_if (pt_val (pe_callB (cr_any rfl) (by rfl) F.any (by decide +kernel) (pa_cons
    (pe_lc (own := [("_law_thing", 4)]) (g := gName 4) (tt := tYes) rfl scLa.nd (pi_list (pe_lst (pa_cons (pv 7) (pa_cons pe_str (pa_cons pe_non (pa_cons (pe_lst (pa_cons (pe_tup (pa_cons pe_str (pa_cons pe_int pa_nil))) pa_nil)) (pa_cons (pe_tup (pa_cons pe_str pa_nil)) (pa_cons (pe_meth0 (pv 9) F.ft.cl F.mt F.gt (hr.mono (by decide)) F.bt .nil pass0) pa_nil))))))))
      (blkOk_by (N := nLaw) (sc := defScope sLaw) (by decide +kernel)) (fun _ _ _ _ _ => pg_name (i := 4) scLa.nd rfl (Or.inl rfl)) (fun _ _ _ _ _ => pts_nil)
      (fun _ _ _ _ _ => pe_or (pe_cmpR (op_eqB (X := LX P w K mg base f c A outer s H0 E0) F.ge F.be (hr.mono (by decide)) F.fq.eq F.fq.fn) (pv 9) (pv 4) (nomark _))
        (pe_one (pe_not (pe_cmpR (op_neB (X := LX P w K mg base f c A outer s H0 E0) F.ge F.be (hr.mono (by decide)) F.fq.eq F.fq.fn F.fq.ne F.fq.ob) (pv 9) (pv 4) (nomark _)))))) pa_nil))) (pss_one (ps_ret pe_bl)) pss_nil, ?_⟩
  rintro ⟨L, as⟩ D σ H ⟨i, hi, p, hL, hA, hp, v1, v2, v3, v4, v5, v6, v10, v11, v12, v13, rfl⟩ k
  obtain ⟨fi, hfi, hFi⟩ := paired_at hA hp
  have oki := forms_ok fi (List.mem_of_getElem? hfi)
  obtain ⟨dx, tp, aa, q1, q2, q3⟩ := hFi.ob
  refine ⟨_, rfl, (by show 2 ≤ sizeLine; decide), fun b1 h1 => ⟨(by show 1 ≤ sizeLine; decide), fun b2 h2 => ⟨(by show 1 ≤ sizeLine; decide), fun b3 h3 => ?_⟩⟩⟩
  have s1 := same_new (o := .tup [V.str "a", V.int 1]) h1
  have s2 := s1.trans (same_new (o := .lst [V.ref b1]) h2)
  have s3 := s2.trans (same_new (o := .tup [V.str "n"]) h3)
  refine ⟨_, rfl, p, dx, _, rfl, s3 _ _ q1, flds_no _ _ (by decide +kernel) (by decide +kernel), p, dx, tp, 0, aa.map V.ref, rfl, s3 _ _ q1, same_sqT s3 q2, fun l hl => ?_⟩
  have s4 := same_new (o := .lst (aa.map V.ref)) hl
  refine ⟨(by show 6 ≤ sizeLine; decide), fun L2 hL2 => ?_⟩
  have s5 := same_new (o := .lst [V.int i, V.str "a", V.non, V.ref b2, V.ref b3, V.ref l]) hL2
  have e1 : ∀ x ∈ [V.int (i : Int), V.str "a", V.non, V.ref b2, V.ref b3, V.ref l], OthV K (upd (upd (upd (upd (upd H b1 (.tup [V.str "a", V.int 1])) b2 (.lst [V.ref b1])) b3 (.tup [V.str "n"])) l (.lst (aa.map V.ref))) L2 (.lst [V.int i, V.str "a", V.non, V.ref b2, V.ref b3, V.ref l])) x := by
    intro x hx
    simp only [List.mem_cons, List.not_mem_nil, or_false] at hx
    rcases hx with rfl | rfl | rfl | rfl | rfl | rfl
    · exact ⟨"int", by simp, .base (.int _)⟩
    · exact ⟨"str", by simp, .base (.str _)⟩
    · exact ⟨"NoneType", by simp, .base .non⟩
    · exact ⟨"list", by simp, ty_lst (sqL_of (s5 _ _ (s4 _ _ (same_new h3 _ _ upd_same))))⟩
    · exact ⟨"tuple", by simp, ty_tup (sqT_of (s5 _ _ (s4 _ _ upd_same)))⟩
    · exact ⟨"list", by simp, ty_lst (sqL_of (s5 _ _ upd_same))⟩
  have s6 := s3.trans (s4.trans s5)
  refine ⟨L2, rfl, ⟨_, sqL_of upd_same⟩, fun R hR => ?_⟩
  generalize hG : upd (upd (upd (upd (upd H b1 (.tup [V.str "a", V.int 1])) b2 (.lst [V.ref b1])) b3 (.tup [V.str "n"])) l (.lst (aa.map V.ref))) L2 (.lst [V.int i, V.str "a", V.non, V.ref b2, V.ref b3, V.ref l]) = G at e1 s6 hR
  have gL : G L2 = some (.lst [V.int i, V.str "a", V.non, V.ref b2, V.ref b3, V.ref l]) := by rw [← hG, upd_same]
  refine lc_it (walk_list (xs := [V.int (i : Int), V.str "a", V.non, V.ref b2, V.ref b3, V.ref l])) (fun j H' => Same G H' ∧ H' R = some (.lst ((List.replicate j false).map V.bl))) ⟨same_new hR, upd_same⟩ (fun j H' _ q => sqL_of (q.1 _ _ gL)) ?_ ?_
  · rintro j x H1 H1' hj ⟨sm, hd⟩ ⟨rfl, hx⟩
    refine ⟨rfl, ?_⟩
    unfold tYes
    refine iteT ?_
    obtain ⟨t, mt, ty⟩ := (e1 x (List.mem_of_getElem? hx)).same sm
    obtain ⟨o1, o2⟩ := O.oth t mt
    have g1 := (hFi.same s6).same sm
    have q1' := sm _ _ (s6 _ _ q1)
    refine ⟨_, rfl, _, rfl, p, dx, _, .type t, rfl, q1', ty, o1, p, x, fi, 0, rfl, g1, oki, .inr ⟨.type t, ty, o2, false, rfl, false, rfl, ?_⟩⟩
    refine iteF ?_
    refine ⟨_, rfl, _, rfl, p, dx, _, .type t, rfl, q1', ty, o1, p, x, fi, 0, rfl, g1, oki, .inr ⟨.type t, ty, o2, false, rfl, true, rfl, ?_⟩⟩
    refine ⟨_, hd, ?_, same_put sm hR, ?_⟩
    · rw [List.length_map, List.length_replicate]
      have : j < 6 := hj
      exact small1000 (by omega)
    · rw [upd_same, List.replicate_succ', List.map_append]
      rfl
  · rintro H1 ⟨sm, hd⟩
    refine ⟨R, List.replicate 6 false, rfl, sqL_of hd, _, rfl, ?_⟩
    refine iteF ?_
    have sT := s6.trans sm
    exact k _ _ ⟨i, hi, p, sT _ _ hL, hA.same sT, hp, v1, v2, v3, v4, v5, v6, v10, v11, v12, v13, rfl⟩
theorem fB_eq : fB = [stAt fB 0, stAt fB 1] := rfl
theorem ho_loop2 (F : LF P w K mg base C CB c PT g fT fE fdg fdT fdE) (O : FO K C) (hr : Room 7 (LX P w K mg base f c A outer s H0 E0).A) {a : Addr} :
    Ho (LX P w K mg base f c A outer s H0 E0) (stAt lawB 2) (fun σ H => ∃ L as, SL a L σ ∧ H L = some (.lst (as.map V.ref)) ∧ FormsAt K C H as) (fun σ H => ∃ v1, SB a v1 σ) := by
  have body := (ho_if1 (f := f) (A := A) (outer := outer) (s := s) (H0 := H0) (E0 := E0) F O hr (a := a)).cons ((ho_if2 F O hr).cons HosI.nil)
  rw [← fB_eq] at body
  obtain ⟨tb, hb, kb⟩ := body
  refine ⟨_, ps_for PassesOwn.never rfl (pi_enum (by rfl) F.enum (pa_cons (pv 8) pa_nil)) (pg_tup rfl (pgs_cons (pg_name (i := 7) scLa.nd rfl (Or.inr rfl)) (pgs_cons (pg_name (i := 9) scLa.nd rfl (Or.inr rfl)) pgs_nil))) hb, ?_⟩
  rintro D σ H ⟨L, as, so, hL, hA⟩ k
  have hlen : as.length = 8 := paired_len hA
  obtain ⟨v1, v2, v3, v4, v5, v6, v7, v9, v10, v11, v12, v13, rfl⟩ := so
  refine ⟨_, rfl, L, as.map V.ref, rfl, sqL_of hL, for_it (walk_enum (K := K) (a := L) (xs := as.map V.ref)) (fun i σ' H' => SL a L σ' ∧ H' L = some (.lst (as.map V.ref)) ∧ FormsAt K C H' as) ?_ ?_ ?_ ?_⟩
  · exact ⟨⟨v1, v2, v3, v4, v5, v6, v7, v9, v10, v11, v12, v13, rfl⟩, hL, hA⟩
  · rintro i σ' H' _ ⟨_, h, _⟩
    exact sqL_of h
  · rintro i y σ' H1 H2 hi ⟨⟨v1, v2, v3, v4, v5, v6, v7, v9, v10, v11, v12, v13, rfl⟩, h1, h2⟩ ⟨Tp, x0, x, rfl, nT, rfl, ex0, hx⟩
    cases ex0
    have sm := same_new (o := .tup [.int (i : Nat), x]) nT
    refine ⟨Tp, _, rfl, sqT_of upd_same, rfl, _, _, rfl, ?_⟩
    refine ⟨x, [], rfl, rfl, ?_⟩
    have hx : (as.map V.ref)[i]? = some x := hx
    rw [List.getElem?_map] at hx
    cases eq : as[i]? with
    | none =>
      rw [eq] at hx
      cases hx
    | some q =>
      rw [eq] at hx
      cases hx
      rw [List.length_map, hlen] at hi
      refine kb (L, as) _ _ _ ⟨i, hi, q, sm _ _ h1, h2.same sm, eq, v1, v2, v3, v4, v5, v6, v10, v11, v12, v13, rfl⟩ ?_
      rintro σ3 H3 ⟨i3, _, q3, g1, g2, _, v1, v2, v3, v4, v5, v6, v10, v11, v12, v13, rfl⟩
      exact ⟨⟨v1, v2, v3, v4, v5, v6, _, _, v10, v11, v12, v13, rfl⟩, g1, g2⟩
  · rintro σ' H1 ⟨⟨v1, v2, v3, v4, v5, v6, v7, v9, v10, v11, v12, v13, rfl⟩, _, _⟩
    exact k _ _ ⟨v1, v2, v3, v4, v5, v6, v7, _, v9, v10, v11, v12, v13, rfl⟩
end
end Mv
namespace Mv
open PySem PySem.Spec PyProof.Rows L2 LamX
section
variable {P : Program} {w : World} {K : PySem.W.Frag} {mg : Str → Option Value} {base : Heap} {C CB c PT g fT fE f : Addr} {fdg fdT fdE : FuncData} {A : Around} {outer : List Env} {s : Shared} {H0 : Hp} {E0 : XK}
def FrmT (K : PySem.W.Frag) (H : Hp) (q : Addr) (x : Str) : Prop := ∃ l a t, SqT K H q [.str "form", .ref l, .int 0] ∧ SqL K H l [.ref a] ∧ SqT K H a [.ref t, .int 1] ∧ SqT K H t [.str x]
theorem FrmT.same {H H' : Hp} {q : Addr} {x : Str} (h : FrmT K H q x) (s : Same H H') : FrmT K H' q x := by
  obtain ⟨l, a, t, h1, h2, h3, h4⟩ := h
  exact ⟨l, a, t, same_sqT s h1, s.seq h2, same_sqT s h3, same_sqT s h4⟩
def NTF : List Str := ["n", "t", "f"]
def StT (K : PySem.W.Frag) (H : Hp) (σ : L2.St) : Prop := ∃ (L : Addr) (qs : List Addr), H L = some (.lst (qs.map V.ref)) ∧ Paired (FrmT K H) qs NTF ∧ ∃ v0 v1 v2 v3 v4 v5 v6 v7 v8 v9 v10 v11 v13, σ = [v0, v1, v2, v3, v4, v5, v6, v7, v8, v9, v10, v11, some (.ref L), v13]
theorem ho_told (F : LF P w K mg base C CB c PT g fT fE fdg fdT fdE) (hr : Room 7 (LX P w K mg base f c A outer s H0 E0).A) {a : Addr} :
    Ho (LX P w K mg base f c A outer s H0 E0) (stAt lawB 3) (fun σ H => ∃ v1, SB a v1 σ) (fun σ H => StT K H σ) := by
  obtain ⟨m1, g1, _, M1⟩ := F.mem
  obtain ⟨m2, g2, _, M2⟩ := F.bou
  obtain ⟨m3, g3, _, M3⟩ := F.fau
  refine ⟨_, ps_set (i := 12) scLa.nd rfl (.inl rfl) (pe_lst (pa_cons (pe_d M1 hr (by decide) rfl pass0 (pa_cons (pe_glob (v := .ref m1) rfl g1 rfl) pa_nil)) (pa_cons (pe_d M2 hr (by decide) rfl pass0 (pa_cons (pe_glob (v := .ref m2) rfl g2 rfl) pa_nil)) (pa_cons (pe_d M3 hr (by decide) rfl pass0 (pa_cons (pe_glob (v := .ref m3) rfl g3 rfl) pa_nil)) pa_nil)))), ?_⟩
  rintro D σ H ⟨v1, v2, v3, v4, v5, v6, v7, v8, v9, v10, v11, v12, v13, rfl⟩ k
  refine ⟨rfl, fun l1 q1 a1 t1 H1 s1 n1 w1 w2 w3 w4 => ?_⟩
  refine ⟨rfl, fun l2 q2 a2 t2 H2 s2 n2 x1 x2 x3 x4 => ?_⟩
  refine ⟨rfl, fun l3 q3 a3 t3 H3 s3 n3 y1 y2 y3 y4 => ?_⟩
  refine ⟨(by show 3 ≤ sizeLine; decide), fun L hL => ?_⟩
  have s4 := same_new (o := .lst [V.ref q1, V.ref q2, V.ref q3]) hL
  have f1 : FrmT K H1 q1 "n" := ⟨l1, a1, t1, sqT_of w4, sqL_of w3, w2, w1⟩
  have f2 : FrmT K H2 q2 "t" := ⟨l2, a2, t2, sqT_of x4, sqL_of x3, x2, x1⟩
  have f3 : FrmT K H3 q3 "f" := ⟨l3, a3, t3, sqT_of y4, sqL_of y3, y2, y1⟩
  exact k _ _ ⟨L, [q1, q2, q3], upd_same, .cons (f1.same (s2.trans (s3.trans s4))) (.cons (f2.same (s3.trans s4)) (.cons (f3.same s4) .nil)), _, v1, v2, v3, v4, v5, v6, v7, v8, v9, v10, v11, v13, rfl⟩
/-- .. of tuples and lists that are not R -/
def FrmD (R : Addr) (H : Hp) (q : Addr) (x : Str) : Prop := ∃ l a t, q ≠ R ∧ l ≠ R ∧ a ≠ R ∧ t ≠ R ∧ H q = some (.tup [.str "form", .ref l, .int 0]) ∧ H l = some (.lst [.ref a]) ∧ H a = some (.tup [.ref t, .int 1]) ∧ H t = some (.tup [.str x])
theorem FrmD.put {R : Addr} {H H' : Hp} {q : Addr} {x : Str} {o : HO} (h : FrmD R H q x) (s : Same H H') : FrmD R (upd H' R o) q x := by
  obtain ⟨l, a, t, n1, n2, n3, n4, h1, h2, h3, h4⟩ := h
  exact ⟨l, a, t, n1, n2, n3, n4, by rw [upd_ne n1]; exact s _ _ h1, by rw [upd_ne n2]; exact s _ _ h2, by rw [upd_ne n3]; exact s _ _ h3, by rw [upd_ne n4]; exact s _ _ h4⟩
theorem ho_ret (F : LF P w K mg base C CB c PT g fT fE fdg fdT fdE) (hr : Room 7 (LX P w K mg base f c A outer s H0 E0).A) :
    ∃ t, PS (LX P w K mg base f c A outer s H0 E0) (stAt lawB 4) t ∧ ∀ D σ H, StT K H σ → (∀ H', D.rt (.bl true) H') → t D σ H := by
  refine ⟨_, ps_ret (pe_d F.same hr (by decide) rfl pass0 (pa_cons (pv 12) (pa_cons
    (pe_lc (own := [("_law_name", 13)]) (g := gName 13) (tt := tYes) rfl scLa.nd (pi_list (pe_lst (pa_cons pe_str (pa_cons pe_str (pa_cons pe_str pa_nil))))) (blkOk_by (N := nLaw) (sc := defScope sLaw) (by decide +kernel)) (fun _ _ _ _ _ => pg_name (i := 13) scLa.nd rfl (Or.inl rfl)) (fun _ _ _ _ _ => pts_nil)
      (fun _ _ _ _ _ => pe_tup (pa_cons pe_str (pa_cons (pe_lst (pa_cons (pe_tup (pa_cons (pe_tup (pa_cons (pv 13) pa_nil)) (pa_cons pe_int pa_nil))) pa_nil)) (pa_cons pe_int pa_nil))))) pa_nil))), ?_⟩
  rintro D σ H ⟨L, qs, hL, hQ, v0, v1, v2, v3, v4, v5, v6, v7, v8, v9, v10, v11, v13, rfl⟩ k
  refine ⟨_, rfl, (by show 3 ≤ sizeLine; decide), fun LL h2 => ?_⟩
  have s2 := same_new (o := .lst [V.str "n", V.str "t", V.str "f"]) h2
  obtain ⟨G, eG⟩ : ∃ G, G = upd H LL (.lst [V.str "n", V.str "t", V.str "f"]) := ⟨_, rfl⟩
  have gL : G LL = some (.lst [V.str "n", V.str "t", V.str "f"]) := by rw [eG, upd_same]
  rw [← eG] at s2
  rw [← eG]
  refine ⟨LL, rfl, ⟨_, sqL_of gL⟩, fun R hR => ?_⟩
  refine lc_it (walk_list (xs := NTF.map V.str)) (fun j H' => Same G H' ∧ ∃ qs : List Addr, H' R = some (.lst (qs.map V.ref)) ∧ Paired (FrmD R H') qs (NTF.take j)) ⟨same_new hR, [], upd_same, .nil⟩ (fun j H' _ q => sqL_of (q.1 _ _ gL)) ?_ ?_
  · rintro j x H1 H1' hj ⟨sm, rs, hd, hP⟩ ⟨rfl, hx⟩
    refine ⟨rfl, ?_⟩
    unfold tYes
    refine iteT ?_
    rw [List.getElem?_map] at hx
    cases eq : NTF[j]? with
    | none =>
      rw [eq] at hx
      cases hx
    | some z =>
      rw [eq] at hx
      cases hx
      refine ⟨_, rfl, (by show 1 ≤ sizeLine; decide), fun t ht => ?_⟩
      have u1 := same_new (o := .tup [V.str z]) ht
      refine ⟨(by show 2 ≤ sizeLine; decide), fun b hb => ?_⟩
      have u2 := u1.trans (same_new (o := .tup [.ref t, .int 1]) hb)
      refine ⟨(by show 1 ≤ sizeLine; decide), fun l hl => ?_⟩
      have u3 := u2.trans (same_new (o := .lst [.ref b]) hl)
      refine ⟨(by show 3 ≤ sizeLine; decide), fun q hq => ?_⟩
      have u4 := u3.trans (same_new (o := .tup [.str "form", .ref l, .int 0]) hq)
      have nR : ∀ {H' : Hp} {e : Addr}, Same H1' H' → H' e = none → e ≠ R := fun s' n e' => by
        rw [e', s' _ _ hd] at n
        cases n
      have lenR : rs.length = j := by
        rw [paired_len hP, List.length_take]
        exact Nat.min_eq_left (Nat.le_of_lt (by rw [List.length_map] at hj; exact hj))
      refine ⟨_, u4 _ _ hd, ?_, same_put (sm.trans u4) hR, rs ++ [q], ?_, ?_⟩
      · rw [List.length_map, lenR]
        have : j < 3 := hj
        exact small1000 (by omega)
      · rw [upd_same, List.map_append]
        rfl
      · rw [take_next eq]
        refine Paired.snoc (L2.Paired.mapP hP fun _ _ q => q.put u4) ⟨l, b, t, nR u3 hq, nR u2 hl, nR u1 hb, nR (Same.refl _) ht, ?_, ?_, ?_, ?_⟩
        · rw [upd_ne (nR u3 hq), upd_same]
        · rw [upd_ne (nR u2 hl), upd_ne (fun z => (upd_nn hq).1 z.symm), upd_same]
        · rw [upd_ne (nR u1 hb), upd_ne (fun z => (upd_nn (upd_nn hq).2).1 z.symm), upd_ne (fun z => (upd_nn hl).1 z.symm), upd_same]
        · rw [upd_ne (nR (Same.refl _) ht), upd_ne (fun z => (upd_nn (upd_nn (upd_nn hq).2).2).1 z.symm), upd_ne (fun z => (upd_nn (upd_nn hl).2).1 z.symm), upd_ne (fun z => (upd_nn hb).1 z.symm), upd_same]
  · rintro H1 ⟨sm, rs, hd, hP⟩
    have hP : Paired (FrmD R H1) rs NTF := hP
    have sT := s2.trans sm
    have hQ1 : Paired (FrmT K H1) qs NTF := L2.Paired.mapP hQ fun _ _ q => q.same sT
    refine ⟨.ref L, .ref R, rfl, ?_, fun H2 _ => k H2⟩
    have l1 := paired_len hQ1
    have l2 := paired_len hP
    refine .lst (sqL_of (sT _ _ hL)) (sqL_of hd) (by rw [List.length_map, List.length_map, l1, l2]) (by rw [List.length_map, l1]; decide) fun i x y e1 e2 => ?_
    rw [List.getElem?_map] at e1 e2
    cases f1 : qs[i]? with
    | none =>
      rw [f1] at e1
      cases e1
    | some q1 =>
      cases f2 : rs[i]? with
      | none =>
        rw [f2] at e2
        cases e2
      | some q2 =>
        rw [f1] at e1
        rw [f2] at e2
        cases e1
        cases e2
        obtain ⟨z1, b1, l, a, t, p1, p2, p3, p4⟩ := paired_at hQ1 f1
        obtain ⟨z2, b2, l', a', t', _, _, _, _, r1, r2, r3, r4⟩ := paired_at hP f2
        rw [b1] at b2
        cases b2
        exact sm_form (xs := [z1]) 0 p1 p2 p3 p4 (sqT_of r1) (sqL_of r2) (sqT_of r3) (sqT_of r4) (by show 1 ≤ 1000; decide)
end
end Mv
namespace Mv
open PySem PySem.Spec PyProof.Rows L2 LamX
section
variable {P : Program} {w : World} {K : PySem.W.Frag} {mg : Str → Option Value} {base : Heap} {C CB c PT g fT fE f : Addr} {fdg fdT fdE : FuncData}
def spLaw (K : PySem.W.Frag) (PT : Addr) : Sp := fun vs H Q _ => ∃ (a : Addr) (ns : List Int), vs = [.ref a] ∧ SqL K H a (ns.map V.int) ∧ Tabs [(PT, qLam)] H ∧ ∀ H', Q (.bl true) H'
theorem lawB_eq : defBody sLaw = [stAt lawB 0, stAt lawB 1, stAt lawB 2, stAt lawB 3, stAt lawB 4] := rfl
theorem ok_law {oc : Value} {od : Option Addr} {kV doc pm ct : Value} {an : Option Addr} {osl : Array (Option Value)} (lk : K.lookup f = some ⟨oc, od, .func (PySem.W.fnOf "law" "law" (defArgs sLaw) (defBody sLaw) (defScope sLaw) .none kV doc pm an (.ref c) ct), osl⟩) (hcd : PySem.W.codeIn K (.ref c) "law" = true)
    (F : LF P w K mg base C CB c PT g fT fE fdg fdT fdE) (O : FO K C) : FnOk P w K mg base C8.CX0 8 f (PySem.W.fnOf "law" "law" (defArgs sLaw) (defBody sLaw) (defScope sLaw) .none kV doc pm an (.ref c) ct) ["_law_script"] (spLaw K PT) := by
  refine fn_of (k := 7) lk hcd scLa (fun vs H Q E h => ?_) (fun A outer s H vs Q E hr h => ?_)
  · obtain ⟨a, ns, rfl, _⟩ := h
    rfl
  · obtain ⟨a, ns, rfl, hS, hT, k⟩ := h
    have hr : Room 7 (LX P w K mg base f c A outer s H E).A := hr
    obtain ⟨t0, p0, k0⟩ := ho_outer F O hr (a := a) (ns := ns)
    obtain ⟨t1, p1, k1⟩ := ho_forms F hr (a := a)
    obtain ⟨t2, p2, k2⟩ := ho_loop2 F O hr (a := a)
    obtain ⟨t3, p3, k3⟩ := ho_told F hr (a := a)
    obtain ⟨t4, p4, k4⟩ := ho_ret F hr
    refine ⟨tSeq t0 (tSeq t1 (tSeq t2 (tSeq t3 t4))), PSs.nox (by rw [lawB_eq]; exact pss_cons p0 (pss_cons p1 (pss_cons p2 (pss_cons p3 (pss_one p4))))), ?_⟩
    refine k0 _ _ _ ⟨⟨hS, hT⟩, none, none, none, none, none, none, none, none, none, none, none, none, none, rfl⟩ fun σ1 H1 h1 => ?_
    refine k1 _ _ _ h1.2 fun σ2 H2 h2 => ?_
    refine k2 _ _ _ h2 fun σ3 H3 h3 => ?_
    refine k3 _ _ _ h3 fun σ4 H4 h4 => ?_
    exact k4 _ _ _ h4 fun H' => k H'
end
end Mv
namespace Mv
open PySem PySem.Spec PySem.W PyProof.Rows L2 NdefX
/-! ### the head's facts: the kit's Hook, the statics beside, and the __init__ of error classes (functions with a cell) -/
def frM (g : Addr → Option Obj) (n : Nat) : Frag := He.frT g (cStatics :: He.asD g n)
abbrev FnC : Type := Option (Str × Str × Arguments × FuncBody × Scope × Addr × Value × Addr)
/-- an error class of one field: its name, its field; its __init__: name, qualified name, parameters, body, scope -/
structure ErrD where
  cls : Str
  fld : Str
  qual : Str
  params : Arguments
  body : List Stmt
  scope : Scope
def ErrD.fn (d : ErrD) (K : Frag) : Addr := He.ma K (He.ga K d.cls) "__init__"
def fnC (K : Frag) (f : Addr) : FnC := match K.lookup f with
  | some ⟨_, _, .func fd, _⟩ => some (fd.name, fd.qualname, fd.params, fd.body, fd.scope, fd.globals, fd.defaults, fd.builtins)
  | _ => none
def ErrD.val (d : ErrD) : FnC := some ("__init__", d.qual, d.params, .stmts d.body, d.scope, mainGlobals, .none, builtinsNs)
def cellB (K : Frag) (cc C : Addr) : Bool := match K.lookup cc with
  | some ⟨_, _, .cell (some (.ref c)), _⟩ => c == C
  | _ => false
def fileB (K : Frag) (cda : Addr) (file : Str) : Bool := match K.lookup cda with
  | some ⟨_, _, .fields vs, _⟩ => (match (vs[2]? : Option Value) with
    | some (.str f _) => f == file
    | _ => false)
  | _ => false
def clo2 (K : Frag) (C : Addr) (qual file : Str) (cl : List (Str × Addr)) (cv : Value) : Bool := match cl, cv with
  | [(x, cc)], .ref cda => decide (x = "__class__") && (cellB K cc C && (codeIn K (.ref cda) qual && fileB K cda file))
  | _, _ => false
def closB (K : Frag) (f C : Addr) (qual file : Str) : Bool := match K.lookup f with
  | some ⟨_, _, .func fd, _⟩ => clo2 K C qual file fd.closure fd.code
  | _ => false
theorem clo2_ok {K : Frag} {C : Addr} {qual file : Str} {cl : List (Str × Addr)} {cv : Value} (h : clo2 K C qual file cl cv = true) : ∃ cc cda, cl = [(("__class__" : Str), cc)] ∧ cv = Value.ref cda ∧ cellB K cc C = true ∧ codeIn K (.ref cda) qual = true ∧ fileB K cda file = true := by
  unfold clo2 at h
  split at h
  · rename_i x cc cda
    obtain ⟨k1, k2⟩ := He.ba h
    obtain ⟨k3, k4⟩ := He.ba k2
    obtain ⟨k5, k6⟩ := He.ba k4
    exact ⟨cc, cda, by rw [of_decide_eq_true k1], rfl, k3, k5, k6⟩
  · cases h
/-- an error class's object -/
def exClsB (K : Frag) (C : Addr) : Bool := match K.lookup C with
  | some ⟨.type "type", _, .cls cd, sl⟩ => (match cd.mro, sl.toList with
    | .ref C' :: bm, [_, _, _, _, some (.builtin n), _] => C' == C && (n == "ValueError.__new__" && (!cd.hasDel && (cd.hasDict && PySem.HandSPX.refsVE bm)))
    | _, _ => false)
  | _ => false
def oB1 (a b : Option Bool) : Bool := decide (a = b)
def ErrD.ok (d : ErrD) (file : Str) (K : Frag) : Bool :=
  let C := He.ga K d.cls
  exClsB K C && (He.eqO (findIn K (.ref C) "__setattr__") (some (some (.builtin "object.__setattr__"))) && (oB1 (subIn K (.ref C) (.type "BaseException")) (some true) && (decide (typeIn K (.ref C) = some (.type "type")) && (keepIn K (.ref C) &&
  (He.eqO (findIn K (.ref C) "__init__") (some (some (.ref (d.fn K)))) && (decide (typeIn K (.ref (d.fn K)) = some (.type "function")) && (He.eqO (findIn K (.ref C) d.fld) (some none) && (He.eqO (findIn K (.ref C) "__getattribute__") (some (some (.builtin "BaseException.__getattribute__"))) &&
  (He.eqO (findIn K (.ref C) "__getattr__") (some none) && (hasDictIn K C && (oB1 (exmOne K (.ref C) (.ref C)) (some true) && (closB K (d.fn K) C d.qual file && (oB1 (mroIn K C (.ref C)) (some true) &&
  (He.eqO (ks_superIn K C C "__init__") (some (some (.builtin "ValueError.__init__"))) && (oB1 (subIn K (.ref C) (.type "ValueError")) (some true) && He.eqO (nsIn K cStatics "thirdparty.any") (some none))))))))))))))))
theorem exCls_of {K : Frag} {C : Addr} (q : exClsB K C = true) : (∃ nm q N bs bm sn sub ab col dd k0 k1 k2 k3 k5, K.lookup C = some (excClassObj nm q C N bs bm true sn sub ab col dd k0 k1 k2 k3 k5 "ValueError.__new__") ∧ PySem.HandSPX.refsVE bm = true) ∧ ∃ cd, clsIn K C = some cd := by
  unfold exClsB at q
  split at q
  · rename_i dd cd sl ho
    split at q
    · rename_i C' bm k0 k1 k2 k3 n k5 hm hs
      simp only [Bool.and_eq_true, beq_iff_eq, Bool.not_eq_true'] at q
      obtain ⟨rfl, rfl, hdel, hdi, ht⟩ := q
      refine ⟨?_, cd, by unfold clsIn; rw [ho]⟩
      obtain ⟨nm, bs, mro, ns, qn, hd, sn, sub, ab, col, del⟩ := cd
      dsimp only at hm hdel hdi
      subst hm hdel hdi
      have hsl : sl = #[k0, k1, k2, k3, some (.builtin "ValueError.__new__"), k5] := by
        obtain ⟨l⟩ := sl
        simp only at hs
        rw [hs]
      subst hsl
      exact ⟨nm, qn, ns, bs, bm, sn, sub, ab, col, dd, k0, k1, k2, k3, k5, ho, ht⟩
    · cases q
  · cases q
theorem closB_ok {K : Frag} {f C : Addr} {qual file : Str} {d : ErrD} (h : closB K f C qual file = true) (e : fnC K f = d.val) (hq : d.qual = qual) :
    ∃ oc od osl kV doc pm an ct cc cda, K.lookup f = some ⟨oc, od, .func (fnX "__init__" qual d.params d.body d.scope [("__class__", cc)] .none kV doc pm an (.ref cda) ct), osl⟩ ∧ codeIn K (.ref cda) qual = true ∧
      (∃ cl cld csl, K.lookup cc = some ⟨cl, cld, .cell (some (.ref C)), csl⟩) ∧ ∃ ccl cdd vs ccs tf, K.lookup cda = some ⟨ccl, cdd, .fields vs, ccs⟩ ∧ vs[2]? = some (Value.str file tf) := by
  unfold closB at h
  unfold fnC at e
  cases q : K.lookup f with
  | none =>
    rw [q] at h
    cases h
  | some o =>
    obtain ⟨oc, od, dt, osl⟩ := o
    rw [q] at h e
    cases dt with
    | func fd =>
      obtain ⟨n1, n2, n3, n4, n5, n6, n7, n8, n9, n10, n11, n12, n13, n14, n15⟩ := fd
      have e2 : (some (n1, n2, n3, n4, n5, n6, n8, n15) : FnC) = some (("__init__" : Str), d.qual, d.params, FuncBody.stmts d.body, d.scope, mainGlobals, Value.none, builtinsNs) := e
      simp only [Option.some.injEq, Prod.mk.injEq] at e2
      obtain ⟨h1, h2, h3, h4, h5, h6, h7, h8⟩ := e2
      subst h1 h2 h3 h4 h5 h6 h7 h8
      have h' : clo2 K C qual file n7 n13 = true := h
      obtain ⟨cc, cda, e7, e13, k3, k5, k6⟩ := clo2_ok h'
      subst e7 e13 hq
      refine ⟨oc, od, osl, n9, n10, n11, n12, n14, cc, cda, rfl, k5, ?_, ?_⟩
      · unfold cellB at k3
        split at k3
        · rename_i cl cld c csl hz
          rw [beq_iff_eq.mp k3] at hz
          exact ⟨cl, cld, csl, hz⟩
        · cases k3
      · unfold fileB at k6
        split at k6
        · rename_i ccl cdd vs ccs hz
          split at k6
          · rename_i f tf hv
            rw [beq_iff_eq.mp k6] at hv
            exact ⟨ccl, cdd, vs, ccs, tf, hz, hv⟩
          · cases k6
        · cases k6
    | _ => cases h
/-- the facts of an error class -/
theorem err_of {P : Program} {w : World} {K : Frag} {mg : Str → Option Value} {base : Heap} {d : ErrD} {txt par : Str} {ar : Arg} {p0 p1 p2 p3 p4 p5 q1 q2 q3 q4 : Pos} {j : Nat} (h : d.ok P.main.file K = true) (e : fnC K (d.fn K) = d.val) (hg : mg d.cls = some (.ref (He.ga K d.cls))) (sup : mg "super" = none)
    (top : (P.main.scope.names.lookup ("super" : Str)).isSome = false)
    (hbody : d.body = [.Expr (.Call (.Attribute (.Call (.Name "super" p0) [] [] p1) "__init__" p2) [.Constant (.str txt) j p3] [] p4) p5, .Assign [.Attribute (.Name "self" q1) d.fld q2] (.Name par q3) q4])
    (S : NScope ["self", par, "__class__"] ["self", par] ["__class__"] d.scope) (hks : d.scope.names.lookup ("super" : Str) = some .globalImplicit) (hpos : (p2.endLine == p4.line) = true) (hp : (d.params.posonlyargs ++ d.params.args).head? = some ar) (har : ar.arg = "self") (hdb : (par == ("__debug__" : Str)) = false) (hcl : (par == ("__classdict__" : Str)) = false)
    (hbind : ∀ (kV doc pm : Value) (an : Option Addr) (cl : List (Str × Addr)) (cdv ct : Value) (us : List Value), us.length = 2 → bindArgs (fnX "__init__" d.qual d.params d.body d.scope cl .none kV doc pm an cdv ct) ⟨us, []⟩ = pure ((["self", par] : List Str).zip us)) : Err P w K mg base d.cls (He.ga K d.cls) d.fld := by
  unfold ErrD.ok at h
  obtain ⟨c1, h⟩ := He.ba h
  obtain ⟨c2, h⟩ := He.ba h
  obtain ⟨c3, h⟩ := He.ba h
  obtain ⟨c4, h⟩ := He.ba h
  obtain ⟨c5, h⟩ := He.ba h
  obtain ⟨c6, h⟩ := He.ba h
  obtain ⟨c7, h⟩ := He.ba h
  obtain ⟨c8, h⟩ := He.ba h
  obtain ⟨c9, h⟩ := He.ba h
  obtain ⟨c10, h⟩ := He.ba h
  obtain ⟨c11, h⟩ := He.ba h
  obtain ⟨c12, h⟩ := He.ba h
  obtain ⟨c13, h⟩ := He.ba h
  obtain ⟨c14, h⟩ := He.ba h
  obtain ⟨c15, h⟩ := He.ba h
  obtain ⟨c16, c17⟩ := He.ba h
  obtain ⟨hcls, hcd⟩ := exCls_of c1
  obtain ⟨oc, od, osl, kV, doc, pm, an, ct, cc, cda, lk, hcode, hcell, ccl, cdd, vs, ccs, tf, hco, hv⟩ := closB_ok c13 e rfl
  have T : OexC K (He.ga K d.cls) := ⟨hcls, He.eqO_ok c2, of_decide_eq_true c3, of_decide_eq_true c4, c5⟩
  have D : SupK P K mg (He.ga K d.cls) cc cda := ⟨T, ⟨ccl, cdd, vs, ccs, _, tf, hco, hv, beq_self_eq_true _⟩, hcell, hcd, of_decide_eq_true c14, sup, top, He.eqO_ok c15, of_decide_eq_true c16, He.eqO_ok c17⟩
  rw [hbody] at lk
  have G := init1 (P := P) (w := w) (mg := mg) (base := base) (CX := CX0) D (He.eqO_ok c8) lk hcode S hks hpos hp har hdb hcl
  refine ⟨hg, T, ⟨_, _, _, He.eqO_ok c6, of_decide_eq_true c7, G.mono (by decide), .all fun us hl => ?_⟩, He.eqO_ok c8, He.eqO_ok c9, He.eqO_ok c10, c11, of_decide_eq_true c12⟩
  have q := hbind kV doc pm an [("__class__", cc)] (.ref cda) ct us hl
  rw [hbody] at q
  exact q
end Mv
namespace Mv
open PySem PySem.Spec PySem.W PyProof.Rows L2
abbrev AlM : Type := He.AlX × List FnC
def obsM (n : Nat) (fa : List He.Fa) (fn : List He.DefD) (tf : List He.Defn) (ex : Frag → Bool) (es : List ErrD) (g : Addr → Option Obj) : AlM :=
  ((He.obsT fa fn [] (frM g n), ex (frM g n) && He.tabsB g tf (frM g n)), es.map fun d => fnC (frM g n) (d.fn (frM g n)))
def valM (fn : List He.DefD) (es : List ErrD) (w : World) : AlM := ((He.valT fn [] w, true), es.map ErrD.val)
structure SaysM (fa : List He.Fa) (fn : List He.DefD) (tf : List He.Defn) (ex : Frag → Bool) (es : List ErrD) (w : World) (h : Heap) (K : Frag) : Prop where
  x : He.SaysX fa fn [] tf ex w h K
  e : es.map (fun d => fnC K (d.fn K)) = es.map ErrD.val
theorem saysM_of {n : Nat} {fa : List He.Fa} {fn : List He.DefD} {tf : List He.Defn} {ex : Frag → Bool} {es : List ErrD} {w : World} {h : Heap} (e : obsM n fa fn tf ex es h.get? = valM fn es w) : SaysM fa fn tf ex es w h (frM h.get? n) := by
  have e1 : He.obsT fa fn [] (frM h.get? n) = He.valT fn [] w := congrArg (fun z : AlM => z.1.1) e
  have e2 : (ex (frM h.get? n) && He.tabsB h.get? tf (frM h.get? n)) = true := congrArg (fun z : AlM => z.1.2) e
  have e3 : es.map (fun d => fnC (frM h.get? n) (d.fn (frM h.get? n))) = es.map ErrD.val := congrArg (fun z : AlM => z.2) e
  obtain ⟨h1, h2⟩ := He.ba e2
  have key : ∀ p ∈ tf, codeHdIn (frM h.get? n) (He.cT (frM h.get? n) p).1 (He.cT (frM h.get? n) p).2 = true ∧ ∃ o, h.get? (He.cT (frM h.get? n) p).2 = some o ∧ He.emptyTab o = true := fun p hp => by
    obtain ⟨h3, h4⟩ := He.ba (List.all_eq_true.mp h2 p hp)
    refine ⟨h3, ?_⟩
    cases q : h.get? (He.cT (frM h.get? n) p).2 with
    | none =>
      rw [q] at h4
      cases h4
    | some o =>
      rw [q] at h4
      exact ⟨o, rfl, h4⟩
  refine ⟨⟨e1, h1, fun p hp => (key p hp).1, fun p hp => ?_, fun p hp => ?_⟩, e3⟩
  · obtain ⟨_, o, q, z⟩ := key p hp
    exact He.frT_none q z
  · obtain ⟨_, o, q, z⟩ := key p hp
    rw [q, He.emptyTab_eq z]
def hookM (n : Nat) (fa : List He.Fa) (fn : List He.DefD) (tf : List He.Defn) (ex : Frag → Bool) (es : List ErrD) : Hook where
  α := AlM
  obs := fun s => obsM n fa fn tf ex es s.heap.get?
  val := fun w => valM fn es w
  says := fun w h => ∃ K : Frag, K.In h ∧ SaysM fa fn tf ex es w h K
  of := fun _ _ e => ⟨_, He.frT_in, saysM_of e⟩
  keeps := fun _ _ _ ⟨K, hK, c⟩ k => ⟨K, Frag.In.keeps hK k, ⟨⟨c.x.t, c.x.more, c.x.hd, c.x.out, fun p hp => k _ _ (c.x.empty p hp)⟩, c.e⟩⟩
theorem obsM_eq {n : Nat} {fa : List He.Fa} {fn : List He.DefD} {tf : List He.Defn} {ex : Frag → Bool} {es : List ErrD} {g : Addr → Option Obj} {s : Shared} (h : ∀ a, g a = s.heap.get? a) : obsM n fa fn tf ex es g = (hookM n fa fn tf ex es).obs s := by
  have e : g = s.heap.get? := funext h
  rw [e] <;> rfl
section
variable {fa : List He.Fa} {fn : List He.DefD} {tf : List He.Defn} {ex : Frag → Bool} {es : List ErrD} {w : World} {h : Heap} {K : Frag}
theorem SaysM.err (c : SaysM fa fn tf ex es w h K) {d : ErrD} (hd : d ∈ es) : fnC K (d.fn K) = d.val := by
  obtain ⟨i, hi, e⟩ := List.mem_iff_getElem.mp hd
  have e2 : (es.map fun d => fnC K (d.fn K))[i]? = (es.map ErrD.val)[i]? := by rw [c.e]
  rw [List.getElem?_map, List.getElem?_map, List.getElem?_eq_getElem hi, e] at e2
  exact Option.some.inj e2
theorem SaysM.fact (c : SaysM fa fn tf ex es w h K) {f : He.Fa} (hf : f ∈ fa) : f.ok K = true := c.x.t.d.facts hf
theorem SaysM.glo (c : SaysM fa fn tf ex es w h K) {mg : Str → Option Value} (X : K.In h) (G : h.Ns mainGlobals mg) {x : Str} (hf : He.Fa.glo x ∈ fa) : mg x = some (.ref (He.ga K x)) := He.glo_ok X G (c.fact hf)
theorem SaysM.free (c : SaysM fa fn tf ex es w h K) {mg : Str → Option Value} (X : K.In h) (G : h.Ns mainGlobals mg) {x : Str} (hf : He.Fa.free x ∈ fa) : mg x = none := He.free_ok X G (c.fact hf)
/-- a def of no defaults -/
def dD (a : Str × Option Str) (x q : Str) (st : Stmt) : He.DefD := ⟨a, x, q, defArgs st, defBody st, defScope st, [], []⟩
theorem SaysM.dfn (c : SaysM fa fn tf ex es w h K) {a : Str × Option Str} {x q : Str} {st : Stmt} (hd : dD a x q st ∈ fn) : ∃ fd, Fun K x q st (He.fAd K a) fd ∧ FunD K x q (defArgs st) (defBody st) (defScope st) [] [] (He.fAd K a) fd := by
  obtain ⟨fd, F⟩ := c.x.t.d.defs hd
  have F' : FunD K x q (defArgs st) (defBody st) (defScope st) [] [] (He.fAd K a) fd := F
  refine ⟨fd, ?_, F'⟩
  obtain ⟨⟨oc, od, dV, kV, doc, pm, an, cdv, ct, osl, ef, lk, hcd, dfl, kwd⟩, kp⟩ := F'
  rcases dfl with ⟨_, e⟩ | ⟨z, _⟩
  · subst e
    exact ⟨⟨oc, od, kV, doc, pm, an, cdv, ct, osl, ef, lk, hcd⟩, kp⟩
  · exact absurd rfl z
end
end Mv
namespace Mv
open PySem PySem.Spec PySem.W PyProof.Rows L2
abbrev R : OpenRow := OpenLaw.row PySem.Challenge.rw_manyvoices_k02_forms_made
def topNames : List Str := ["VoiceError", "BadWord", "BadForm", "LONGEST_WORD", "is_integer", "is_word", "first_unfit", "KINDS", "Form", "members", "bound", "faulty", "at", "begun", "said", "heard", "_checked_word", "_single", "_as_form", "_rank", "_sum", "_times",
  "_law_source", "_law_draw", "_law_pick", "_law_same", "_law_tried", "_law_is_word", "_law_heard", "_law_due", "_law_some"]
/-! ### what is told of the head -/
def gloNames : List Str := ["BadWord", "is_word", "first_unfit", "Form", "members", "bound", "faulty", "at", "begun", "said", "heard", "_checked_word", "_single", "_law_source", "_law_draw", "_law_pick", "_law_same", "_law_tried", "_law_is_word", "_law_heard", "_law_due", "_law_some", "law"]
def freeNames : List Str := ["range", "min", "len", "enumerate", "any", "all", "isinstance", "str", "list", "tuple", "zip", "bool", "int", "sorted", "super"]
def fa2 : List He.Fa := gloNames.map He.Fa.glo ++ (freeNames.map He.Fa.free ++ [.int "LONGEST_WORD" 8, .int "LONGEST_WORD" 8, .cls "Form", .noat "Form" "_pairs", .noat "Form" "rest", .meth "Form" "terms", .meth "Form" "__eq__", .mkr "Form"])
def fn2 : List He.DefD := [dD ("is_word", none) "is_word" "is_word" sIsWord, dD ("first_unfit", none) "first_unfit" "first_unfit" sFirst, dD ("Form", some "__init__") "__init__" "Form.__init__" sFInit, dD ("Form", some "terms") "terms" "Form.terms" sFTerms, dD ("Form", some "__eq__") "__eq__" "Form.__eq__" sFEq,
  dD ("members", none) "members" "members" sMembers, dD ("bound", none) "bound" "bound" sBound, dD ("faulty", none) "faulty" "faulty" sFaulty, dD ("at", none) "at" "at" sAt, dD ("begun", none) "begun" "begun" sBegun, dD ("said", none) "said" "said" sSaid, dD ("heard", none) "heard" "heard" sHeard,
  dD ("_checked_word", none) "_checked_word" "_checked_word" sChecked, dD ("_single", none) "_single" "_single" sSingle, dD ("_law_source", none) "_law_source" "_law_source" sSource, dD ("_law_draw", none) "_law_draw" "_law_draw" sDraw, dD ("_law_pick", none) "_law_pick" "_law_pick" sPick,
  dD ("_law_same", none) "_law_same" "_law_same" sSame, dD ("_law_tried", none) "_law_tried" "_law_tried" sTried, dD ("_law_is_word", none) "_law_is_word" "_law_is_word" sLWord, dD ("_law_heard", none) "_law_heard" "_law_heard" sLHeard, dD ("_law_due", none) "_law_due" "_law_due" sLDue,
  dD ("_law_some", none) "_law_some" "_law_some" sSome, dD ("law", none) "law" "law" sLaw]
def tf2 : List He.Defn := [("law", none)]
def eBadWord : ErrD := ⟨"BadWord", "word", "BadWord.__init__", defArgs (inClass (top 2) 0), defBody (inClass (top 2) 0), defScope (inClass (top 2) 0)⟩
def es2 : List ErrD := [eBadWord]
def othB (K : Frag) (C : Addr) (t : String) : Bool := notFirst K C (.type t) && oB1 (kitOne K (.type t) (.ref C)) (some false)
def OTH : List String := ["int", "str", "NoneType", "list", "tuple"]
/-- what == and isinstance ask of an own class -/
def ownB (K : Frag) (C : Addr) : Bool :=
  He.eqO (findIn K (.ref C) "__class__") (some (some (.builtin "object.__class__"))) && (He.eqO (specialIn K (.builtin "object.__class__") "__get__") (some (some (.builtin "getset_descriptor.__get__"))) && (oB1 (takesIn K (.builtin "object.__class__")) (some true) && (oB1 (mroIn K C (.type "object")) (some true) &&
  (oB1 (kitOne K (.ref C) (.ref C)) (some true) && (He.eqO (findIn K (.ref C) "__ne__") (some (some (.builtin "object.__ne__"))) && (oB1 (subIn K (.ref C) (.type "object")) (some true) && (notFirst K C (.ref C) && OTH.all (othB K C))))))))
def ex2 (K : Frag) : Bool := es2.all (fun d => d.ok R.prog.main.file K) && ownB K (He.ga K "Form")
def hk2 : Hook := hookM 4 fa2 fn2 tf2 ex2 es2
def ob2 (s : SharedT) : AlM := obsM 4 fa2 fn2 tf2 ex2 es2 (HandSHeadRun.getT s)
theorem ob2_eq (s : SharedT) : ob2 s = hk2.obs s.abs := obsM_eq (HandSHeadRun.getT_eq s)
theorem runT (w : World) : HandSHeadRun.RunEq R (view R.prog [35]) hk2 ob2 8000 topNames (w.withFollow "special-get-raises" true) := by
  intro os
  kernel_rfl
theorem runF (w : World) : HandSHeadRun.RunEq R (view R.prog [35]) hk2 ob2 8000 topNames (w.withFollow "special-get-raises" false) := by
  intro os
  kernel_rfl
theorem run2 (w : World) : HandSHeadRun.RunEq R (view R.prog [35]) hk2 ob2 8000 topNames w := byRow2 "special-get-raises" runF runT w
end Mv
namespace Mv
open PySem PySem.Spec PySem.W PyProof.Rows L2
section
variable {w : World} {h : Heap} {K : Frag} {mg : Str → Option Value} {base : Heap}
abbrev Says2 (w : World) (h : Heap) (K : Frag) : Prop := SaysM fa2 fn2 tf2 ex2 es2 w h K
theorem glo2 (c : Says2 w h K) (X : K.In h) (G : h.Ns mainGlobals mg) (x : Str) (hx : x ∈ gloNames := by decide +kernel) : mg x = some (.ref (He.ga K x)) := c.glo X G (List.mem_append_left _ (List.mem_map.mpr ⟨x, hx, rfl⟩))
theorem free2 (c : Says2 w h K) (X : K.In h) (G : h.Ns mainGlobals mg) (x : Str) (hx : x ∈ freeNames := by decide +kernel) : mg x = none := c.free X G (List.mem_append_right _ (List.mem_append_left _ (List.mem_map.mpr ⟨x, hx, rfl⟩)))
theorem oth2 (c : Says2 w h K) (i : Nat) {f : He.Fa} (hi : ([.int "LONGEST_WORD" 8, .int "LONGEST_WORD" 8, .cls "Form", .noat "Form" "_pairs", .noat "Form" "rest", .meth "Form" "terms", .meth "Form" "__eq__", .mkr "Form"] : List He.Fa)[i]? = some f := by rfl) : f.ok K = true :=
  c.fact (List.mem_append_right _ (List.mem_append_right _ (List.mem_of_getElem? hi)))
theorem def2 (c : Says2 w h K) (i : Nat) {a : Str × Option Str} {x q : Str} {st : Stmt} (hi : fn2[i]? = some (dD a x q st) := by rfl) : ∃ fd, Fun K x q st (He.fAd K a) fd ∧ FunD K x q (defArgs st) (defBody st) (defScope st) [] [] (He.fAd K a) fd := c.dfn (List.mem_of_getElem? hi)
theorem ex2_of (c : Says2 w h K) : (es2.all (fun d => d.ok R.prog.main.file K) && ownB K (He.ga K "Form")) = true := c.x.more
/-- the facts of == and isinstance -/
theorem own_of {C f : Addr} (q : ownB K C = true) (isi : mg "isinstance" = none) (m : Meth K C "__eq__" f) : FQ K mg C f ∧ FO K C := by
  unfold ownB at q
  obtain ⟨c1, q⟩ := He.ba q
  obtain ⟨c2, q⟩ := He.ba q
  obtain ⟨c3, q⟩ := He.ba q
  obtain ⟨c4, q⟩ := He.ba q
  obtain ⟨c5, q⟩ := He.ba q
  obtain ⟨c6, q⟩ := He.ba q
  obtain ⟨c7, q⟩ := He.ba q
  obtain ⟨c8, c9⟩ := He.ba q
  refine ⟨⟨He.eqO_ok c1, He.eqO_ok c2, of_decide_eq_true c3, of_decide_eq_true c4, of_decide_eq_true c5, isi, m.at_, m.fn, He.eqO_ok c6, of_decide_eq_true c7⟩, c8, fun t ht => ?_⟩
  obtain ⟨d1, d2⟩ := He.ba (List.all_eq_true.mp c9 t ht)
  exact ⟨d1, of_decide_eq_true d2⟩
theorem bad2 (c : Says2 w h K) (X : K.In h) (G : h.Ns mainGlobals mg) : Err R.prog w K mg base "BadWord" (He.ga K "BadWord") "word" := by
  have h1 := (He.ba (ex2_of c)).1
  have h2 : eBadWord.ok R.prog.main.file K = true := List.all_eq_true.mp h1 eBadWord (List.mem_singleton.mpr rfl)
  exact err_of (d := eBadWord) h2 (c.err (List.mem_singleton.mpr rfl)) (glo2 c X G "BadWord") (free2 c X G "super") (by decide +kernel) rfl (NdefX.nscope_by (by decide +kernel)) rfl rfl rfl rfl rfl rfl (fun _ _ _ _ _ _ _ us hl => match us, hl with | [_, _], _ => rfl)
abbrev PP : Program := R.prog
theorem dn {CX : CXT} {k : Nat} {x : Str} {ps : List Str} {sp : Sp} {fd : FuncData} {st : Stmt} (G : FnOk PP w K mg base CX k (He.ga K x) fd ps sp) (F : Fun K x x st (He.ga K x) fd) (g : mg x = some (.ref (He.ga K x))) (b : Binds K fd ps []) : Dn PP w K mg base CX k x ps sp := ⟨_, _, G, g, F.kp, b⟩
theorem lf2 (c : Says2 w h K) (X : K.In h) (G : h.Ns mainGlobals mg) {ca PT : Addr} (TB : LamX.TabB base mg ca PT) : ∃ fdg fdT fdE, LF PP w K mg base (He.ga K "Form") (He.ga K "BadWord") ca PT (He.ga K "_law_tried") (He.ma K (He.ga K "Form") "terms") (He.ma K (He.ga K "Form") "__eq__") fdg fdT fdE := by
  have isi := free2 c X G "isinstance"
  have len := free2 c X G "len"
  have all := free2 c X G "all"
  have str := free2 c X G "str"
  have tup := free2 c X G "tuple"
  have lst := free2 c X G "list"
  have int := free2 c X G "int"
  have enu := free2 c X G "enumerate"
  have srt := free2 c X G "sorted"
  have T : WT K mg := ⟨isi, str, len, all, He.int_ok X G (oth2 c 1 (f := .int "LONGEST_WORD" 8))⟩
  have U : FT K mg (He.ga K "Form") := ⟨He.cls_ok (oth2 c 2 (f := .cls "Form")), He.noat_ok (oth2 c 3 (f := .noat "Form" "_pairs")), He.noat_ok (oth2 c 4 (f := .noat "Form" "rest")), glo2 c X G "Form", tup, lst⟩
  have mT := He.meth_ok (oth2 c 5 (f := .meth "Form" "terms"))
  have mE := He.meth_ok (oth2 c 6 (f := .meth "Form" "__eq__"))
  have M := He.mkr_ok (oth2 c 7 (f := .mkr "Form"))
  have U2 : DT mg := ⟨len, int⟩
  obtain ⟨Q1, _⟩ := own_of (He.ba (ex2_of c)).2 isi mE
  have Er : Err PP w K mg base "BadWord" (He.ga K "BadWord") "word" := bad2 c X G
  obtain ⟨d0, F0, B0⟩ := def2 c 0 (a := ("is_word", none)) (x := "is_word") (q := "is_word") (st := sIsWord)
  obtain ⟨d1, F1, B1⟩ := def2 c 1 (a := ("first_unfit", none)) (x := "first_unfit") (q := "first_unfit") (st := sFirst)
  obtain ⟨d2, F2, B2⟩ := def2 c 2 (a := ("Form", some "__init__")) (x := "__init__") (q := "Form.__init__") (st := sFInit)
  obtain ⟨d3, F3, B3⟩ := def2 c 3 (a := ("Form", some "terms")) (x := "terms") (q := "Form.terms") (st := sFTerms)
  obtain ⟨d4, F4, B4⟩ := def2 c 4 (a := ("Form", some "__eq__")) (x := "__eq__") (q := "Form.__eq__") (st := sFEq)
  obtain ⟨d5, F5, B5⟩ := def2 c 5 (a := ("members", none)) (x := "members") (q := "members") (st := sMembers)
  obtain ⟨d6, F6, B6⟩ := def2 c 6 (a := ("bound", none)) (x := "bound") (q := "bound") (st := sBound)
  obtain ⟨d7, F7, B7⟩ := def2 c 7 (a := ("faulty", none)) (x := "faulty") (q := "faulty") (st := sFaulty)
  obtain ⟨d8, F8, B8⟩ := def2 c 8 (a := ("at", none)) (x := "at") (q := "at") (st := sAt)
  obtain ⟨d9, F9, B9⟩ := def2 c 9 (a := ("begun", none)) (x := "begun") (q := "begun") (st := sBegun)
  obtain ⟨d10, F10, B10⟩ := def2 c 10 (a := ("said", none)) (x := "said") (q := "said") (st := sSaid)
  obtain ⟨d11, F11, B11⟩ := def2 c 11 (a := ("heard", none)) (x := "heard") (q := "heard") (st := sHeard)
  obtain ⟨d12, F12, B12⟩ := def2 c 12 (a := ("_checked_word", none)) (x := "_checked_word") (q := "_checked_word") (st := sChecked)
  obtain ⟨d13, F13, B13⟩ := def2 c 13 (a := ("_single", none)) (x := "_single") (q := "_single") (st := sSingle)
  obtain ⟨d14, F14, B14⟩ := def2 c 14 (a := ("_law_source", none)) (x := "_law_source") (q := "_law_source") (st := sSource)
  obtain ⟨d15, F15, B15⟩ := def2 c 15 (a := ("_law_draw", none)) (x := "_law_draw") (q := "_law_draw") (st := sDraw)
  obtain ⟨d16, F16, B16⟩ := def2 c 16 (a := ("_law_pick", none)) (x := "_law_pick") (q := "_law_pick") (st := sPick)
  obtain ⟨d17, F17, B17⟩ := def2 c 17 (a := ("_law_same", none)) (x := "_law_same") (q := "_law_same") (st := sSame)
  obtain ⟨d18, F18, B18⟩ := def2 c 18 (a := ("_law_tried", none)) (x := "_law_tried") (q := "_law_tried") (st := sTried)
  obtain ⟨d19, F19, B19⟩ := def2 c 19 (a := ("_law_is_word", none)) (x := "_law_is_word") (q := "_law_is_word") (st := sLWord)
  obtain ⟨d20, F20, B20⟩ := def2 c 20 (a := ("_law_heard", none)) (x := "_law_heard") (q := "_law_heard") (st := sLHeard)
  obtain ⟨d21, F21, B21⟩ := def2 c 21 (a := ("_law_due", none)) (x := "_law_due") (q := "_law_due") (st := sLDue)
  obtain ⟨d22, F22, B22⟩ := def2 c 22 (a := ("_law_some", none)) (x := "_law_some") (q := "_law_some") (st := sSome)
  have b0 : Binds K d0 ["thing"] [] := B0.bindsN fun _ _ _ _ _ _ us hl => match us, hl with | [_], _ => rfl
  have b1 : Binds K d1 ["words"] [] := B1.bindsN fun _ _ _ _ _ _ us hl => match us, hl with | [_], _ => rfl
  have b2 : Binds K d2 ["self", "pairs", "rest"] [] := B2.bindsN fun _ _ _ _ _ _ us hl => match us, hl with | [_, _, _], _ => rfl
  have b3 : Binds K d3 ["self"] [] := B3.bindsN fun _ _ _ _ _ _ us hl => match us, hl with | [_], _ => rfl
  have b4 : Binds K d4 ["self", "other"] [] := B4.bindsN fun _ _ _ _ _ _ us hl => match us, hl with | [_, _], _ => rfl
  have b5 : Binds K d5 [] [] := B5.bindsN fun _ _ _ _ _ _ us hl => match us, hl with | [], _ => rfl
  have b6 : Binds K d6 [] [] := B6.bindsN fun _ _ _ _ _ _ us hl => match us, hl with | [], _ => rfl
  have b7 : Binds K d7 [] [] := B7.bindsN fun _ _ _ _ _ _ us hl => match us, hl with | [], _ => rfl
  have b8 : Binds K d8 ["place"] [] := B8.bindsN fun _ _ _ _ _ _ us hl => match us, hl with | [_], _ => rfl
  have b9 : Binds K d9 ["place"] [] := B9.bindsN fun _ _ _ _ _ _ us hl => match us, hl with | [_], _ => rfl
  have b10 : Binds K d10 ["sort"] [] := B10.bindsN fun _ _ _ _ _ _ us hl => match us, hl with | [_], _ => rfl
  have b12 : Binds K d12 ["thing"] [] := B12.bindsN fun _ _ _ _ _ _ us hl => match us, hl with | [_], _ => rfl
  have b13 : Binds K d13 ["term"] [] := B13.bindsN fun _ _ _ _ _ _ us hl => match us, hl with | [_], _ => rfl
  have b14 : Binds K d14 ["_law_script", "_law_place"] [] := B14.bindsN fun _ _ _ _ _ _ us hl => match us, hl with | [_, _], _ => rfl
  have b15 : Binds K d15 ["_law_draws", "_law_many"] [] := B15.bindsN fun _ _ _ _ _ _ us hl => match us, hl with | [_, _], _ => rfl
  have b16 : Binds K d16 ["_law_draws", "_law_xs"] [] := B16.bindsN fun _ _ _ _ _ _ us hl => match us, hl with | [_, _], _ => rfl
  have b17 : Binds K d17 ["_law_found", "_law_due_here"] [] := B17.bindsN fun _ _ _ _ _ _ us hl => match us, hl with | [_, _], _ => rfl
  have b18 : Binds K d18 ["_law_work"] [] := B18.bindsN fun _ _ _ _ _ _ us hl => match us, hl with | [_], _ => rfl
  have b19 : Binds K d19 ["_law_thing"] [] := B19.bindsN fun _ _ _ _ _ _ us hl => match us, hl with | [_], _ => rfl
  have b20 : Binds K d20 ["_law_row"] [] := B20.bindsN fun _ _ _ _ _ _ us hl => match us, hl with | [_], _ => rfl
  have b21 : Binds K d21 ["_law_row"] [] := B21.bindsN fun _ _ _ _ _ _ us hl => match us, hl with | [_], _ => rfl
  have b22 : Binds K d22 ["_law_draws"] [] := B22.bindsN fun _ _ _ _ _ _ us hl => match us, hl with | [_], _ => rfl
  have g0 := glo2 c X G "is_word"
  have g13 := glo2 c X G "_single"
  have g12 := glo2 c X G "_checked_word"
  have G0 := ok_isword (P := PP) (w := w) (base := base) F0 T
  have G1 := ok_first (P := PP) (w := w) (base := base) F1 T enu g0 F0.kp G0 b0
  have G2 := ok_finit (P := PP) (w := w) (base := base) F2 U
  have G3 := ok_terms (P := PP) (w := w) (base := base) F3 U
  have G4 := ok_feq (P := PP) (w := w) (base := base) F4 U Q1
  have G13 := ok_single (P := PP) (w := w) (base := base) F13 U M G2 b2
  have G5 : FnOk PP w K mg base CX0 4 (He.ga K "members") d5 [] (spConst K (He.ga K "Form") "n") := ok_const rfl ⟨rfl, rfl, rfl, by decide +kernel, rfl, by decide +kernel, by decide +kernel⟩ rfl F5 g13 F13.kp G13 b13
  have G6 : FnOk PP w K mg base CX0 4 (He.ga K "bound") d6 [] (spConst K (He.ga K "Form") "t") := ok_const rfl ⟨rfl, rfl, rfl, by decide +kernel, rfl, by decide +kernel, by decide +kernel⟩ rfl F6 g13 F13.kp G13 b13
  have G7 : FnOk PP w K mg base CX0 4 (He.ga K "faulty") d7 [] (spConst K (He.ga K "Form") "f") := ok_const rfl ⟨rfl, rfl, rfl, by decide +kernel, rfl, by decide +kernel, by decide +kernel⟩ rfl F7 g13 F13.kp G13 b13
  have G12 := ok_checked F12 Er g0 F0.kp G0 b0
  have G8 : FnOk PP w K mg base (L2.CX PP w) 5 (He.ga K "at") d8 ["place"] (spTerm K (He.ga K "Form") (He.ga K "BadWord") "at") := ok_term rfl ⟨rfl, rfl, rfl, by decide +kernel, rfl, by decide +kernel, by decide +kernel⟩ rfl rfl rfl rfl rfl F8 g13 F13.kp G13 b13 g12 F12.kp G12 b12
  have G9 : FnOk PP w K mg base (L2.CX PP w) 5 (He.ga K "begun") d9 ["place"] (spTerm K (He.ga K "Form") (He.ga K "BadWord") "begun") := ok_term rfl ⟨rfl, rfl, rfl, by decide +kernel, rfl, by decide +kernel, by decide +kernel⟩ rfl rfl rfl rfl rfl F9 g13 F13.kp G13 b13 g12 F12.kp G12 b12
  have G10 : FnOk PP w K mg base (L2.CX PP w) 5 (He.ga K "said") d10 ["sort"] (spTerm K (He.ga K "Form") (He.ga K "BadWord") "said") := ok_term rfl ⟨rfl, rfl, rfl, by decide +kernel, rfl, by decide +kernel, by decide +kernel⟩ rfl rfl rfl rfl rfl F10 g13 F13.kp G13 b13 g12 F12.kp G12 b12
  have G11 := heardR (ok_heard F11 Er srt g13 F13.kp G13 b13 (glo2 c X G "first_unfit") F1.kp G1 b1)
  have G14 := ok_source (P := PP) (w := w) (base := base) F14 U2
  have G15 := ok_draw (P := PP) (w := w) (base := base) F15 U2
  have G16 := ok_pick (P := PP) (w := w) (base := base) F16 U2 (glo2 c X G "_law_draw") F15.kp G15 b15
  have G17 := ok_same (P := PP) (w := w) (base := base) F17 ⟨isi, lst, tup, len, all, free2 c X G "zip", free2 c X G "bool", int, glo2 c X G "_law_same"⟩ b17 5
  have G19 := ok_lword (P := PP) (w := w) (base := base) F19 T
  have G20 := ok_lheard F20 len (glo2 c X G "heard") F11.kp G11
  have G21 := ok_due (P := PP) (w := w) (base := base) F21 enu tup srt (glo2 c X G "_law_is_word") F19.kp G19 b19
  have G22 := ok_some (P := PP) (w := w) (base := base) F22 (glo2 c X G "_law_draw") F15.kp G15 b15 (glo2 c X G "_law_pick") F16.kp G16 b16
  have G18a := ok_triedC F18 Er U mT G3 b3 G5 F5.kp b5
  have G18b := ok_triedC F18 Er U mT G3 b3 G6 F6.kp b6
  have G18c := ok_triedC F18 Er U mT G3 b3 G7 F7.kp b7
  refine ⟨d18, d3, d4, ?_⟩
  exact {
    range := free2 c X G "range"
    min := free2 c X G "min"
    len := len
    enum := enu
    any := free2 c X G "any"
    src := dn G14 F14 (glo2 c X G "_law_source") b14
    draw := dn G15 F15 (glo2 c X G "_law_draw") b15
    som := dn G22 F22 (glo2 c X G "_law_some") b22
    lw := dn G19 F19 (glo2 c X G "_law_is_word") b19
    same := dn G17 F17 (glo2 c X G "_law_same") b17
    due := dn G21 F21 (glo2 c X G "_law_due") b21
    lheard := dn G20 F20 (glo2 c X G "_law_heard") b20
    mem := ⟨_, glo2 c X G "members", dn G5 F5 (glo2 c X G "members") b5, dn G18a F18 (glo2 c X G "_law_tried") b18⟩
    bou := ⟨_, glo2 c X G "bound", dn G6 F6 (glo2 c X G "bound") b6, dn G18b F18 (glo2 c X G "_law_tried") b18⟩
    fau := ⟨_, glo2 c X G "faulty", dn G7 F7 (glo2 c X G "faulty") b7, dn G18c F18 (glo2 c X G "_law_tried") b18⟩
    at_ := ⟨_, glo2 c X G "at", d8, _, G8, F8.kp, b8⟩
    beg := ⟨_, glo2 c X G "begun", d9, _, G9, F9.kp, b9⟩
    sai := ⟨_, glo2 c X G "said", d10, _, G10, F10.kp, b10⟩
    hrd := ⟨_, G11, glo2 c X G "heard", F11.kp⟩
    tr := F18
    trg := glo2 c X G "_law_tried"
    trb := b18
    er := Er
    ft := U
    fq := Q1
    mt := mT
    gt := G3
    bt := b3
    ge := G4
    be := b4
    tb := TB
  }
theorem fo2 (c : Says2 w h K) (X : K.In h) (G : h.Ns mainGlobals mg) : FO K (He.ga K "Form") := (own_of (mg := mg) (He.ba (ex2_of c)).2 (free2 c X G "isinstance") (He.meth_ok (oth2 c 6 (f := .meth "Form" "__eq__")))).2
end
end Mv
namespace Mv
open PySem PySem.Spec PySem.W PyProof.Rows L2
theorem law2 {w : World} {h : Heap} {K : Frag} {mg : Str → Option Value} {f : Addr} (c : Says2 w h K) (X : K.In h) (G : h.Ns mainGlobals mg) (hfa : mg ("law" : Str) = some (.ref f)) : LamX.LawAtS PySem.Challenge.rw_manyvoices_k02_forms_made w K C8.CX0 8 63 "_law_script" mg f h := by
  have e := hfa.symm.trans (glo2 c X G "law")
  cases e
  obtain ⟨fd, F, FD⟩ := def2 c 23 (a := ("law", none)) (x := "law") (q := "law") (st := sLaw)
  have hb := FunD.bindsA (ps := ["_law_script"]) FD fun _ _ _ _ _ _ us hl => match us, hl with | [_], _ => rfl
  obtain ⟨oc, od, kV, doc, pm, an, cdv, ct, osl, ef, lk, hcd⟩ := F.ex
  obtain ⟨ca, rfl⟩ := He.codeIn_ref hcd
  subst ef
  have ec : He.codeOf K ("law", none) = ca := He.codeOf_eq lk rfl
  have e1 : (He.cT K ("law", none)).1 = ca := ec
  refine ⟨_, [He.cT K ("law", none)], spLaw K (He.cT K ("law", none)).2, fun p hp => ?_, fun p hp => ?_, fun p hp => ?_, fun s u => hb s [u] rfl, fun H a ns hl _ hT hS => ?_, fun base hK hN hTB => ?_⟩
  · rw [List.mem_singleton.mp hp]
    exact c.x.empty _ (List.mem_singleton.mpr rfl)
  · rw [List.mem_singleton.mp hp]
    exact c.x.out _ (List.mem_singleton.mpr rfl)
  · rw [List.mem_singleton.mp hp]
    exact codeHd_of_K X (c.x.hd _ (List.mem_singleton.mpr rfl))
  · refine ⟨a, ns, rfl, hS, fun p hp => ?_, fun _ => rfl⟩
    rw [List.mem_singleton.mp hp]
    exact LamX.TabS.nil (hT _ (List.mem_singleton.mpr rfl))
  · have TB := hTB _ (List.mem_singleton.mpr rfl)
    rw [e1] at TB
    obtain ⟨fdg, fdT, fdE, lf⟩ := lf2 (w := w) c X G TB
    exact ok_law lk hcd lf (fo2 c X G)
end Mv
open PySem PySem.W PySem.Calls PyProof.Rows
theorem PySem.Challenge.cw_manyvoices_k02_forms_made_holds : PySem.Challenge.rw_manyvoices_k02_forms_made.Holds := by
  w_on; o_law
  refine HandSHeadRun.head_any (r := OpenLaw.row PySem.Challenge.rw_manyvoices_k02_forms_made) (q := view (OpenLaw.row PySem.Challenge.rw_manyvoices_k02_forms_made).prog [35]) (H := Mv.hk2) (ob := Mv.ob2) (M := 8000) (loose := Mv.topNames) (d := HandSHeadRun.topDef (OpenLaw.row PySem.Challenge.rw_manyvoices_k02_forms_made).prog 35) (kwd := []) Mv.ob2_eq
    (by kernel_rfl) (fun s => by kernel_rfl) Mv.run2 (by kernel_rfl) (by kernel_rfl) (by kernel_rfl) (by rfl) (by first | assumption | decide +kernel) (by decide +kernel) ⟨rfl, rfl, rfl, rfl, rfl, by decide +kernel⟩ ?hw ?hc
  case hw => w_witness2
  case hc =>
    refine LamX.walk_ofTsE (l := PySem.Challenge.rw_manyvoices_k02_forms_made) (n := 63) (k := 8) (x := "_law_script") (CX := fun _ => C8.CX0) rfl (by decide) (by kernel_rfl) ⟨rfl, by decide, by decide⟩ ?F (fun _ _ _ _ _ z => z)
    intro w mg fa h Y G hmg0
    obtain ⟨K, KX, c⟩ := Y
    have hmg : mg ("law" : PySem.Str) = some (.ref fa) := by
      have e : (HandSHeadRun.topDef (OpenLaw.row PySem.Challenge.rw_manyvoices_k02_forms_made).prog 35).name = ("law" : PySem.Str) := by kernel_rfl
      rw [← e]
      exact hmg0
    exact ⟨K, KX, Mv.law2 c KX G hmg⟩
