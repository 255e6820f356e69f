import PyProof.Rows.All
import Wide.All
import OpenK.AllK
import Wide.FinOn
import HandS.ForMost
import HandS.ForExc
import HandS.ExcInit
import HandS.Nested
import HandS.HeadWalk
import KE.KExcSuper
import HandS.IsInst
import HandS.Walk
import HandS.Flow
import HandS.Text
import HandS.StrMore
import KE.GoesEnum
import HandS.ExcValue
import HandS.Star
import PyProof.InstNe
import KE.LtSeq
import HandS.SortKw
import HandS.DictComp
import HandS.DictTup
import HandS.Conv
import KE.KDictSum
import KE.KDictPairs
import HandS.Dict
import KE.KOpsOwn
import HandS.OwnEq
import HandS.More
import HandS.Zip
import HandS.Lambda
import HandS.CallLocal
import HandS.Style
import HandS.DictEq
import HandS.MakeKw
import HandS.ExcIs
import HandS.TryMany
import HandS.Gcd
import PyProof.EqAt
import HandS.Defaults
import HandS.HeadHook4
import HandS.Head2
import PyProof.P3In
import HandS.MakeKwOnly
import PyProof.ListStr
import HandS.Head3
import PySem.Challenge.RW_manyvoices_k08_schemes_refused
set_option Elab.async false
set_option linter.all false
set_option maxRecDepth 100000
set_option maxHeartbeats 0
namespace Mv
open PySem PySem.Spec PySem.W PyProof.Rows L2 NdefX

/-- the written facts of an own error class over ValueError, whose __init__ begins with super().__init__(a text) -/
structure SupK (P : Program) (K : Frag) (mg : Str → Option Value) (C cc cda : Addr) : Prop where
  T : OexC K C
  code : ∃ ccl cdd vs ccs file tf, K.lookup cda = some ⟨ccl, cdd, .fields vs, ccs⟩ ∧ vs[2]? = some (Value.str file tf) ∧ ((P.main.file : Str) == file) = true
  cell : ∃ cl cld csl, K.lookup cc = some ⟨cl, cld, .cell (some (.ref C)), csl⟩
  cls : ∃ cd, clsIn K C = some cd
  self : mroIn K C (.ref C) = some true
  sup : mg "super" = none
  top : (P.main.scope.names.lookup ("super" : Str)).isSome = false
  meth : ks_superIn K C C "__init__" = some (some (.builtin "ValueError.__init__"))
  ve : subIn K (.ref C) (.type "ValueError") = some true
  opaq : nsIn K cStatics "thirdparty.any" = some none

abbrev exm (a C : Addr) (t1 : Addr) : Obj := { cls := .ref C, dict := none, data := .fields #[.ref t1, .none, .none, .none, .bool false, .none] }

section
variable {P : Program} {w : World} {A : Around} {E : Value → Shared → Prop} {K : Frag} {h : Heap} {g : Array GenState} {d : Drawn} {t : Nat} {os : OsState}
/-- the bound ValueError.__init__ is called: the error's args are laid anew -/
theorem call_mw {u e C t0 : Addr} {us : List Value} {Q : Value → Shared → Prop} (T : OexC K C) (hK : K.In h) (hu : h.get? u = some (kxs_mw "ValueError.__init__" e)) (he : h.get? e = some (exm e C t0)) (hl : us.length ≤ sizeLine)
    (hq : ∀ h' t1, (∀ b o, b ≠ e → h.get? b = some o → h'.get? b = some o) → h'.get? e = some (exm e C t1) → Q .none ⟨h', g, d, t, os⟩) :
    wpAny (model P w) A (call (.ref u) us) Q E ⟨h, g, d, t, os⟩ := by
  obtain ⟨nm, q, N, bs, bm, sn, sub, ab, col, dd, k0, k1, k2, k3, k5, hC, hbm⟩ := T.cls
  have FB := F.excBase_ValueError
  refine wpAny_call (codeAny_of_tree (show wpAny _ A.in1 (callAny (.ref u) ⟨us, []⟩) _ _ _ from ?_))
  unfold callAny
  refine wpAny_bind (wpAny_load hu (KFB.if_so rfl ?_))
  refine wpAny_bind (check_bound_init FB.toExcCallFacts (hK _ _ hC) he rfl (wpAny_bind (wpAny_pure (wpAny_pure ⟨plainId_quiet FB.init.plain _, codeAny_builtin FB.initEntry ?_⟩))))
  exact exc_init_tree (cls := .ref C) (t0 := t0) (dv := none) (c2 := .none) (c3 := .none) (b4 := .bool false) he hl fun h' k e1 _ => hq h' _ k e1
end
/-- o.m(e) on one line -/
theorem meth_eq {o e : Expr} {es : List Expr} {m : Str} {apos pos : Pos} {env : Env} (hl : (apos.endLine == pos.line) = true) (hf : methodCallForm (e :: es).length (backTo pos (starEach (e :: es) env)) [] = true) :
    eval (.Call (.Attribute o m apos) (e :: es) [] pos) env = (do
      let ov ← attributeBase o m env (eval o env)
      standAt apos.atName
      let (f, first) ← holding [ov] (getMethod ov m (plainOf o env))
      callWith pos f first (backTo pos (starEach (e :: es) env)) []) := by
  rw [eval]
  have e1 : ∀ ov, methodCall o m apos pos env ov ((e :: es).length + ([] : List Keyword).length) (backTo pos (starEach (e :: es) env)) (backToKw pos (keywordEach [] env)) = (do
      let (f, first) ← holding [ov] (getMethod ov m (plainOf o env))
      callWith pos f first (backTo pos (starEach (e :: es) env)) []) := fun ov => mcall_line (kws := []) hf hl
  simp only [e1]
section
variable {CX : CXT} {P : Program} {w : World} {K : Frag} {mg : Str → Option Value} {base : Heap} {C fI cc cda : Addr} {k : Nat}
/-- the cells of such an __init__: its own class -/
theorem cells_cls {h : Heap} {H : Hp} (D : SupK P K mg C cc cda) (hk : K.In h) (hf : ∀ b o, K.lookup b = some o → H b = none) : CellsAt [("__class__", cc)] ["__class__"] [some (V.ref C)] h H := by
  obtain ⟨cl, cld, csl, hc⟩ := D.cell
  have one : ∀ {y c}, List.lookup y [(("__class__" : Str), cc)] = some c → y = "__class__" ∧ c = cc := fun {y c} e => by
    rw [List.lookup_cons] at e
    split at e
    · rename_i q
      exact ⟨by simpa using q, (Option.some.inj e).symm⟩
    · cases e
  refine ⟨rfl, fun y c e => ?_, fun x y c e1 e2 => (one e1).1.trans (one e2).1.symm, fun i y e => ?_⟩
  · obtain ⟨-, rfl⟩ := one e
    exact ⟨hf _ _ hc, _, _, hk _ _ hc, rfl⟩
  · cases i with
    | zero =>
      cases e
      exact ⟨cc, by rw [List.lookup_cons]; simp, fun v ev => ⟨.ref C, by cases ev; rfl, _, hk _ _ hc, rfl⟩⟩
    | succ i => cases e

theorem sup_of {name qual txt : Str} {params : Arguments} {scope : Scope} {ar : Arg} {rst : List Stmt} {p0 p1 p2 p3 p4 p5 : Pos} {j : Nat} {kV doc pm ct oc : Value} {an od : Option Addr} {osl : Array (Option Value)} {N ps : List Str} {sp : Sp}
    (D : SupK P K mg C cc cda)
    (lk : K.lookup fI = some ⟨oc, od, .func (fnX name qual params (.Expr (.Call (.Attribute (.Call (.Name "super" p0) [] [] p1) "__init__" p2) [.Constant (.str txt) j p3] [] p4) p5 :: rst) scope [("__class__", cc)] .none kV doc pm an (.ref cda) ct), osl⟩)
    (hcd : codeIn K (.ref cda) qual = true) (S : NScope N (("self" : Str) :: ps) ["__class__"] scope) (hks : scope.names.lookup ("super" : Str) = some .globalImplicit)
    (hpos : (p2.endLine == p4.line) = true) (hp : (params.posonlyargs ++ params.args).head? = some ar) (har : ar.arg = "self") 
    (len : ∀ vs H Q E, sp vs H Q E → vs.length = (("self" : Str) :: ps).length)
    (hrest : ∀ (A : Around) (outer : List Env) (s : Shared) (H : Hp) (vs : List V) (Q : VK) (E : XK) (F : NF), F = ⟨name, qual, params, (.Expr (.Call (.Attribute (.Call (.Name "super" p0) [] [] p1) "__init__" p2) [.Constant (.str txt) j p3] [] p4) p5 :: rst), scope, [("__class__", cc)], cda⟩ → Room k (A.deeper (envF F fI s.heap.objs.size)) → sp vs H Q E →
      (∃ a, vs.head? = some (.ref a) ∧ H a = some (exo a C none)) ∧ ∃ t, PSs (ncx CX P w K mg base N F fI A outer s H E) rst t ∧ t { nx := fun _ H' => Q .non H', rt := Q } (startF N vs [some (.ref C)]) H) :
    FnOk P w K mg base CX (k + 1) fI (fnX name qual params (.Expr (.Call (.Attribute (.Call (.Name "super" p0) [] [] p1) "__init__" p2) [.Constant (.str txt) j p3] [] p4) p5 :: rst) scope [("__class__", cc)] .none kV doc pm an (.ref cda) ct) (("self" : Str) :: ps) sp := by
  refine ⟨len, fun A outer s H args us vs Q E hr e0 hb r hsp => ?_⟩
  obtain ⟨F, hF⟩ : ∃ F : NF, F = ⟨name, qual, params, (.Expr (.Call (.Attribute (.Call (.Name "super" p0) [] [] p1) "__init__" p2) [.Constant (.str txt) j p3] [] p4) p5 :: rst), scope, [("__class__", cc)], cda⟩ := ⟨_, rfl⟩
  have hl := len _ _ _ _ hsp
  have KX : K.In s.heap := e0.mod.kin.keeps fun b o e => (e0.bs b o e).1
  have lim : s.heap.NoLimit := e0.mod.nolimit.keeps fun b o e => (e0.bs b o e).1
  have hfree : ∀ b o, K.lookup b = some o → H b = none := fun b o e => (e0.bs b o (e0.mod.kin _ _ e)).2
  have CA := cells_cls D KX hfree
  have hloc : ∀ y ∈ (("self" : Str) :: ps).zip us, scope.names.lookup y.1 = some .local := fun ⟨n, v⟩ hy => S.par n (List.of_mem_zip hy).1
  refine codeAny_call_function hr.depth (KX _ _ lk) rfl S.co S.gen rfl (codeRec_of KX hcd) (hb _ _ _ _ ?_)
  refine wpAny_newFunctionEnv S.nocell hloc (fun h₁ hns hsb => ⟨lim.fresh _ hsb, ?_⟩) S.kind
  have kp : ∀ b o, s.heap.get? b = some o → h₁.get? b = some o := fun b o e => hsb.extBut b o (Nat.ne_of_lt (Heap.lt_size e)) (Heap.get?_push_of_some _ e)
  have hbody := hrest A outer s H vs Q E F hF
  have e1 : NScope N (("self" : Str) :: ps) ["__class__"] F.scope := by rw [hF]; exact S
  have CA' : CellsAt F.cl ["__class__"] [some (V.ref C)] s.heap H := by rw [hF]; exact CA
  obtain ⟨⟨a, hva, ha⟩, t, ht, hq⟩ := hbody (hr.deeper _) hsp
  have I : Inv (ncx CX P w K mg base N F fI A outer s H E) [] (startF N vs [some (.ref C)]) H { s with heap := h₁, toks := s.toks + ((("self" : Str) :: ps).zip us).length } := inv_startN e1 hr.hd e0 hl r CA' hns kp
  obtain ⟨ccl, cdd, vs', ccs, file, tf, hcode, hvs, hfile⟩ := D.code
  obtain ⟨cl, cld, csl, hcell⟩ := D.cell
  obtain ⟨cdC, hcl⟩ := D.cls
  subst hF
  have hev := meth_eq (o := .Call (.Name "super" p0) [] [] p1) (m := "__init__") (e := .Constant (.str txt) j p3) (es := []) (env := envX qual scope s.heap.objs.size fI (.ref cda) [("__class__", cc)]) hpos rfl
  refine ks_codeAny_funcAt (ks_wpAt_execs_cons (ks_wpAt_Expr_any (ks_wpAt_MethodCall ?_ hev) (by show (scope.kind == .module && _) = false; rw [S.kind]; rfl)))
  have K1 := I.kIn
  obtain ⟨m, hn, hlk⟩ := I.loc
  have hN0 : N[0]? = some ("self" : Str) := by
    have q := congrArg (fun l : List Str => l[0]?) S.pre
    rw [List.getElem?_take_of_lt (by simp)] at q
    exact q
  have hs0 : (startF N vs [some (V.ref C)])[0]? = some (some (.ref a)) := by
    cases vs with
    | nil => cases hva
    | cons v vs => cases hva; rfl
  obtain ⟨u0, r0, l0⟩ := hlk 0 "self" (.ref a) hN0 hs0 (.inl (S.par _ (by simp)))
  cases r0
  have hself : m "self" = some (Value.ref a) := by
    rcases l0 with ⟨_, e⟩ | ⟨e, _⟩
    · exact e
    · have e2 : scope.names.lookup ("self" : Str) = some .local := S.par _ (by simp)
      have e3 : scope.names.lookup ("self" : Str) = some .cell ∨ scope.names.lookup ("self" : Str) = some .free := e
      rw [e2] at e3
      rcases e3 with z | z <;> cases z
  obtain ⟨mb, b1, b2⟩ := I.mod.blt
  obtain ⟨t1, ho⟩ := exo_at I.hok ha
  obtain ⟨oC, hC1, hC2⟩ : ∃ oC, K.lookup C = some oC ∧ oC.data = .cls cdC := by
    unfold clsIn at hcl
    split at hcl
    · rename_i c d cd' sl hz
      cases hcl
      exact ⟨_, hz, rfl⟩
    · cases hcl
  refine ks_wpAt_super_base (env := envX qual scope s.heap.objs.size fI (.ref cda) [("__class__", cc)]) hks (S.frk _ (by simp)) (by decide) rfl (K1 _ _ lk) rfl hp rfl (K1 _ _ hcode) rfl hvs hfile D.top ?_
  rw [har]
  refine ks_loadName_global S.kind hks (Calls.loadGlobal_builtin (I.mod.glob.keeps I.bk) D.sup (b1.keeps I.bk) ((b2 _ (by decide)).trans (by first | rfl | decide +kernel)) ⟨rfl, ?_⟩)
  refine wpAny_loadName_free S.kind (S.frk _ (by simp)) (by rw [List.lookup_cons]; simp) ⟨_, K1 _ _ hcell, rfl⟩ ?_
  refine wpAny_loadName_local S.kind (S.par _ (by simp)) hn hself ?_
  refine ks_wpAny_isType_cls (K1 _ _ hC1) hC2 ⟨rfl, ?_⟩
  refine ks_wpAny_call_super (K1 _ _ hC1) hC2 ho rfl (fun c e => by cases e) (looks_mroIn K1 D.self) (fun h2 e2 k2 => ?_)
  have hm := D.meth
  unfold ks_superIn at hm
  rw [hcl] at hm
  have K2 : K.In h2 := K1.keeps k2
  have IA : PySem.W.InstAt h2 a (exm a C t1) C none := ⟨k2 _ _ ho, rfl, rfl, True.intro⟩
  have I2 := I.kept (h' := h2) (t' := s.toks + ((("self" : Str) :: ps).zip us).length) k2
  refine kxs_getMethod kxs_ValueError e2 (looks_opaque K2 D.opaq) (l₀ := cdC.mro) (fun A Q E s k q => wpAny_bind ((looks_clsIn K2 hcl) A _ E s k (wpAny_pure q))) rfl K2 hm (IA.type.andThen (looks_subIn K2 D.ve)) (ks_ne K2 IA hcl) (by decide) ?_
  have I3 := I2.kept (h' := h2.push (kxs_mw "ValueError.__init__" a)) (t' := s.toks + ((("self" : Str) :: ps).zip us).length + 1) (fun b o e => Heap.get?_push_of_some _ e)
  have hub : (h2.push (kxs_mw "ValueError.__init__" a)).get? h2.objs.size = some (kxs_mw "ValueError.__init__" a) := Heap.get?_push_at rfl rfl
  have I4 := I3.pins_of (pins' := [(h2.objs.size, kxs_mw "ValueError.__init__" a)]) (fun p hp => by
    obtain rfl := List.mem_singleton.mp hp
    exact ⟨hub, I2.hok.fresh (Nat.le_refl _), Nat.ne_of_gt I2.lt, I2.nofs (Nat.le_refl _), fun v e => by cases e⟩)
  refine kxs_callWith (i := "ValueError.__init__") (x := a) rfl (Calls.evalArgs_plain (thn ((pa_cons pe_str pa_nil).run p4 _ _ _ H (fun vs H' => vs = [V.str txt] ∧ H' = H) I4 ⟨rfl, rfl⟩) fun us3 s3 ⟨vs3, H3, I5, r3, q3⟩ => ?_))
  obtain ⟨rfl, rfl⟩ := q3
  have hpin := (I5.pin (h2.objs.size, kxs_mw "ValueError.__init__" a) (by simp)).1
  obtain ⟨t2, ho5⟩ := exo_at I5.hok ha
  have hlen : us3.length ≤ sizeLine := by
    rw [← Paired.length r3]
    exact (by decide : 1 ≤ sizeLine)
  obtain ⟨h5, g5, d5, tk5, os5⟩ := s3
  refine ⟨hpin, call_mw D.T I5.kIn hpin ho5 hlen fun h' t3 k5 e5 => ?_⟩
  have J := I5.write (t' := tk5) (x := a) (e := a) (o := exo a C none) (by rw [ha]; exact True.intro) (.inl rfl) k5 ⟨_, e5⟩ (exo_ok e5)
  have eu : upd H3 a (exo a C none) = H3 := by
    funext b
    by_cases hb : b = a
    · rw [hb, upd_same, ha]
    · rw [upd_ne hb]
  rw [eu] at J
  have J2 := J.pins_of (pins' := []) (fun p hp => nomatch hp)
  refine wpAt_of_wpAny (wpAny_mono (ht.run [] _ _ _ _ J2 hq) (fun fl s' hs => ?_) fun e s' hs => hs)
  have ends : ∀ {FF : NF} {σ' : L2.St} {H' : Hp} {v : V} {u : Value}, Inv (ncx CX P w K mg base N FF fI A outer s H3 E) [] σ' H' s' → L2.RelV v u → Q v H' → CE outer P w H3 s Q u s' := fun {FF σ' H' v u} Z rv q => ⟨v, H', Z.os, Z.bare, Z.base, Z.hok, rv, q⟩
  cases fl with
  | ret u =>
    obtain ⟨v, σ', H', Z, rv, q⟩ := hs
    exact ends Z rv q
  | next =>
    obtain ⟨σ', H', Z, q⟩ := hs
    exact ends (v := V.non) (u := Value.none) Z rfl q
  | brk => exact (let ⟨_, _, _, q⟩ := hs; False.elim q)
  | cont => exact (let ⟨_, _, _, q⟩ := hs; False.elim q)
end
end Mv
namespace Mv
open PySem PySem.Spec PySem.W PyProof.Rows L2 NdefX

/-- such an __init__, called with the new error and y: its field fld holds y -/
def spErr (C : Addr) (fld : Str) : Sp := fun vs H Q _ => ∃ (a : Addr) (y : V), vs = [.ref a, y] ∧ H a = some (exo a C none) ∧ ∀ dx, H dx = none → dx ≠ a → Q .non (upd (upd H dx (exd dx [(fld, y)])) a (exo a C (some dx)))
/-- an own error class of one field, by what its users ask -/
structure Err (P : Program) (w : World) (K : Frag) (mg : Str → Option Value) (base : Heap) (x : Str) (C : Addr) (fld : Str) : Prop where
  gC : mg x = some (.ref C)
  T : OexC K C
  init : ∃ (fI : Addr) (fd : FuncData) (ps : List Str), findIn K (.ref C) "__init__" = some (some (.ref fI)) ∧ typeIn K (.ref fI) = some (.type "function") ∧ FnOk P w K mg base CX0 2 fI fd ps (spErr C fld) ∧ Binds K fd ps []
  noF : findIn K (.ref C) fld = some none
  ga : findIn K (.ref C) "__getattribute__" = some (some (.builtin "BaseException.__getattribute__"))
  gg : findIn K (.ref C) "__getattr__" = some none
  hdC : hasDictIn K C = true
  te : exmOne K (.ref C) (.ref C) = some true

section
variable {X : Cx} {x fld : Str} {C : Addr} {e : Expr} {te : TE} {p pos : Pos}
/-- a reading by what is known behind it -/
def tWk (te : TE) : TE := fun σ H Q => ∃ R : VK, te σ H R ∧ ∀ y H1, R y H1 → Q y H1
theorem pe_wk (he : PE X e te) : PE X e (tWk te) := ⟨fun pins s σ H Q I ⟨R, h, k⟩ => thn (he.run pins s σ H R I h) fun u s1 ⟨v, H1, I1, r, q⟩ => ⟨v, H1, I1, r, k v H1 q⟩⟩
/-- X(e) where X is such a class -/
def tMkErr (C : Addr) (fld : Str) (te : TE) : L2.St → Hp → XK → Prop := fun σ H Q => te σ H fun y H1 => ∀ d, H1 d = none → Q (.ref C) (some d) (upd H1 d (.xd [(fld, y)]))
theorem del_back {H1 : Hp} {a dx : Addr} {o o2 : HO} {fs : List (Str × V)} {E : HO} (ha : H1 a = none) (hd : dx ≠ a) : upd (L2.del (upd (upd (upd H1 a o) dx E) a o2) a) dx (.xd fs) = upd H1 dx (.xd fs) := by
  funext b
  by_cases h1 : b = dx
  · rw [h1, upd_same, upd_same]
  · rw [upd_ne h1, upd_ne h1]
    by_cases h2 : b = a
    · rw [h2, L2.del_same, ha]
    · rw [L2.del_ne h2, upd_ne h2, upd_ne h1, upd_ne h2]
theorem pmk_err (T : Err X.prog X.w X.K X.mg X.base x C fld) (hr : Room 3 X.A) (hg : Gl X x) (he : PE X e te) (hdb : (x == ("__debug__" : Str)) = false := by decide)
    (hs : starEach (e :: []) X.env = (false, eval e X.env) :: starEach [] X.env := by rfl) (hpl : (backTo pos (starEach [] X.env)).any (·.1) = false := by rfl) :
    PMk X (.Call (.Name x p) [e] [] pos) (tMkErr C fld te) := by
  obtain ⟨fI, fd, ps, iC, tI, F, b⟩ := T.init
  have base := pmk_oex (X := X) (e := e) (es := []) (p := p) (pos := pos) T.T iC tI F hr b .nil pass0 hg T.gC (pa_cons (pe_wk he) pa_nil (by exact hs)) hdb hs hpl
  intro pins s σ H Q I h
  refine base pins s σ H Q I ⟨_, h, fun y H1 k => ⟨(by decide : 1 ≤ 1000), fun a ha => ?_⟩⟩
  refine ⟨a, y, rfl, upd_same, fun dx hdx hne => ?_⟩
  have hd1 : H1 dx = none := by
    rw [upd_ne hne] at hdx
    exact hdx
  refine ⟨rfl, dx, [(fld, y)], upd_same, ?_, hd1, ?_⟩
  · rw [upd_ne hne, upd_same]
  · have q := k dx hd1
    rw [← del_back (o := exo a C none) (o2 := exo a C (some dx)) (E := exd dx [(fld, y)]) ha hne] at q
    exact q
/-- raise X(e) -/
def tRaiseErr (C : Addr) (fld : Str) (W : WX) (te : TE) : TS := fun _ σ H => tMkErr C fld te σ H fun cls d H' => W cls d σ H'
theorem ps_raiseErr {W : WX} {pos2 : Pos} (hc : X.calm = true) (T : Err X.prog X.w X.K X.mg X.base x C fld) (hr : Room 3 X.A) (tk : Takes X W) (hg : Gl X x) (he : PE X e te) (hdb : (x == ("__debug__" : Str)) = false := by decide)
    (hs : starEach (e :: []) X.env = (false, eval e X.env) :: starEach [] X.env := by rfl) (hpl : (backTo pos (starEach [] X.env)).any (·.1) = false := by rfl) :
    PS X (.Raise (some (.Call (.Name x p) [e] [] pos)) none pos2) (tRaiseErr C fld W te) := ps_raise hc tk (pmk_err T hr hg he hdb hs hpl)
/-- n.fld in an except suite, n the error that it holds -/
def tFldErr (C : Addr) (fld : Str) (a : Addr) (cls : Value) (d : Option Addr) (te : TE) : TE := fun σ H Q => te σ H fun x H1 => x = .ref a ∧ cls = .ref C ∧ ∃ (dd : Addr) (v : V), d = some dd ∧ H1 dd = some (.xd [(fld, v)]) ∧ Q v H1
theorem pe_fldErr {a : Addr} {oe : Obj} {cls : Value} {d : Option Addr} {pn : List (Addr × Obj)} (T : Err X.prog X.w X.K X.mg X.base x C fld) (hz : Zc cls d oe) (hf : ∃ vs, oe.data = .fields vs) (he : PE (X.suite a ((a, oe) :: pn)) e te)
    (hb : attributeBase e fld X.env (eval e X.env) = eval e X.env := by rfl) (hdbl : (fld == ("__class__" : Str)) = false := by decide) :
    PE (X.suite a ((a, oe) :: pn)) (.Attribute e fld pos) (tFldErr C fld a cls d te) := by
  refine ⟨fun pins s σ H Q I h => ?_⟩
  refine attr_of hb (thn (he.run pins s σ H _ I h) fun u s1 ⟨y, H1, I1, rx, ex, ec, dd, v, ed, ea, q⟩ => ?_)
  subst ex ec ed
  cases rx
  have hx : ObjOk X.prog X.w H1 s1.heap dd (.xd [(fld, v)]) := I1.hok dd _ ea
  obtain ⟨mA, hns, hr⟩ := hx
  obtain ⟨od, ho, hl⟩ := lookIn_ns hns
  have l : List.lookup fld [(fld, v)] = some v := by simp [List.lookup]
  obtain ⟨u, hu, ru⟩ := RelO.some_of (v := v) (o := mA fld) (by rw [← l]; exact hr fld)
  obtain ⟨ha, -⟩ := I1.pin (a, oe) (List.mem_append_left _ List.mem_cons_self)
  have J : PySem.W.InstAt s1.heap a oe C (some od) := ⟨ha, hz.1, by obtain ⟨vs, hv⟩ := hf; unfold PySem.W.notCls; rw [hv] <;> rfl, by rw [hz.2]; exact ho⟩
  exact HandSPX.exc_get I1.kIn J T.ga T.gg T.T.exC (PySem.W.findObj_own T.hdC T.noF rfl (by rw [hl, hu])) (handed_of ru) ⟨v, H1, I1.tok _, ru, q⟩
end
end Mv
namespace Mv
open PySem PySem.Spec PySem.W PyProof.Rows L2 NdefX
section
variable {P : Program} {w : World} {K : Frag} {mg : Str → Option Value} {base : Heap} {C fI cc cda : Addr}
/-- __init__(self, par): super().__init__(a text); self.fld = par -/
theorem init1 {CX : CXT} {qual txt fld par : Str} {params : Arguments} {scope : Scope} {ar : Arg} {p0 p1 p2 p3 p4 p5 q1 q2 q3 q4 : Pos} {j : Nat} {kV doc pm ct oc : Value} {an od : Option Addr} {osl : Array (Option Value)}
    (D : SupK P K mg C cc cda) (noF : findIn K (.ref C) fld = some none)
    (lk : K.lookup fI = some ⟨oc, od, .func (fnX "__init__" qual params [.Expr (.Call (.Attribute (.Call (.Name "super" p0) [] [] p1) "__init__" p2) [.Constant (.str txt) j p3] [] p4) p5, .Assign [.Attribute (.Name "self" q1) fld q2] (.Name par q3) q4] scope [("__class__", cc)] .none kV doc pm an (.ref cda) ct), osl⟩)
    (hcd : codeIn K (.ref cda) qual = true) (S : NScope ["self", par, "__class__"] ["self", par] ["__class__"] scope) (hks : scope.names.lookup ("super" : Str) = some .globalImplicit)
    (hpos : (p2.endLine == p4.line) = true) (hp : (params.posonlyargs ++ params.args).head? = some ar) (har : ar.arg = "self") (hdb : (par == ("__debug__" : Str)) = false) (hcl : (par == ("__classdict__" : Str)) = false) :
    FnOk P w K mg base CX 1 fI (fnX "__init__" qual params [.Expr (.Call (.Attribute (.Call (.Name "super" p0) [] [] p1) "__init__" p2) [.Constant (.str txt) j p3] [] p4) p5, .Assign [.Attribute (.Name "self" q1) fld q2] (.Name par q3) q4] scope [("__class__", cc)] .none kV doc pm an (.ref cda) ct) ["self", par] (spErr C fld) := by
  refine sup_of (k := 0) D lk hcd S hks hpos hp har (fun vs H Q E h => ?_) (fun A outer s H vs Q E F hF hr h => ?_)
  · obtain ⟨a, y, rfl, _⟩ := h
    rfl
  · obtain ⟨a, y, rfl, ha, k⟩ := h
    subst hF
    refine ⟨⟨a, rfl, ha⟩, _, pss_one (ps_ost (pv 0 rfl (.inl (S.par _ (by simp)))) (pv 1 rfl (.inl (S.par _ (by simp))) hdb hcl)), ?_⟩
    exact ⟨y, rfl, _, rfl, a, C, rfl, D.T, noF, .inl ⟨ha, fun dx hdx hne => k dx hdx hne⟩⟩
end
end Mv
namespace Mv
open PySem PySem.Spec PyProof.Rows L2
def top (i : Nat) : Stmt := PySem.Challenge.pw_manyvoices_k08_schemes_refused.main.body.getD i (.Pass ⟨0, 0, 0, 0⟩)
abbrev sIsWord : Stmt := top 19
/-! ### words -/
def LET : Str := "abcdefghijklmnopqrstuvwxyz"
def signs (z : Str) : List Bool := z.cps.toList.map fun c => decide (c ∈ LET.cps.toList)
def isWS (z : Str) : Bool := decide (1 ≤ z.length) && decide (z.length ≤ 8) && (signs z).all id
def isW : V → Bool
  | .str z => isWS z
  | _ => false
/-- a value that may be asked whether it is a text -/
inductive Kn (K : PySem.W.Frag) (H : Hp) : V → Prop where
  | str {z : Str} (h : z.length ≤ sizeLine) : Kn K H (.str z)
  | oth {x : V} {t : Value} (ty : TyX K H x t) (h : PySem.W.kitOne K t (.type "str") = some false) (n : isW x = false) : Kn K H x
/-- what the module's names hold -/
structure WT (K : PySem.W.Frag) (mg : Str → Option Value) : Prop where
  isi : mg "isinstance" = none
  str : mg "str" = none
  len : mg "len" = none
  all : mg "all" = none
  lw : ∃ t, mg "LONGEST_WORD" = some (.int 8 t)
def spIsWord (K : PySem.W.Frag) : Sp := fun vs H Q _ => ∃ x, vs = [x] ∧ Kn K H x ∧ ∀ H', Same H H' → Q (.bl (isW x)) H'
theorem same_new {H : Hp} {p : Addr} {o : HO} (h : H p = none) : Same H (upd H p o) := fun b u e => by
  rw [upd_ne (ne_of_none e h)]
  exact e
theorem same_put {H H1 : Hp} {p : Addr} {o : HO} (s : Same H H1) (h : H p = none) : Same H (upd H1 p o) := fun b u e => by
  rw [upd_ne (ne_of_none e h)]
  exact s b u e
theorem take_next {α : Type} {l : List α} {i : Nat} {x : α} (h : l[i]? = some x) : l.take (i + 1) = l.take i ++ [x] := by
  rw [List.take_add_one, h]
  rfl
theorem ifT {b : Bool} {A B : Prop} (h : b = true) (a : A) : if b = true then A else B := by rw [if_pos h]; exact a
theorem ifF {b : Bool} {A B : Prop} (h : b = false) (a : B) : if b = true then A else B := by rw [h]; exact a
theorem asc1 : ∀ c, c < 128 → (PySem.Unicode.isAlpha c && !(PySem.Unicode.isUpper c || PySem.Unicode.isTitle c)) = decide (c ∈ LET.cps.toList) := by decide +kernel
theorem asc2 : ∀ c, c < 128 → c ∈ LET.cps.toList → PySem.Unicode.isLower c = true := by decide +kernel
theorem asc3 : ∀ c, c ∈ LET.cps.toList → c < 128 := by decide +kernel
theorem arr_all {α : Type} {p : α → Bool} {a : Array α} : a.all p = true ↔ ∀ c ∈ a.toList, p c = true := by rw [← Array.all_toList, List.all_eq_true]
theorem arr_any {α : Type} {p : α → Bool} {a : Array α} : a.any p = true ↔ ∃ c ∈ a.toList, p c = true := by rw [← Array.any_toList, List.any_eq_true]
theorem signs_all {z : Str} : (signs z).all id = true ↔ ∀ c ∈ z.cps.toList, c ∈ LET.cps.toList := by
  unfold signs
  rw [List.all_map, List.all_eq_true]
  constructor
  · exact fun h c hc => of_decide_eq_true (h c hc)
  · exact fun h c hc => decide_eq_true (h c hc)
/-- the program's own look at a text of at most eight signs -/
theorem low_iff (z : Str) (h2 : z.length ≤ 8) : isWS z = (Txt.isascii z && (Txt.isalpha z && Txt.islower z)) := by
  rw [Bool.eq_iff_iff]
  unfold isWS
  rw [Bool.and_eq_true, Bool.and_eq_true, Bool.and_eq_true, Bool.and_eq_true, signs_all, decide_eq_true_iff, decide_eq_true_iff]
  have ea : Txt.isascii z = true ↔ ∀ c ∈ z.cps.toList, c < 128 := by
    show (z.cps.all fun c => decide (c < 128)) = true ↔ _
    rw [arr_all]
    constructor
    · exact fun h c hc => of_decide_eq_true (h c hc)
    · exact fun h c hc => decide_eq_true (h c hc)
  have el : Txt.isalpha z = true ↔ 1 ≤ z.length ∧ ∀ c ∈ z.cps.toList, PySem.Unicode.isAlpha c = true := by
    show (decide (z.length > 0) && z.cps.all PySem.Unicode.isAlpha) = true ↔ _
    rw [Bool.and_eq_true, arr_all, decide_eq_true_iff]
    exact Iff.rfl
  have ew : Txt.islower z = true ↔ (∃ c ∈ z.cps.toList, PySem.Unicode.isLower c = true) ∧ ∀ c ∈ z.cps.toList, (PySem.Unicode.isUpper c || PySem.Unicode.isTitle c) = false := by
    show (z.cps.any PySem.Unicode.isLower && !z.cps.any fun c => PySem.Unicode.isUpper c || PySem.Unicode.isTitle c) = true ↔ _
    rw [Bool.and_eq_true, arr_any, Bool.not_eq_true', Bool.eq_false_iff, Ne, arr_any]
    refine and_congr Iff.rfl ⟨fun h c hc => Bool.eq_false_iff.mpr fun e => h ⟨c, hc, e⟩, fun h ⟨c, hc, e⟩ => by rw [h c hc] at e; cases e⟩
  rw [ea, el, ew]
  constructor
  · rintro ⟨⟨h1, _⟩, h⟩
    have lt : ∀ c ∈ z.cps.toList, c < 128 := fun c hc => asc3 c (h c hc)
    have q : ∀ c ∈ z.cps.toList, PySem.Unicode.isAlpha c = true ∧ (PySem.Unicode.isUpper c || PySem.Unicode.isTitle c) = false := fun c hc => by
      have e := asc1 c (lt c hc)
      rw [decide_eq_true (h c hc), Bool.and_eq_true, Bool.not_eq_true'] at e
      exact e
    refine ⟨lt, ⟨h1, fun c hc => (q c hc).1⟩, ?_, fun c hc => (q c hc).2⟩
    have hl : 0 < z.cps.toList.length := h1
    exact ⟨_, List.getElem_mem hl, asc2 _ (lt _ (List.getElem_mem hl)) (h _ (List.getElem_mem hl))⟩
  · rintro ⟨lt, ⟨h1, al⟩, _, up⟩
    refine ⟨⟨h1, h2⟩, fun c hc => ?_⟩
    have e := asc1 c (lt c hc)
    rw [al c hc, up c hc] at e
    exact of_decide_eq_true e.symm
theorem isWS_long {z : Str} (h2 : ¬ z.length ≤ 8) : isWS z = false := by
  unfold isWS
  simp [h2]
section
variable {P : Program} {w : World} {K : PySem.W.Frag} {mg : Str → Option Value} {base : Heap}
theorem scW : FnScope ["thing"] ["thing"] (defScope sIsWord) := ⟨rfl, rfl, rfl, by decide +kernel, rfl, by decide +kernel, by decide +kernel⟩
theorem ok_isword {f : Addr} {fd : FuncData} (F : Fun K "is_word" "is_word" sIsWord f fd) (T : WT K mg) : FnOk P w K mg base CX0 1 f fd ["thing"] (spIsWord K) := by
  obtain ⟨t2, hN⟩ := T.lw
  refine F.ok scW (fun vs H Q E h => ?_) (fun cdv A outer s H vs Q E hr h => ?_)
  · obtain ⟨x, rfl, _⟩ := h
    rfl
  · obtain ⟨x, rfl, hk, k⟩ := h
    refine ⟨_, pss_cons (ps_if (PW.pt (pw_or (pt_not (pt_val (pe_callB call_isi (by rfl) T.isi (by decide +kernel) (pa_cons (pv 0) (pa_cons (pe_bltn (v := .ty "str") (by rfl) T.str (by decide +kernel) rfl) pa_nil)))))
        (pw_or1 (pt_cmpR op_gt (pe_callB call_len_str (by rfl) T.len PySem.boot_len (pa_cons (pv 0) pa_nil)) (pe_glob (v := .int 8) (by rfl) hN ⟨_, rfl⟩) (by rfl))))) (pss_one (ps_ret pe_bl)) pss_nil)
      (pss_one (ps_ret (pe_andT (pe_m0 PySem.F.slot_str_isascii PySem.F.type_str_isascii mt_isascii (pv 0)) (pe_andT (pe_m0 PySem.F.slot_str_isalpha PySem.F.type_str_isalpha mt_isalpha (pv 0)) (pe_one (pe_m0 PySem.F.slot_str_islower PySem.F.type_str_islower mt_islower (pv 0))))))), ?_⟩
    cases hk with
    | oth ty hb hn =>
      refine ⟨_, rfl, _, _, _, _, false, rfl, .ty "str", ty, hb, false, rfl, ?_⟩
      refine iteT ?_
      rw [hn] at k
      exact k H (Same.refl H)
    | @str z hz =>
      refine ⟨_, rfl, _, _, _, _, true, rfl, .ty "str", .base (.str _), kit_ty (by decide +kernel), true, rfl, ?_⟩
      refine iteF ?_
      refine ⟨_, rfl, _, rfl, hz, _, _, rfl, rfl, _, rfl, ?_⟩
      by_cases h2 : (z.length : Int) ≤ 8
      · refine ifF (by simp; omega) ?_
        have e : isW (.str z) = _ := low_iff z (by omega)
        rw [e] at k
        refine ⟨_, rfl, ⟨_, rfl⟩, z, rfl, rfl, trivial, _, rfl, ?_⟩
        cases ha : Txt.isascii z with
        | false =>
          rw [ha] at k
          exact iteF (k H (Same.refl H))
        | true =>
          rw [ha] at k
          refine iteT ?_
          refine ⟨_, rfl, ⟨_, rfl⟩, z, rfl, rfl, trivial, _, rfl, ?_⟩
          cases hb : Txt.isalpha z with
          | false =>
            rw [hb] at k
            exact iteF (k H (Same.refl H))
          | true =>
            rw [hb] at k
            refine iteT ?_
            exact ⟨_, rfl, ⟨_, rfl⟩, z, rfl, rfl, trivial, k H (Same.refl H)⟩
      · refine ifT (by simp; omega) ?_
        have e : isW (.str z) = false := isWS_long (by omega)
        rw [e] at k
        exact k H (Same.refl H)
end
end Mv
/-! enumerate of a tuple -/
namespace Mv
open PySem PySem.Spec PyProof.Rows L2
section
open AutoSeq1 (wpAny_loadPart')
abbrev tupIt (t : Addr) : Obj := { cls := .type "tuple_iterator", data := .fields #[.ref t, .int 0 0] }
abbrev enumOf (i : Addr) : Obj := { cls := .type "enumerate", data := .fields #[.none, .bool false, .ref i, rawInt 0, .none, .none] }
theorem meets_enumT (t : Addr) (items : Array Value) (n : Nat) (dct : Option Addr) (sl : Array (Option Value)) :
    Meets (Builtin.«enumerate.__new__» ⟨[.type "enumerate", .ref t], []⟩) (fun _ R s => s.heap.get? t = some { cls := .type "tuple", dict := dct, data := .seq items n, slots := sl } ∧
      R (.ok (.ret (.ref (s.heap.push (tupIt t)).objs.size))) { s with heap := (s.heap.push (tupIt t)).push (enumOf s.heap.objs.size) }) :=
  .of_wp fun prog w A R s hh => by
    obtain ⟨hp, g, d, tk, os⟩ := s; obtain ⟨ht, hr⟩ := hh
    have hsub := sub_enumerate
    have hT : Heap.IsTuple (Shared.heap ⟨hp, g, d, tk, os⟩) t items := ⟨_, ht, rfl, n, rfl⟩
    wp_walk using wpAny_loadPart' ht
    refine wpAny_stack_any fun st => wpAny_pure ?_
    split
    · rename_i c _ _ _ _ _
      cases (c == Value.type "enumerate") <;> (wp_walk using wpAny_loadPart' ht, wpAny_pyIter_tuple hT; exact ⟨_, rfl, hr⟩)
    · (wp_walk using wpAny_loadPart' ht, wpAny_pyIter_tuple hT; exact ⟨_, rfl, hr⟩)
variable {prog : Program} {w : World} {A : Around} {E : Value → Shared → Prop} {s : Shared}
theorem call_enumT {t : Addr} {items : Array Value} {Q : Value → Shared → Prop} (hT : s.heap.IsTuple t items)
    (h : ∀ h', IsEnum h' (s.heap.objs.size + 1) s.heap.objs.size 0 .none → h'.IsTupleIter s.heap.objs.size t 0 → (∀ b o, s.heap.get? b = some o → h'.get? b = some o) → Q (.ref (s.heap.objs.size + 1)) { s with heap := h' }) :
    wpAny (model prog w) A (call (.type "enumerate") [.ref t]) Q E s := by
  obtain ⟨⟨c, dct, dt, sl⟩, hl, hc, n, hd⟩ := hT
  obtain rfl : c = .type "tuple" := hc
  obtain rfl : dt = .seq items n := hd
  refine callType_new F.called_enumerate (by decide) (F.typeCall_enumerate_1 _) (F.newCall_enumerate_1 _) (fun obj => F.args_object_init_2 obj _) F.entry_enumerate_new (meets_enumT t items n dct sl) ⟨hl, ?_⟩
  have hz : (s.heap.push (tupIt t)).objs.size = s.heap.objs.size + 1 := Heap.size_push ..
  show _ ∧ _
  rw [hz]
  have he : IsEnum ((s.heap.push (tupIt t)).push (enumOf s.heap.objs.size)) (s.heap.objs.size + 1) s.heap.objs.size 0 .none := by
    have q := Heap.get?_push_size (s.heap.push (tupIt t)) (o := enumOf s.heap.objs.size) rfl
    rw [hz] at q
    exact q
  exact ⟨⟨_, he, rfl⟩, h _ he ⟨_, Heap.get?_push_of_some _ (Heap.get?_push_size _ rfl), rfl, rfl⟩ fun b o x => Heap.get?_push_of_some _ (Heap.get?_push_of_some _ x)⟩
end
/-- a for over it -/
theorem for_enumT {K : PySem.W.Frag} {a : Addr} {xs : List V} {J : It} {g : TG} {tb : TS} {D : Ends} {σ : L2.St} {H : Hp} (hJ : J = ⟨fun i H => ∃ (xs : List V) (x : V), SqT K H a xs ∧ xs[i]? = some x, fun i H v H' => ∃ T x, v = .ref T ∧ H T = none ∧ H' = upd H T (.tup [.int (i : Nat), x]) ∧ ∀ xs, SqT K H a xs → xs[i]? = some x, fun i H => ∃ xs : List V, SqT K H a xs ∧ xs.length = i⟩)
    (Pv : Nat → L2.St → Hp → Prop) (h0 : Pv 0 σ H) (hq : ∀ i σ H, Pv i σ H → SqT K H a xs)
    (hs : ∀ (i : Nat) (x : V) (T : Addr) (σ : L2.St) (H : Hp), xs[i]? = some x → Pv i σ H → H T = none → g (.ref T) σ (upd H T (.tup [.int (i : Nat), x])) fun σ2 H2 => tb { D with nx := Pv (i + 1), ct := Pv (i + 1), bk := D.nx } σ2 H2) (hd : ∀ σ H, Pv xs.length σ H → D.nx σ H) :
    ∃ W : Nat → Nat → L2.St → Hp → Prop, (∃ m, W 0 m σ H) ∧ ∀ i m σ H, W i m σ H →
      (J.stop i H ∧ D.nx σ H) ∨ (J.go i H ∧ ∃ N : L2.St → Hp → Prop, (∀ σ' H', N σ' H' → ∃ m', m' < m ∧ W (i + 1) m' σ' H') ∧ ∀ x H', J.yld i H x H' → g x σ H' fun σ2 H2 => tb { D with nx := N, ct := N, bk := D.nx } σ2 H2) := by
  subst hJ
  refine ⟨fun i m σ H => m = xs.length - i ∧ i ≤ xs.length ∧ Pv i σ H, ⟨xs.length, by simp, Nat.zero_le _, h0⟩, ?_⟩
  rintro i m σ H ⟨rfl, hi, p⟩
  have q := hq i σ H p
  rcases Nat.lt_or_eq_of_le hi with hlt | he
  · refine .inr ⟨⟨xs, xs[i], q, List.getElem?_eq_getElem hlt⟩, Pv (i + 1), fun σ' H' p' => ⟨xs.length - (i + 1), by omega, rfl, hlt, p'⟩, fun x H' y => ?_⟩
    obtain ⟨T, x', rfl, nT, rfl, hx⟩ := y
    exact hs i x' T σ H (hx xs q) p nT
  · subst he
    exact .inl ⟨⟨xs, q, rfl⟩, hd σ H p⟩
/-- the tuple at a, its items in new pairs with their places -/
def ItE (K : PySem.W.Frag) (a : Addr) : It :=
  ⟨fun i H => ∃ (xs : List V) (x : V), SqT K H a xs ∧ xs[i]? = some x, fun i H v H' => ∃ T x, v = .ref T ∧ H T = none ∧ H' = upd H T (.tup [.int (i : Nat), x]) ∧ ∀ xs, SqT K H a xs → xs[i]? = some x, fun i H => ∃ xs : List V, SqT K H a xs ∧ xs.length = i⟩
theorem turn_enumT {P : Program} {w : World} {K : PySem.W.Frag} {elts : List Expr} {kk : Nat} {tpos : Pos} (a e it : Addr) (hae : a ≠ e) (hai : a ≠ it) :
    Turn P w K (.Tuple elts kk tpos) (ItE K a) [e, it] e (fun i h => (∃ old, IsEnum h e it ((i : Nat) : Int) old) ∧ h.IsTupleIter it a i ∧ e ≠ it) where
  mem := by simp
  obj := fun i h st b hb => by
    obtain ⟨⟨old, he⟩, ⟨o, ho, hc, hd⟩, _⟩ := st
    rcases (by simpa using hb : b = e ∨ b = it) with rfl | rfl
    · exact ⟨_, he, fun v q => nomatch q⟩
    · exact ⟨o, ho, fun v q => by rw [hd] at q; cases q⟩
  keep := fun i h h' st k => let ⟨⟨old, he⟩, ⟨o, ho, r⟩, hne⟩ := st; ⟨⟨old, k e (by simp) _ he⟩, ⟨o, k it (by simp) o ho, r⟩, hne⟩
  item := by
    intro X hP hw hK hc i pins s σ H E I hf st hg
    subst hP hw hK
    obtain ⟨⟨old, he⟩, hit, hne⟩ := st
    obtain ⟨xs, x, hq, hx⟩ := hg
    obtain ⟨its, rv, p, hz⟩ := I.tuple hq
    obtain ⟨u, hu, ru⟩ := rv.get hx
    have hel : e < s.heap.objs.size := Heap.lt_size he
    have hil : it < s.heap.objs.size := by obtain ⟨_, q, _⟩ := hit; exact Heap.lt_size q
    have hlt : i < its.toArray.size := by
      have q := (List.getElem?_eq_some_iff.mp hu).1
      simpa using q
    refine wpAny_pyNext_enum_itemD (Draws.tuple (A := X.A.in1) (show X.A.in1.handled = none from I.ok.hd hc) it a hai its.toArray) he ⟨hit, p⟩ hlt hne (by simp [hne, Ne.symm hae]) fun y h' tk hy ho hst hT hsz hk => ?_
    obtain rfl : y = u := by
      have z : its[i]? = some y := by simpa using hy
      rw [hu] at z
      exact (Option.some.inj z).symm
    refine ⟨_, rfl, wpAny_letOwnedTupleGo_enum (s := { s with heap := h', toks := tk + 1 }) ho fun h'' he' sb => ?_⟩
    have hT2 : h''.get? s.heap.objs.size = some { cls := .type "tuple", data := .seq #[.int i tk, y] } := (sb.2 _ (Nat.ne_of_gt hel)).trans hT
    have new : ObjOk X.prog X.w (upd H s.heap.objs.size (.tup [.int (i : Nat), x])) h'' s.heap.objs.size (.tup [.int (i : Nat), x]) :=
      ⟨(by decide : 2 ≤ sizeLine), [.int i tk, y], .cons ⟨_, rfl⟩ (.cons ru .nil), ⟨_, hT2, rfl, _, rfl⟩⟩
    have I1 : Inv X pins σ (upd H s.heap.objs.size (.tup [.int (i : Nat), x])) { s with heap := h'', toks := tk + 1 } :=
      I.turnedNew (ch := [e, it]) (fun b ob hb q => (sb.2 b (fun z => hb (by simp [z]))).trans (hk b ob (fun z => hb (by simp [z])) (fun z => hb (by simp [z])) q)) hf (Nat.le_refl _) new
    obtain ⟨oi, hoi, hri⟩ := hst.1
    refine ⟨.ref s.heap.objs.size, _, I1, rfl, ⟨_, x, rfl, I.hok.fresh (Nat.le_refl _), rfl, fun ys hy => by rw [I.tuple_inj hy hq]; exact hx⟩, ⟨⟨y, ?_⟩, ⟨oi, (sb.2 it (Ne.symm hne)).trans hoi, hri⟩, hne⟩, fun b hb => ?_⟩
    · rw [show ((i + 1 : Nat) : Int) = (i : Int) + 1 by omega]
      exact he'
    · have hb' : b < s.heap.objs.size := by
        rcases (by simpa using hb : b = e ∨ b = it) with z | z
        · rw [z]; exact hel
        · rw [z]; exact hil
      rw [upd_ne (Nat.ne_of_lt hb')]
      exact (hf b hb).1
  done := by
    intro X hP hw hK hc i pins s σ H E I hf st hg
    subst hP hw hK
    obtain ⟨⟨old, he⟩, hit, hne⟩ := st
    obtain ⟨xs, hq, hx⟩ := hg
    obtain ⟨its, rv, p, hz⟩ := I.tuple hq
    obtain ⟨f0, f1, f2, f3, f4, f5⟩ := hf it (by simp)
    have hl := rv.length
    have hi : i = its.toArray.size := by
      rw [List.size_toArray]
      omega
    have hst : s.heap.IsTupleIter it a its.toArray.size ∧ s.heap.IsTuple a its.toArray := ⟨by rw [← hi]; exact hit, p⟩
    exact wpAny_pyNext_enum_endD (Draws.tuple (A := X.A.in1) (show X.A.in1.handled = none from I.ok.hd hc) it a hai its.toArray) he hst fun h' eb => ⟨rfl, I.turned (t' := s.toks) (fun b o hb q => eb b o hb q) f0 f1 f3 f4 f5⟩
  self := fun A i s Q E st h => let ⟨⟨_, he⟩, _⟩ := st; wpAny_pyIter_enum he h
def iEnumT (K : PySem.W.Frag) (ta : TA) : TI := fun σ H R => ta σ H fun vs H1 => ∃ a xs, vs = [.ref a] ∧ SqT K H1 a xs ∧ R (ItE K a) H1
theorem pi_enumT {X : Cx} {e : Expr} {ta : TA} {p pos tpos : Pos} {elts : List Expr} {kk : Nat} (hg : Gl X "enumerate") (hm : X.mg "enumerate" = none) (ha : PA X [e] ta) (hs : starEach [e] X.env = [(false, eval e X.env)] := by rfl) :
    PI X (.Tuple elts kk tpos) (.Call (.Name "enumerate" p) [e] [] pos) (iEnumT X.K ta) := by
  refine ⟨fun pins s σ H R I h => ?_⟩
  refine Call_ (ld_blt I hg hm boot_enumerate (PyProof.Rows.callWith_type1 (thn (ha.run pos pins s σ H _ I h) fun us s1 ⟨vs, H1, I1, r1, a, xs, ex, hq, q⟩ => ?_) hs rfl))
  subst ex
  cases r1 with
  | cons r rr =>
    cases rr
    cases r
    obtain ⟨its, rv, p', hz⟩ := I1.tuple hq
    have hal : a < s1.heap.objs.size := p'.lt
    refine call_enumT p' fun h' he hit hk => wpAny_pyIter_enum he ?_
    have I2 : Inv X pins σ H1 { s1 with heap := h' } := I1.kept (t' := s1.toks) hk
    refine ⟨s1.heap.objs.size + 1, [s1.heap.objs.size + 1, s1.heap.objs.size], _, _, H1, rfl, I2, turn_enumT a (s1.heap.objs.size + 1) s1.heap.objs.size (Nat.ne_of_lt (Nat.lt_succ_of_lt hal)) (Nat.ne_of_lt hal), ⟨⟨.none, he⟩, hit, Nat.succ_ne_self _⟩, fun b hb => ?_, q⟩
    have hle : s1.heap.objs.size ≤ b := by
      rcases (by simpa using hb : b = s1.heap.objs.size + 1 ∨ b = s1.heap.objs.size) with z | z
      · rw [z]
        exact Nat.le_succ _
      · rw [z]
        exact Nat.le_refl _
    exact I1.fpOk hle (I1.hok.fresh hle)
end Mv
/-! sorted of a tuple of texts -/
namespace Mv
open PySem PySem.Spec PyProof.Rows L2
section
variable {prog : Program} {w : World} {A : Around} {E : Value → Shared → Prop} {s : Shared}
theorem sortedT_strs {t : Addr} {vs : List Value} {ss : List Str} {Q : Value → Shared → Prop} (ht : s.heap.IsTuple t vs.toArray) (hS : StrsAre vs ss) (h64 : vs.length < 64)
    (h : ∀ (h' : Heap) (p : Addr) (out : Array Value) (ys : List Str) (ep : Nat), (∀ b o, s.heap.get? b = some o → h'.get? b = some o) → s.heap.get? p = none → h'.get? p = some (seqObj "list" out ep) → StrsAre out.toList ys → ys.Perm ss → sortedS ys = true → Q (.ref p) { s with heap := h' }) :
    wpAny (model prog w) A (call (.builtin "sorted") [.ref t]) Q E s := by
  refine Calls.call_function_entry kind_sorted plain_sorted entry_sorted (args_sorted1 _) ?_
  unfold Builtin.«sorted»
  refine wpAny_bind (m := checkCount "sorted" 1 1 _) (wpAny_pure ?_)
  obtain ⟨ot, ho, hc, n, hd⟩ := ht
  refine wpAny_bind (wpAny_collect_seq t (.inr rfl) ho hc hd (fun h1 k1 => ?_) (by rw [List.size_toArray, sizeLine_eq]; omega))
  have e1 : vs.toArray.toList = vs := by simp
  rw [e1]
  refine wpAny_bind (wpAny_newList ?_)
  have hoL : (h1.push (seqObj "list" vs.toArray 0)).get? h1.objs.size = some (seqObj "list" vs.toArray 0) := Heap.get?_push_size _ rfl
  have hnew : s.heap.get? h1.objs.size = none := by
    cases e : s.heap.get? h1.objs.size with
    | none => rfl
    | some o => exact absurd (Heap.lt_size (k1 _ _ e)) (Nat.lt_irrefl _)
  show wpAny _ _ _ _ _ { s with heap := h1.push (seqObj "list" vs.toArray 0) }
  refine wpAny_bind (wpAny_holding (wpAny_call_entry slot_list_sort ⟨_, hoL, rfl⟩ entry_list_sort (list_sort_treeK strKind_oneLt hoL hS.keysOf (fun v₁ v₂ rest e => keyKind_strs (by rw [← e]; exact hS)) h64 fun st' hp hs => ⟨_, rfl, ?_⟩) (args_list_sort _)))
  obtain ⟨ys, g1, g2, g3⟩ := sorted_out_str hS hp hs
  obtain ⟨ep, hat⟩ := sortedHeap_at (vs := vs) (out := (arrOf st').map (·.2)) hoL
  refine wpAny_pure ⟨_, rfl, h _ _ _ ys ep (fun b o e => ?_) hnew hat g1 g2 g3⟩
  have e2 : h1.get? b = some o := k1 b o e
  have e3 : (h1.push (seqObj "list" vs.toArray 0)).get? b = some o := Heap.get?_push_of_some _ e2
  rw [sortedHeap_old (Nat.ne_of_lt (Heap.lt_size e2)) (Heap.lt_size e3)]
  exact e3
end
/-- sorted(t), t a tuple of texts -/
def rSortedT (K : PySem.W.Frag) : List V → Hp → VK → Prop := fun vs H Q => ∃ (a : Addr) (xs : List Str), vs = [V.ref a] ∧ SqT K H a (xs.map V.str) ∧ xs.length < 64 ∧
  ∀ (ys : List Str) (p : Addr), ys.Perm xs → sortedS ys = true → H p = none → Q (.ref p) (upd H p (.lst (ys.map V.str)))
theorem cr_sortedT {X : Cx} : CallR X (.builtin "sorted") (rSortedT X.K) := by
  intro pins s σ H vs us Q I r h
  obtain ⟨a, xs, rfl, hs, h64, q⟩ := h
  obtain ⟨its, rv, hl, _⟩ := I.tuple hs
  rw [Vals.ref1 r]
  have hlen0 := rv.length
  rw [List.length_map] at hlen0
  refine sortedT_strs hl rv.strs (by rw [← hlen0]; exact h64) fun h' p out ys ep k hnew hat g1 g2 g3 => ?_
  have hn : H p = none := I.hok.gone hnew
  have hlen : (ys.map V.str).length ≤ sizeLine := by rw [List.length_map, g2.length_eq]; exact small64 h64
  exact ⟨.ref p, upd H p (.lst (ys.map V.str)), I.laidN k hnew hn ⟨hlen, out.toList, ep, vals_of_strs g1, by simpa using hat⟩, rfl, q ys p g2 g3 hn⟩
end Mv
namespace Mv
open PySem PySem.Spec PyProof.Rows L2
abbrev sFirst : Stmt := top 20
def badAt (xs : List V) (i : Nat) : Bool := match xs[i]? with
  | some x => !isW x || inV x (xs.take i)
  | none => false
theorem isW_str {x : V} (h : isW x = true) : ∃ z, x = .str z := by
  cases x with
  | str z => exact ⟨z, rfl⟩
  | _ => cases h
theorem good_flat {xs : List V} {i : Nat} (h : ∀ j, j < i → badAt xs j = false) : (xs.take i).all flatV = true := by
  rw [List.all_eq_true]
  intro x hx
  obtain ⟨j, hj⟩ := List.mem_iff_getElem?.mp hx
  rw [List.getElem?_take] at hj
  split at hj
  · rename_i hlt
    have q := h j hlt
    unfold badAt at q
    rw [hj] at q
    cases e : isW x with
    | true =>
      obtain ⟨z, rfl⟩ := isW_str e
      rfl
    | false =>
      simp [e] at q
  · cases hj
theorem sIx_none (n : Nat) : HT.sIx n 0 none = 0 := rfl
theorem sIx_some {n i : Nat} (h : i ≤ n) : HT.sIx n n (some (i : Int)) = i := by
  rw [HT.sIx_nat]
  exact Nat.min_eq_left h
theorem cut_take {xs : List V} {i : Nat} (h : i ≤ xs.length) : cutV xs none (some (i : Int)) = xs.take i := by
  unfold cutV
  rw [sIx_none, sIx_some h]
  rfl
def spFirst (K : PySem.W.Frag) : Sp := fun vs H Q _ => ∃ (a : Addr) (xs : List V), vs = [.ref a] ∧ SqT K H a xs ∧ (∀ x ∈ xs, ∀ H', Same H H' → Kn K H' x) ∧
  (∀ i, i < xs.length → badAt xs i = true → (∀ j, j < i → badAt xs j = false) → ∀ H', Same H H' → Q (.int i) H') ∧ ((∀ j, j < xs.length → badAt xs j = false) → ∀ H', Same H H' → Q .non H')
section
variable {P : Program} {w : World} {K : PySem.W.Frag} {mg : Str → Option Value} {base : Heap}
theorem same_sqT {H H' : Hp} {a : Addr} {xs : List V} (e : Same H H') (h : SqT K H a xs) : SqT K H' a xs := by
  rcases h with h | h
  · rcases h with h | ⟨o, h⟩
    · exact .inl (.inl (e _ _ h))
    · exact .inl (.inr ⟨o, e _ _ h⟩)
  · exact .inr h
theorem scF : FnScope ["words", "index", "word"] ["words"] (defScope sFirst) := ⟨rfl, rfl, rfl, by decide +kernel, rfl, by decide +kernel, by decide +kernel⟩
theorem ok_first {f fW : Addr} {fd fdW : FuncData} (F : Fun K "first_unfit" "first_unfit" sFirst f fd) (T : WT K mg) (en : mg "enumerate" = none) (gW : mg "is_word" = some (.ref fW)) (kW : PySem.W.keepIn K (.ref fW) = true)
    (GW : FnOk P w K mg base CX0 1 fW fdW ["thing"] (spIsWord K)) (bW : Binds K fdW ["thing"] []) : FnOk P w K mg base CX0 2 f fd ["words"] (spFirst K) := by
  refine F.ok scF (fun vs H Q E h => ?_) (fun cdv A outer s H vs Q E hr h => ?_)
  · obtain ⟨a, xs, rfl, _⟩ := h
    rfl
  · obtain ⟨a, xs, rfl, hS, hk, kb, kn⟩ := h
    refine ⟨_, pss_cons (ps_for PassesOwn.never rfl (pi_enumT (by rfl) en (pa_cons (pv 0) pa_nil)) (pg_tup rfl (pgs_cons (pg_name (i := 1) scF.nd rfl (Or.inl rfl)) (pgs_cons (pg_name (i := 2) scF.nd rfl (Or.inl rfl)) pgs_nil)))
        (pss_one (ps_if (PW.pt (pw_or (pt_not (pt_val (pe_call GW hr rfl gW kW bW .nil pass0 (pa_cons (pv 2) pa_nil)))) (pw_or1 (pt_cmpR op_in_seq (pv 2) (pe_slice sl_tup (pv 0) po_none (po_some (pv 1))) (by rfl)))))
          (pss_one (ps_ret (pv 1))) pss_nil))) (pss_one (ps_ret pe_non)), ?_⟩
    refine ⟨_, rfl, a, xs, rfl, hS, for_enumT (K := K) (a := a) (xs := xs) rfl (fun i σ H' => (∃ u v, σ = [some (.ref a), u, v]) ∧ Same H H' ∧ ∀ j, j < i → badAt xs j = false) ?_ ?_ ?_ ?_⟩
    · exact ⟨⟨none, none, rfl⟩, Same.refl H, fun j hj => absurd hj (Nat.not_lt_zero j)⟩
    · rintro i σ H' ⟨_, sm, _⟩
      exact same_sqT sm hS
    · rintro i x Tp σ H1 hx ⟨⟨u, v, rfl⟩, sm, good⟩ nT
      have hi : i < xs.length := (List.getElem?_eq_some_iff.mp hx).1
      have sm1 : Same H (upd H1 Tp (.tup [.int (i : Nat), x])) := sm.trans (same_new nT)
      refine ⟨Tp, _, rfl, .inl (.inl upd_same), rfl, _, _, rfl, ?_⟩
      refine ⟨x, [], rfl, rfl, ?_⟩
      refine ⟨x, rfl, x, rfl, hk x (List.mem_of_getElem? hx) _ sm1, fun H2 s2 => ⟨_, rfl, ?_⟩⟩
      have sm2 : Same H H2 := sm1.trans s2
      cases e : isW x with
      | false =>
        refine iteT ?_
        refine iteT ?_
        refine ⟨_, rfl, kb i hi ?_ good H2 sm2⟩
        unfold badAt
        simp [hx, e]
      | true =>
        refine iteF ?_
        obtain ⟨z, rfl⟩ := isW_str e
        refine ⟨_, rfl, _, rfl, _, rfl, _, rfl, a, xs, rfl, same_sqT sm2 hS, ?_, fun p hp => ?_⟩
        · rw [HT.sIx_nat]
          intro q
          have q2 := q.2
          rw [Nat.min_eq_left (Nat.le_of_lt hi)] at q2
          omega
        · rw [cut_take (Nat.le_of_lt hi)]
          refine ⟨p, _, rfl, .inr (.inl (.inl upd_same)), rfl, good_flat good, _, rfl, ?_⟩
          have sm3 : Same H (upd H2 p (.tup (xs.take i))) := sm2.trans (same_new hp)
          have eb : badAt xs i = inV (.str z) (xs.take i) := by
            unfold badAt
            simp [hx, e]
          cases e2 : inV (.str z) (xs.take i) with
          | true =>
            refine iteT ?_
            exact ⟨_, rfl, kb i hi (eb.trans e2) good _ sm3⟩
          | false =>
            refine iteF ?_
            refine ⟨⟨_, _, rfl⟩, sm3, fun j hj => ?_⟩
            rcases Nat.lt_succ_iff_lt_or_eq.mp hj with q | q
            · exact good j q
            · rw [q, eb, e2]
    · rintro σ H1 ⟨_, sm, good⟩
      exact kn good H1 sm
end
end Mv
namespace Mv
open PySem PySem.Spec PyProof.Rows L2
abbrev sFInit : Stmt := inClass (top 23) 0
abbrev sFTerms : Stmt := inClass (top 23) 1
abbrev sFEq : Stmt := inClass (top 23) 2
abbrev sMembers : Stmt := top 25
abbrev sBound : Stmt := top 26
abbrev sFaulty : Stmt := top 999
abbrev sAt : Stmt := top 27
abbrev sBegun : Stmt := top 999
abbrev sSaid : Stmt := top 999
abbrev sHeard : Stmt := top 999
abbrev sChecked : Stmt := top 29
abbrev sSingle : Stmt := top 30
/-! ### forms -/
theorem upd_nn {H : Hp} {a b : Addr} {o : HO} (h : upd H a o b = none) : b ≠ a ∧ H b = none := by
  by_cases e : b = a
  · rw [e, upd_same] at h
    cases h
  · rw [upd_ne e] at h
    exact ⟨e, h⟩
abbrev Term := List Str
abbrev Prs := List (Term × Int)
def TermAt (K : PySem.W.Frag) (H : Hp) (a : Addr) (t : Term) : Prop := H a = some (.tup (t.map V.str))
def PairAt (K : PySem.W.Frag) (H : Hp) (a : Addr) (p : Term × Int) : Prop := ∃ b, SqT K H a [.ref b, .int p.2] ∧ TermAt K H b p.1
def flds (tp : Addr) (r : Int) : List (Str × V) := putF "rest" (.int r) (putF "_pairs" (.ref tp) [])
theorem kpr : ¬ (("_pairs" : Str) = "rest") := by decide +kernel
theorem flds_pairs (tp : Addr) (r : Int) : (flds tp r).lookup ("_pairs" : Str) = some (.ref tp) := by
  unfold flds
  rw [lookup_putF, if_neg kpr, lookup_putF, if_pos rfl]
theorem flds_rest (tp : Addr) (r : Int) : (flds tp r).lookup ("rest" : Str) = some (.int r) := by
  unfold flds
  rw [lookup_putF, if_pos rfl]
theorem flds_no (tp : Addr) (r : Int) {m : Str} (h1 : ¬ m = "rest") (h2 : ¬ m = "_pairs") : (flds tp r).lookup m = none := by
  unfold flds
  rw [lookup_putF, if_neg h1, lookup_putF, if_neg h2]
  all_goals rfl
/-- a tuple that is known to have no dict of its own -/
def TpN (H : Hp) (a : Addr) (xs : List V) : Prop := ∃ o : Obj, o.dict = none ∧ H a = some (.frz o (.tup xs))
theorem TpN.sq {K : PySem.W.Frag} {H : Hp} {a : Addr} {xs : List V} (h : TpN H a xs) : SqT K H a xs := let ⟨o, _, e⟩ := h; .inl (.inr ⟨o, e⟩)
theorem TpN.same {H H' : Hp} {a : Addr} {xs : List V} (s : Same H H') (h : TpN H a xs) : TpN H' a xs := let ⟨o, d, e⟩ := h; ⟨o, d, s _ _ e⟩
structure FormAt (K : PySem.W.Frag) (C : Addr) (H : Hp) (p : Addr) (ps : Prs) (r : Int) : Prop where
  ob0 : ∃ dx tp as, H p = some (.ins C dx (flds tp r)) ∧ TpN H tp (as.map V.ref) ∧ Paired (PairAt K H) as ps
theorem FormAt.ob {K : PySem.W.Frag} {C : Addr} {H : Hp} {p : Addr} {ps : Prs} {r : Int} (h : FormAt K C H p ps r) : ∃ dx tp as, H p = some (.ins C dx (flds tp r)) ∧ SqT K H tp (as.map V.ref) ∧ Paired (PairAt K H) as ps :=
  let ⟨dx, tp, as, h1, h2, h3⟩ := h.ob0; ⟨dx, tp, as, h1, h2.sq, h3⟩
theorem PairAt.same {K : PySem.W.Frag} {H H' : Hp} {a : Addr} {p : Term × Int} (s : Same H H') (h : PairAt K H a p) : PairAt K H' a p :=
  let ⟨b, h1, h2⟩ := h; ⟨b, same_sqT s h1, s _ _ h2⟩
theorem FormAt.same {K : PySem.W.Frag} {C : Addr} {H H' : Hp} {p : Addr} {ps : Prs} {r : Int} (s : Same H H') (h : FormAt K C H p ps r) : FormAt K C H' p ps r := by
  obtain ⟨dx, tp, as, h1, h2, h3⟩ := h.ob0
  exact ⟨dx, tp, as, s _ _ h1, h2.same s, L2.Paired.mapP h3 fun _ _ q => q.same s⟩
section
variable {X : Cx}
/-- tuple(xs): of a list a new one, of which is known that it has no dict -/
theorem call_tupleF : CallR X (.type "tuple") (fun xs H Q => ∃ p ys, xs = [.ref p] ∧ ((SqL X.K H p ys ∧ ∀ (l : Addr) (o : Obj), o.dict = none → H l = none → Q (.ref l) (upd H l (.frz o (.tup ys)))) ∨ (SqT X.K H p ys ∧ Q (.ref p) H))) := by
  intro pins s σ H xs us Q I r h
  obtain ⟨p, ys, rfl, h⟩ := h
  obtain ⟨u, rfl, rx⟩ := vals1 r
  cases rx
  rcases h with ⟨hq, q⟩ | ⟨hq, q⟩
  · obtain ⟨its, r', pl, hz⟩ := I.list hq
    have hlen := r'.length
    refine call_tuple_list pl.isList (fun h' kp => ?_) (by simp only [List.size_toArray] <;> omega)
    have I1 : Inv X pins σ H { s with heap := h' } := I.kept (t' := s.toks) kp
    have eo : (h'.push { cls := .type "tuple", data := .seq its.toArray }).get? h'.objs.size = some { cls := .type "tuple", data := .seq its.toArray } := Heap.get?_push_size _ rfl
    have I2 : Inv X pins σ (upd H h'.objs.size (.frz { cls := .type "tuple", data := .seq its.toArray } (.tup ys))) { s with heap := h'.push { cls := .type "tuple", data := .seq its.toArray } } :=
      I1.laid (t' := s.toks) (fun b o e => Heap.get?_push_of_some _ e) (Nat.le_refl _) (show ObjOk X.prog X.w _ _ _ (.frz _ (.tup ys)) from ⟨eo, hz, its, r', IsTup.new _ _⟩)
    exact ⟨.ref h'.objs.size, _, I2, rfl, q _ _ rfl (I1.hok.fresh (Nat.le_refl _))⟩
  · obtain ⟨its, r', pl, hz⟩ := I.tuple hq
    exact call_tuple_same pl ⟨.ref p, H, I, rfl, q⟩
end
def spFInit (K : PySem.W.Frag) (C : Addr) : Sp := fun vs H Q _ => ∃ (p dx l : Addr) (xs : List V) (r : Int), vs = [.ref p, .ref l, .int r] ∧ H p = some (.ins C dx []) ∧ SqL K H l xs ∧
  ∀ tp H', H tp = none → tp ≠ p → H' p = some (.ins C dx (flds tp r)) → TpN H' tp xs → (∀ b o, H b = some o → b ≠ p → H' b = some o) → Q .non H'
structure FT (K : PySem.W.Frag) (mg : Str → Option Value) (C : Addr) : Prop where
  cl : Cls K C
  nP : NoAttr K C "_pairs"
  nR : NoAttr K C "rest"
  gF : mg "Form" = some (.ref C)
  tuple : mg "tuple" = none
  list : mg "list" = none
section
variable {P : Program} {w : World} {K : PySem.W.Frag} {mg : Str → Option Value} {base : Heap} {C : Addr}
theorem scFI : FnScope ["self", "pairs", "rest"] ["self", "pairs", "rest"] (defScope sFInit) := ⟨rfl, rfl, rfl, by decide +kernel, rfl, by decide +kernel, by decide +kernel⟩
theorem ok_finit {f : Addr} {fd : FuncData} (F : Fun K "__init__" "Form.__init__" sFInit f fd) (T : FT K mg C) : FnOk P w K mg base CX0 1 f fd ["self", "pairs", "rest"] (spFInit K C) := by
  refine F.ok scFI (fun vs H Q E h => ?_) (fun cdv A outer s H vs Q E hr h => ?_)
  · obtain ⟨p, dx, l, xs, r, rfl, _⟩ := h
    rfl
  · obtain ⟨p, dx, l, xs, r, rfl, hp, hl, k⟩ := h
    refine ⟨_, pss_cons (ps_fld (pv 0) (pe_callTy call_tupleF (by rfl) T.tuple (by decide +kernel) (pa_cons (pv 1) pa_nil)) rfl) (pss_one (ps_fld (pv 0) (pv 2) rfl)), ?_⟩
    refine ⟨_, rfl, l, xs, rfl, .inl ⟨hl, fun tp to hto ht => ?_⟩⟩
    have npt : p ≠ tp := ne_of_none hp ht
    refine ⟨_, rfl, p, C, dx, [], rfl, (by rw [upd_ne npt]; exact hp), T.cl, T.nP, (by show 0 < 1000; decide), _, rfl, _, rfl, p, C, dx, _, rfl, upd_same, T.cl, T.nR, (by show 1 < 1000; decide), ?_⟩
    refine k tp _ ht (Ne.symm npt) upd_same ⟨to, hto, by rw [upd_ne (Ne.symm npt), upd_ne (Ne.symm npt), upd_same]⟩ fun b o e hb => ?_
    rw [upd_ne hb, upd_ne hb, upd_ne (ne_of_none e ht)]
    exact e
/-- Form(tuple, rest): the tuple itself -/
def spFInitT (K : PySem.W.Frag) (C : Addr) : Sp := fun vs H Q _ => ∃ (p dx l : Addr) (xs : List V) (r : Int), vs = [.ref p, .ref l, .int r] ∧ H p = some (.ins C dx []) ∧ SqT K H l xs ∧
  ∀ H', H' p = some (.ins C dx (flds l r)) → (∀ b o, H b = some o → b ≠ p → H' b = some o) → Q .non H'
theorem ok_finitT {f : Addr} {fd : FuncData} (F : Fun K "__init__" "Form.__init__" sFInit f fd) (T : FT K mg C) : FnOk P w K mg base CX0 1 f fd ["self", "pairs", "rest"] (spFInitT K C) := by
  refine F.ok scFI (fun vs H Q E h => ?_) (fun cdv A outer s H vs Q E hr h => ?_)
  · obtain ⟨p, dx, l, xs, r, rfl, _⟩ := h
    rfl
  · obtain ⟨p, dx, l, xs, r, rfl, hp, hl, k⟩ := h
    refine ⟨_, pss_cons (ps_fld (pv 0) (pe_callTy call_tuple_of (by rfl) T.tuple (by decide +kernel) (pa_cons (pv 1) pa_nil)) rfl) (pss_one (ps_fld (pv 0) (pv 2) rfl)), ?_⟩
    refine ⟨_, rfl, l, xs, rfl, .inr ⟨hl, ?_⟩⟩
    refine ⟨_, rfl, p, C, dx, [], rfl, hp, T.cl, T.nP, (by show 0 < 1000; decide), _, rfl, _, rfl, p, C, dx, _, rfl, upd_same, T.cl, T.nR, (by show 1 < 1000; decide), ?_⟩
    refine k _ upd_same fun b o e hb => ?_
    rw [upd_ne hb, upd_ne hb]
    exact e
/-- _single(term) -/
def spSingle (K : PySem.W.Frag) (C : Addr) : Sp := fun vs H Q _ => ∃ (b : Addr) (t : Term), vs = [.ref b] ∧ TermAt K H b t ∧ ∀ p H', Same H H' → H p = none → FormAt K C H' p [(t, 1)] 0 → Q (.ref p) H'
theorem scSg : FnScope ["term"] ["term"] (defScope sSingle) := ⟨rfl, rfl, rfl, by decide +kernel, rfl, by decide +kernel, by decide +kernel⟩
theorem ok_single {f fI : Addr} {fd fdI : FuncData} (F : Fun K "_single" "_single" sSingle f fd) (T : FT K mg C) (M : Mk K C fI) (GI : FnOk P w K mg base CX0 1 fI fdI ["self", "pairs", "rest"] (spFInit K C)) (bI : Binds K fdI ["self", "pairs", "rest"] []) :
    FnOk P w K mg base CX0 3 f fd ["term"] (spSingle K C) := by
  refine F.ok scSg (fun vs H Q E h => ?_) (fun cdv A outer s H vs Q E hr h => ?_)
  · obtain ⟨b, t, rfl, _⟩ := h
    rfl
  · obtain ⟨b, t, rfl, ht, k⟩ := h
    refine ⟨_, pss_one (ps_ret (pe_make M GI hr (by rfl) T.gF bI .nil pass0 (pa_cons (pe_lst (pa_cons (pe_tup (pa_cons (pv 0) (pa_cons pe_int pa_nil))) pa_nil)) (pa_cons pe_int pa_nil)))), ?_⟩
    refine ⟨_, rfl, (by show 2 ≤ sizeLine; decide), fun q hq => ?_⟩
    refine ⟨(by show 1 ≤ sizeLine; decide), fun l hl => ?_⟩
    intro p dx hp hdx hne
    obtain ⟨nlq, nl⟩ := upd_nn hl
    obtain ⟨npl, hp1⟩ := upd_nn hp
    obtain ⟨npq, np⟩ := upd_nn hp1
    have sm0 : Same H (upd H q (.tup [V.ref b, V.int 1])) := same_new hq
    have sm1 : Same H (upd (upd H q (.tup [V.ref b, V.int 1])) l (.lst [V.ref q])) := sm0.trans (same_new hl)
    have ndl : l ≠ dx := fun e => (upd_nn hdx).1 e.symm
    have ndq : q ≠ dx := fun e => (upd_nn (upd_nn hdx).2).1 e.symm
    refine ⟨p, dx, l, [V.ref q], 0, rfl, upd_same, .inl (.inl ?_), fun tp H' htp hne2 h1 h2 h3 => ⟨rfl, ?_⟩⟩
    · rw [upd_ne (Ne.symm npl), upd_ne ndl, upd_same]
    · have keep : ∀ c o, upd (upd H q (.tup [V.ref b, V.int 1])) l (.lst [V.ref q]) c = some o → H' c = some o := fun c o e => by
        have cp : c ≠ p := ne_of_none e hp
        have cd : c ≠ dx := ne_of_none e hdx
        exact h3 c o (by rw [upd_ne cp, upd_ne cd]; exact e) cp
      have sm : Same H H' := fun c o e => keep c o (sm1 c o e)
      refine k p H' sm np ⟨dx, tp, [q], h1, h2, .cons ⟨b, .inl (.inl (keep _ _ ?_)), sm _ _ ht⟩ .nil⟩
      rw [upd_ne (Ne.symm nlq), upd_same]
/-- form.terms() -/
def spTerms (K : PySem.W.Frag) (C : Addr) : Sp := fun vs H Q _ => ∃ (p dx tp : Addr) (r : Int) (xs : List V), vs = [.ref p] ∧ H p = some (.ins C dx (flds tp r)) ∧ SqT K H tp xs ∧ ∀ l, H l = none → Q (.ref l) (upd H l (.lst xs))
theorem scFT : FnScope ["self"] ["self"] (defScope sFTerms) := ⟨rfl, rfl, rfl, by decide +kernel, rfl, by decide +kernel, by decide +kernel⟩
theorem ok_terms {f : Addr} {fd : FuncData} (F : Fun K "terms" "Form.terms" sFTerms f fd) (T : FT K mg C) : FnOk P w K mg base CX0 1 f fd ["self"] (spTerms K C) := by
  refine F.ok scFT (fun vs H Q E h => ?_) (fun cdv A outer s H vs Q E hr h => ?_)
  · obtain ⟨p, dx, tp, r, xs, rfl, _⟩ := h
    rfl
  · obtain ⟨p, dx, tp, r, xs, rfl, hp, ht, k⟩ := h
    exact ⟨_, pss_one (ps_ret (pe_callTy call_list_of (by rfl) T.list (by decide +kernel) (pa_cons (pe_fld (pv 0) rfl) pa_nil))), _, rfl, p, C, dx, _, _, rfl, hp, T.cl, T.nP, flds_pairs _ _, tp, xs, rfl, .inr ht, k⟩
/-- members(), bound(), faulty() -/
def spConst (K : PySem.W.Frag) (C : Addr) (x : Str) : Sp := fun vs H Q _ => vs = [] ∧ ∀ p H', Same H H' → H p = none → FormAt K C H' p [([x], 1)] 0 → Q (.ref p) H'
theorem ok_const {st : Stmt} {nm x : Str} {f fS : Addr} {fd fdS : FuncData} {p1 p2 p3 p4 p5 : Pos} {j k : Nat} (hbody : defBody st = [.Return (some (.Call (.Name "_single" p1) [.Tuple [.Constant (.str x) j p2] k p3] [] p4)) p5]) (sc : FnScope [] [] (defScope st)) (hgl : (defScope st).names.lookup ("_single" : Str) = some .globalImplicit)
    (F : Fun K nm nm st f fd) (gS : mg "_single" = some (.ref fS)) (kS : PySem.W.keepIn K (.ref fS) = true) (GS : FnOk P w K mg base CX0 3 fS fdS ["term"] (spSingle K C)) (bS : Binds K fdS ["term"] []) : FnOk P w K mg base CX0 4 f fd [] (spConst K C x) := by
  refine F.ok sc (fun vs H Q E h => ?_) (fun cdv A outer s H vs Q E hr h => ?_)
  · obtain ⟨rfl, _⟩ := h
    rfl
  · obtain ⟨rfl, k⟩ := h
    rw [hbody]
    refine ⟨_, pss_one (ps_ret (pe_call GS hr hgl gS kS bS .nil pass0 (pa_cons (pe_tup (pa_cons pe_str pa_nil)) pa_nil))), ?_⟩
    refine ⟨(by show 1 ≤ sizeLine; decide), fun q hq => ?_⟩
    refine ⟨q, [x], rfl, upd_same, fun p H' sm hp hf => k p H' ((same_new hq).trans sm) (upd_nn hp).2 hf⟩
end
end Mv
namespace Mv
open PySem PySem.Spec PyProof.Rows L2
/-- _checked_word(thing) -/
def spChecked (K : PySem.W.Frag) (CB : Addr) : Sp := fun vs H Q E => ∃ x, vs = [x] ∧ Kn K H x ∧ (isW x = true → ∀ H', Same H H' → Q x H') ∧ (isW x = false → ∀ H' d, Same H H' → H' d = none → E (.ref CB) (some d) (upd H' d (.xd [(("word" : Str), x)])))
/-- at(place) and its like -/
def spTerm (K : PySem.W.Frag) (C CB : Addr) (nm : Str) : Sp := fun vs H Q E => ∃ x, vs = [x] ∧ Kn K H x ∧ (∀ z, x = .str z → isWS z = true → ∀ p H', Same H H' → H p = none → FormAt K C H' p [([nm, z], 1)] 0 → Q (.ref p) H') ∧
  (isW x = false → ∀ H' d, Same H H' → H' d = none → E (.ref CB) (some d) (upd H' d (.xd [(("word" : Str), x)])))
section
variable {P : Program} {w : World} {K : PySem.W.Frag} {mg : Str → Option Value} {base : Heap} {C CB : Addr}
theorem scCk : FnScope ["thing"] ["thing"] (defScope sChecked) := ⟨rfl, rfl, rfl, by decide +kernel, rfl, by decide +kernel, by decide +kernel⟩
theorem ok_checked {f fW : Addr} {fd fdW : FuncData} (F : Fun K "_checked_word" "_checked_word" sChecked f fd) (T : Err P w K mg base "BadWord" CB "word") (gW : mg "is_word" = some (.ref fW)) (kW : PySem.W.keepIn K (.ref fW) = true)
    (GW : FnOk P w K mg base CX0 1 fW fdW ["thing"] (spIsWord K)) (bW : Binds K fdW ["thing"] []) : FnOk P w K mg base (L2.CX P w) 4 f fd ["thing"] (spChecked K CB) := by
  refine F.okX scCk (fun vs H Q E h => ?_) (fun cdv A outer s H vs Q E hr h => ?_)
  · obtain ⟨x, rfl, _⟩ := h
    rfl
  · obtain ⟨x, rfl, hk, k1, k2⟩ := h
    refine ⟨_, pss_cons (ps_if (pt_not (pt_val (pe_call GW (hr.mono (by decide)) rfl gW kW bW .nil pass0 (pa_cons (pv 0) pa_nil)))) (pss_one (ps_raiseErr rfl T hr (takes_of rfl rfl rfl rfl) rfl (pv 0))) pss_nil) (pss_one (ps_ret (pv 0))), ?_⟩
    refine ⟨_, rfl, x, rfl, hk, fun H1 s1 => ⟨_, rfl, ?_⟩⟩
    cases e : isW x with
    | false =>
      refine iteT ?_
      exact ⟨_, rfl, fun d hd => k2 e H1 d s1 hd⟩
    | true =>
      refine iteF ?_
      exact ⟨_, rfl, k1 e H1 s1⟩
theorem ok_term {st : Stmt} {nm x par : Str} {f fS fC : Addr} {fd fdS fdC : FuncData} {p1 p2 p3 p4 p5 p6 p7 p8 : Pos} {j k : Nat} (hbody : defBody st = [.Return (some (.Call (.Name "_single" p1) [.Tuple [.Constant (.str x) j p2, .Call (.Name "_checked_word" p6) [.Name par p7] [] p8] k p3] [] p4)) p5])
    (sc : FnScope [par] [par] (defScope st)) (hg1 : (defScope st).names.lookup ("_single" : Str) = some .globalImplicit) (hg2 : (defScope st).names.lookup ("_checked_word" : Str) = some .globalImplicit) (hpl : (defScope st).names.lookup par = some .local) (hd1 : (par == ("__debug__" : Str)) = false) (hd2 : (par == ("__classdict__" : Str)) = false)
    (F : Fun K nm nm st f fd) (gS : mg "_single" = some (.ref fS)) (kS : PySem.W.keepIn K (.ref fS) = true) (GS : FnOk P w K mg base CX0 3 fS fdS ["term"] (spSingle K C)) (bS : Binds K fdS ["term"] [])
    (gC : mg "_checked_word" = some (.ref fC)) (kC : PySem.W.keepIn K (.ref fC) = true) (GC : FnOk P w K mg base (L2.CX P w) 4 fC fdC ["thing"] (spChecked K CB)) (bC : Binds K fdC ["thing"] []) : FnOk P w K mg base (L2.CX P w) 5 f fd [par] (spTerm K C CB x) := by
  refine F.okX sc (fun vs H Q E h => ?_) (fun cdv A outer s H vs Q E hr h => ?_)
  · obtain ⟨v, rfl, _⟩ := h
    rfl
  · obtain ⟨v, rfl, hk, k1, k2⟩ := h
    rw [hbody]
    refine ⟨_, pss_one (ps_ret (pe_call GS (hr.mono (by decide)) hg1 gS kS bS .nil pass0 (pa_cons (pe_tup (pa_cons pe_str (pa_cons (pe_call (E := E) GC hr hg2 gC kC bC .nil (passes_call (takes_of rfl rfl rfl rfl) (fun _ _ _ _ q => q)) (pa_cons (pv 0 rfl (.inl hpl) hd1 hd2) pa_nil)) pa_nil))) pa_nil))), ?_⟩
    refine ⟨v, rfl, v, rfl, hk, fun e H1 s1 => ?_, fun e H1 d s1 hd => k2 e H1 d s1 hd⟩
    obtain ⟨z, rfl⟩ := isW_str e
    refine ⟨(by show 2 ≤ sizeLine; decide), fun q hq => ?_⟩
    exact ⟨q, [x, z], rfl, upd_same, fun p H' sm hp hf => k1 z rfl e p H' (s1.trans ((same_new hq).trans sm)) (s1.free (upd_nn hp).2) hf⟩
end
end Mv
namespace Mv
open PySem PySem.Spec PyProof.Rows L2 StX
/-- heard's body, sorts at a -/
def spHeardB (K : PySem.W.Frag) (C CB : Addr) : Sp := fun vs H Q E => ∃ (a : Addr) (xs : List V), vs = [.ref a] ∧ SqT K H a xs ∧ xs.length ≤ 50 ∧ (∀ x ∈ xs, ∀ H', Same H H' → Kn K H' x) ∧
  (xs = [] → ∀ H' d e, Same H H' → H' e = some (.tup []) → H' d = none → E (.ref CB) (some d) (upd H' d (.xd [(("word" : Str), .ref e)]))) ∧
  (∀ i x, xs[i]? = some x → badAt xs i = true → (∀ j, j < i → badAt xs j = false) → ∀ H' d, Same H H' → H' d = none → E (.ref CB) (some d) (upd H' d (.xd [(("word" : Str), x)]))) ∧
  (xs ≠ [] → (∀ j, j < xs.length → badAt xs j = false) → ∃ zs : List Str, xs = zs.map V.str ∧ ∀ ys : List Str, ys.Perm zs → sortedS ys = true → ∀ p H', Same H H' → H p = none → FormAt K C H' p [("heard" :: ys, 1)] 0 → Q (.ref p) H')
/-- heard(*sorts), called with the values xs -/
def spHeard (K : PySem.W.Frag) (C CB : Addr) : Sp := fun xs H Q E => ∀ p, H p = none → spHeardB K C CB [.ref p] (upd H p (.tup xs)) Q E
end Mv
namespace Mv
open PySem PySem.Spec PySem.W PyProof.Rows L2
section
variable {prog : Program} {w : World} {A : Around} {E : Value → Shared → Prop} {s : Shared} {K : Frag} {x C L f : Addr} {h₀ : Heap} {m : Str → Option Value} {ox : Obj} {od : Option Obj} {b tb : Value}
/-- the inherited != by an own == -/
theorem neTree {Q : Fin → Shared → Prop} (hu : A.units < cLine) (X : K.In s.heap) (I : PySem.W.InstAt s.heap x ox C od) (hs : findIn K (.ref C) "__eq__" = some (some (.ref f))) (hf : isFn K (.ref f) = true)
    (hc : wpAny (model prog w) A (call (.ref f) [.ref x, b]) (fun v s' => ∃ k, v = .bool k ∧ Q (.done (.ret (.bool (!k)))) s') E s) :
    wpAny (model prog w) A (Builtin.«object.__ne__» ⟨[.ref x, b], []⟩) Q E s := by
  unfold Builtin.«object.__ne__»
  refine wpAny_bind (wpAny_of_eq (a := (.ref x, [b])) (by first | rfl | kernel_rfl) ?_)
  refine wpAny_bind (wpAny_cRoomFor hu ?_)
  refine wpAny_bind (ifBound_K X I hs hf (wpAny_mono hc (fun r s' hr => ?_) fun _ _ e => e))
  obtain ⟨k, rfl, q⟩ := hr
  exact wpAny_bind (wpAny_truthy_bool (wpAny_pure q))
theorem ifBound_ne {Q : Option Value → Shared → Prop} (X : K.In s.heap) (I : PySem.W.InstAt s.heap x ox C od) (hne : findIn K (.ref C) "__ne__" = some (some (.builtin "object.__ne__")))
    (h : wpAny (model prog w) A (call (.builtin "object.__ne__") [.ref x, b]) (fun v => Q (some v)) E s) : wpAny (model prog w) A (callSpecialIfBound? (.ref x) "__ne__" [b]) Q E s := by
  have hb := PySem.F.slot_enumerate_ne.bind (.ref x)
  simp only [callSpecialIfBound?, bindSpecialIfBound?]
  refine wpAny_holding (wpAny_bind (wpAny_bind (wpAny_bind (I.type.here ((looks_findIn X hne).here (wpAny_bind (wpAny_askSetting (wpAny_ite ?_))))))))
  have fin : wpAny (model prog w) A (call (.builtin "object.__ne__") ([.ref x] ++ [b]) >>= fun v => pure (some v)) Q E s := wpAny_bind (wpAny_mono h (fun v s' q => wpAny_pure q) fun _ _ q => q)
  split
  · exact wpAny_bind (wpAny_of_eq hb (wpAny_pure (by exact fin)))
  · exact wpAny_tryCatch (wpAny_bind (wpAny_of_eq hb (wpAny_pure (by exact fin))))
theorem ne_K {Q : Value → Shared → Prop} (hu : A.units + 1 < cLine) (Fh : Fr h₀ L s.heap m) (X₀ : K.In h₀) (I : PySem.W.InstAt s.heap x ox C od) (hb : Looks (model prog w) s.heap (typeOf b) tb) (hn : notFirst K C tb = true)
    (hne : findIn K (.ref C) "__ne__" = some (some (.builtin "object.__ne__"))) (hob : subIn K (.ref C) (.type "object") = some true) (hs : findIn K (.ref C) "__eq__" = some (some (.ref f))) (hf : isFn K (.ref f) = true)
    (h : wpAny (model prog w) A.in1 (call (.ref f) [.ref x, b]) (fun v s' => ∃ k, v = .bool k ∧ Q (.bool (!k)) s') E s) : wpAny (model prog w) A (compareOp .NotEq (.ref x) b) Q E s := by
  have X := X₀.keeps Fh.keep
  have sub : Looks (model prog w) s.heap (isInstance (.ref x) (.type "object")) true := I.type.andThen (looks_subIn X hob)
  have one : wpAny (model prog w) A (tryCompare (.ref x) "__ne__" b) (fun r s' => ∃ v, r = some v ∧ Q v s') E s := by
    unfold tryCompare
    refine wpAny_bind (ifBound_ne X I hne (wpAny_call (codeAny_call_builtin PySem.F.slot_enumerate_ne.plain F.cmpEntry_ne (PySem.W.check_slot F.cmpKind_ne F.cmpSplit_ne sub (F.cmpArgs_ne _ _) ?_))))
    refine neTree (A := A.in1) hu X I hs hf (wpAny_mono h (fun v s' hv => ?_) fun _ _ e => e)
    obtain ⟨k, rfl, q⟩ := hv
    exact ⟨k, rfl, wpAny_pure ⟨_, rfl, q⟩⟩
  show wpAny (model prog w) A (richCompare .NotEq (.ref x) b) Q E s
  have e1 : (cmpInfo .NotEq).2.1 = "__ne__" := rfl
  unfold richCompare
  simp only [oneThing_ref]
  refine wpAny_holding (wpAny_bind (wpAny_cRoomFor (Nat.lt_of_succ_lt hu) (wpAny_bind (I.type.here (wpAny_bind (hb.here ?_))))))
  split
  · rename_i q
    have e : subIn K tb (.ref C) = some false := by
      rcases Bool.or_eq_true_iff.mp hn with e | e
      · rw [beq_iff_eq.mp e] at q
        simp at q
      · exact beq_iff_eq.mp e
    refine wpAny_bind ((looks_subIn X e).here ?_)
    simp only [Bool.false_eq_true, if_false]
    refine wpAny_bind (wpAny_mono one (fun r s' ⟨v, hr, q⟩ => ?_) fun _ _ e => e)
    subst hr
    exact wpAny_pure q
  · refine wpAny_bind (wpAny_pure ?_)
    simp only [Bool.false_eq_true, if_false]
    refine wpAny_bind (wpAny_mono one (fun r s' ⟨v, hr, q⟩ => ?_) fun _ _ e => e)
    subst hr
    exact wpAny_pure q
end
section
variable {X : Cx} {C f : Addr} {sp : Sp}
/-- an instance of the class at C, by its own == : the def at f, of the promise sp -/
def OwnEqR (K : Frag) (C : Addr) (sp : Sp) (neg : Bool) : R2 := fun x y H Q => ∃ (a dx : Addr) (fs : List (Str × V)) (t : Value), x = .ref a ∧ H a = some (.ins C dx fs) ∧ TyX K H y t ∧ notFirst K C t = true ∧ sp [x, y] H (fun v H' => ∃ k, v = .bl k ∧ Q (.bl (if neg then !k else k)) H') (fun _ _ _ => False)
theorem looks_ty {pins : List (Addr × Obj)} {σ : L2.St} {H : Hp} {s : Shared} {y : V} {u t : Value} (I : Inv X pins σ H s) (ry : RelV y u) (ty : TyX X.K H y t) : Looks (model X.prog X.w) s.heap (typeOf u) t := by
  obtain ⟨Pp, Z, p, -⟩ := kit_of I ry ty
  exact Z.ty _ _ I.kIn p
variable {k : Nat} {fd : FuncData} {ps : List Str}
theorem op_ownEq (G : FnOk X.prog X.w X.K X.mg X.base CX0 k f fd ps sp) (hb : Binds X.K fd ps []) (hr : Room k X.A) (hs : findIn X.K (.ref C) "__eq__" = some (some (.ref f))) (hf : isFn X.K (.ref f) = true) : OpR X (compareOp .Eq) (OwnEqR X.K C sp false) := by
  intro pins s σ H x y v u Q I rx ry h
  obtain ⟨a, dx, fs, t, rfl, ha, ty, hn, q⟩ := h
  cases rx
  obtain ⟨mA, J, _⟩ := ins_get I.hok ha
  obtain ⟨od, J, _⟩ := J.look
  obtain ⟨m, hF⟩ := I.fr
  show wpAny (model X.prog X.w) X.A (richCompare .Eq (.ref a) u) (EP X pins σ Q) X.xe s
  refine cmp_K (op := .Eq) (tb := t) hr.units0 hF I.ok.mod.kin J (looks_ty I ry ty) hn hs hf ?_
  have r2 : Vals [V.ref a, y] [Value.ref a, u] := .cons rfl (.cons ry .nil)
  have q2 : sp ([V.ref a, y] ++ []) H (fun v H' => ∃ k, v = .bl k ∧ Q (.bl k) H') E0 := q
  refine wpAny_mono (run_fn G hr hb .nil pass0 I r2 q2) (fun r s' z => ?_) fun _ _ z => z
  obtain ⟨v', H', I', rv, k', ev, q'⟩ := z
  subst ev
  cases rv
  exact ⟨.bl k', H', I', rfl, q'⟩
theorem op_ownNe (G : FnOk X.prog X.w X.K X.mg X.base CX0 k f fd ps sp) (hb : Binds X.K fd ps []) (hr : Room (k + 1) X.A) (hs : findIn X.K (.ref C) "__eq__" = some (some (.ref f))) (hf : isFn X.K (.ref f) = true)
    (hne : findIn X.K (.ref C) "__ne__" = some (some (.builtin "object.__ne__"))) (hob : subIn X.K (.ref C) (.type "object") = some true) : OpR X (compareOp .NotEq) (OwnEqR X.K C sp true) := by
  intro pins s σ H x y v u Q I rx ry h
  obtain ⟨a, dx, fs, t, rfl, ha, ty, hn, q⟩ := h
  cases rx
  obtain ⟨mA, J, _⟩ := ins_get I.hok ha
  obtain ⟨od, J, _⟩ := J.look
  obtain ⟨m, hF⟩ := I.fr
  refine ne_K (tb := t) (hu_of hr) hF I.ok.mod.kin J (looks_ty I ry ty) hn hne hob hs hf ?_
  have e0 : Env0 X.prog X.w X.K X.mg X.base X.A.in1 X.stack s H := by
    have e := I.env0
    exact ⟨e.frames, e.mod, e.bs, e.bsz, e.funs, e.frf, e.hok, e.bare⟩
  have r2 : Vals [V.ref a, y] [Value.ref a, u] := .cons rfl (.cons ry .nil)
  have hl := G.len _ _ _ _ q
  have hb2 := hb s [.ref a, u] I.kIn (by simpa using hl)
  refine wpAny_call (codeAny_mono (G.run X.A.in1 X.stack s H ⟨[.ref a, u], []⟩ [.ref a, u] [.ref a, y] _ _ hr.in1 e0 (by simpa using hb2) r2 q) fun r s' z => ?_)
  cases r with
  | error e => exact (show False from z).elim
  | ok fl =>
    cases fl with
    | ret v =>
      obtain ⟨v', H', I', rv, k', ev, q'⟩ := I.after z
      subst ev
      cases rv
      exact ⟨k', rfl, .bl (!k'), H', I', rfl, q'⟩
    | next => exact False.elim z
    | brk => exact False.elim z
    | cont => exact False.elim z
end
end Mv
namespace Mv
open PySem PySem.Spec PyProof.Rows L2
/-! ### forms as data -/
def termD (t : Term) : PyData := .tuple (t.map PyData.str)
def pairD (p : Term × Int) : PyData := .tuple [termD p.1, .int p.2]
def pairsD (ps : Prs) : PyData := .tuple (ps.map pairD)
def okT (t : Term) : Prop := ∀ z ∈ t, PyData.strOk z = true
def okP (ps : Prs) : Prop := ∀ p ∈ ps, okT p.1
theorem dp_strs {K : PySem.W.Frag} {H : Hp} : ∀ (t : List Str), DpAll K H (t.map V.str) (t.map PyData.str)
  | [] => .nil
  | z :: t => .cons (.str z) (dp_strs t)
theorem dp_pair {K : PySem.W.Frag} {H : Hp} {a : Addr} {p : Term × Int} (h : PairAt K H a p) : Dp K H (.ref a) (pairD p) := by
  obtain ⟨b, h1, h2⟩ := h
  exact .tup h1 (.cons (.tup (.inl (.inl h2)) (dp_strs p.1)) (.cons (.int p.2) .nil))
theorem dp_pairs {K : PySem.W.Frag} {H : Hp} : ∀ {as : List Addr} {ps : Prs}, Paired (PairAt K H) as ps → DpAll K H (as.map V.ref) (ps.map pairD)
  | _, _, .nil => .nil
  | _, _, .cons h t => .cons (dp_pair h) (dp_pairs t)
theorem lay_strs : ∀ {t : List Str}, okT t → PyData.canLayAll0 (t.map PyData.str) = true
  | [], _ => rfl
  | z :: t, h => by
    show (PyData.canLay0 (.str z) && PyData.canLayAll0 (t.map PyData.str)) = true
    rw [lay_strs fun y hy => h y (List.mem_cons_of_mem _ hy), Bool.and_true]
    exact h z List.mem_cons_self
theorem depth_strs : ∀ (t : List Str), PyData.depthAll (t.map PyData.str) = 0
  | [] => rfl
  | z :: t => by
    show max (PyData.depth (.str z)) (PyData.depthAll (t.map PyData.str)) = 0
    rw [depth_strs t]
    rfl
theorem lay_pairs : ∀ {ps : Prs}, okP ps → PyData.canLayAll0 (ps.map pairD) = true
  | [], _ => rfl
  | p :: ps, h => by
    show (PyData.canLay0 (pairD p) && PyData.canLayAll0 (ps.map pairD)) = true
    rw [lay_pairs fun y hy => h y (List.mem_cons_of_mem _ hy), Bool.and_true]
    show (PyData.canLayAll0 (p.1.map PyData.str) && (true && true)) = true
    rw [lay_strs (h p List.mem_cons_self)]
    rfl
theorem depth_pairs : ∀ (ps : Prs), PyData.depthAll (ps.map pairD) ≤ 2
  | [] => Nat.zero_le _
  | p :: ps => by
    show max (PyData.depth (pairD p)) (PyData.depthAll (ps.map pairD)) ≤ 2
    have e : PyData.depth (pairD p) = 2 := by
      show max (PyData.depthAll (p.1.map PyData.str) + 1) (max 0 0) + 1 = 2
      rw [depth_strs]
      omega
    have h := depth_pairs ps
    omega
theorem shaped_pairs {ps : Prs} (h : okP ps) : SeqAt.shaped (pairsD ps) = true := by
  unfold SeqAt.shaped
  have e1 : (pairsD ps).canLay0 = true := lay_pairs h
  have e2 : (pairsD ps).depth ≤ 64 := by
    show PyData.depthAll (ps.map pairD) + 1 ≤ 64
    have q := depth_pairs ps
    omega
  rw [e1, decide_eq_true e2]
  rfl
theorem eqv_strs : ∀ (t u : List Str), PyData.eqvAll (t.map PyData.str) (u.map PyData.str) = decide (t = u)
  | [], [] => by simp [PyData.eqvAll]
  | [], _ :: _ => by simp [PyData.eqvAll]
  | _ :: _, [] => by simp [PyData.eqvAll]
  | x :: t, y :: u => by
    show ((x == y) && PyData.eqvAll (t.map PyData.str) (u.map PyData.str)) = _
    rw [eqv_strs t u]
    by_cases h1 : x = y <;> by_cases h2 : t = u <;> simp [h1, h2]
theorem eqv_pair (p q : Term × Int) : PyData.eqv (pairD p) (pairD q) = decide (p = q) := by
  show (PyData.eqvAll (p.1.map PyData.str) (q.1.map PyData.str) && ((p.2 == q.2) && true)) = _
  rw [eqv_strs]
  obtain ⟨t, i⟩ := p
  obtain ⟨u, j⟩ := q
  by_cases h1 : t = u <;> by_cases h2 : i = j <;> simp [h1, h2]
theorem eqv_pairs : ∀ (ps qs : Prs), PyData.eqvAll (ps.map pairD) (qs.map pairD) = decide (ps = qs)
  | [], [] => by simp [PyData.eqvAll]
  | [], _ :: _ => by simp [PyData.eqvAll]
  | _ :: _, [] => by simp [PyData.eqvAll]
  | p :: ps, q :: qs => by
    show (PyData.eqv (pairD p) (pairD q) && PyData.eqvAll (ps.map pairD) (qs.map pairD)) = _
    rw [eqv_pairs ps qs, eqv_pair]
    by_cases h1 : p = q <;> by_cases h2 : ps = qs <;> simp [h1, h2]
/-- what isinstance and == ask of the class -/
structure FQ (K : PySem.W.Frag) (mg : Str → Option Value) (C f : Addr) : Prop where
  ca : PySem.W.findIn K (.ref C) "__class__" = some (some (.builtin "object.__class__"))
  cn : PySem.W.specialIn K (.builtin "object.__class__") "__get__" = some (some (.builtin "getset_descriptor.__get__"))
  ct : PySem.W.takesIn K (.builtin "object.__class__") = some true
  cm : PySem.W.mroIn K C (.type "object") = some true
  kit : PySem.W.kitOne K (.ref C) (.ref C) = some true
  isi : mg "isinstance" = none
  eq : PySem.W.findIn K (.ref C) "__eq__" = some (some (.ref f))
  fn : PySem.W.isFn K (.ref f) = true
  ne : PySem.W.findIn K (.ref C) "__ne__" = some (some (.builtin "object.__ne__"))
  ob : PySem.W.subIn K (.ref C) (.type "object") = some true
/-- form == y -/
def spFEq (K : PySem.W.Frag) (C : Addr) : Sp := fun vs H Q _ => ∃ (p : Addr) (y : V) (ps : Prs) (r : Int), vs = [.ref p, y] ∧ FormAt K C H p ps r ∧ okP ps ∧
  ((∃ (q : Addr) (qs : Prs) (r2 : Int), y = .ref q ∧ FormAt K C H q qs r2 ∧ okP qs ∧ Q (.bl (decide (ps = qs) && decide (r = r2))) H) ∨ ∃ t, TyX K H y t ∧ PySem.W.kitOne K t (.ref C) = some false ∧ Q (.bl false) H)
section
variable {P : Program} {w : World} {K : PySem.W.Frag} {mg : Str → Option Value} {base : Heap} {C : Addr}
theorem ty_form {f : Addr} {H : Hp} {p : Addr} {ps : Prs} {r : Int} (T : FT K mg C) (U : FQ K mg C f) (h : FormAt K C H p ps r) : TyX K H (.ref p) (.ref C) := by
  obtain ⟨dx, tp, as, h1, _⟩ := h.ob
  exact .base (.ins h1 T.cl U.ca U.cn U.ct U.cm)
theorem scFE : FnScope ["self", "other"] ["self", "other"] (defScope sFEq) := ⟨rfl, rfl, rfl, by decide +kernel, rfl, by decide +kernel, by decide +kernel⟩
theorem ok_feq {f : Addr} {fd : FuncData} (F : Fun K "__eq__" "Form.__eq__" sFEq f fd) (T : FT K mg C) (U : FQ K mg C f) : FnOk P w K mg base CX0 1 f fd ["self", "other"] (spFEq K C) := by
  refine F.ok scFE (fun vs H Q E h => ?_) (fun cdv A outer s H vs Q E hr h => ?_)
  · obtain ⟨p, y, ps, r, rfl, _⟩ := h
    rfl
  · obtain ⟨p, y, ps, r, rfl, hp, okp, h⟩ := h
    refine ⟨_, pss_one (ps_ret (pe_and (pe_callB call_isi (by rfl) U.isi (by decide +kernel) (pa_cons (pv 1) (pa_cons (pe_glob (v := .ref C) rfl T.gF rfl) pa_nil)))
      (pe_and (pe_cmpR (op_eqD hr.units) (pe_fld (pv 0) rfl) (pe_fld (pv 1) rfl) (nomark _)) (pe_one (pe_cmpR op_eq (pe_fld (pv 0) rfl) (pe_fld (pv 1) rfl) (nomark _)))))), ?_⟩
    rcases h with ⟨q, qs, r2, rfl, hq, okq, k⟩ | ⟨t, ty, ht, k⟩
    · refine ⟨_, rfl, _, _, _, _, true, rfl, .own C, ty_form T U hq, U.kit, true, rfl, ?_⟩
      refine iteT ?_
      obtain ⟨dx, tp, as, h1, h2, h3⟩ := hp.ob
      obtain ⟨dy, tq, bs, g1, g2, g3⟩ := hq.ob
      refine ⟨_, rfl, p, C, dx, _, _, rfl, h1, T.cl, T.nP, flds_pairs _ _, _, rfl, q, C, dy, _, _, rfl, g1, T.cl, T.nP, flds_pairs _ _, pairsD ps, pairsD qs, .tup h2 (dp_pairs h3), .tup g2 (dp_pairs g3), shaped_pairs okp, shaped_pairs okq, _, rfl, ?_⟩
      have e : PyData.eqv (pairsD ps) (pairsD qs) = decide (ps = qs) := eqv_pairs ps qs
      rw [e]
      by_cases hpq : ps = qs
      · refine ifT (decide_eq_true hpq) ?_
        refine ⟨_, rfl, p, C, dx, _, _, rfl, h1, T.cl, T.nR, flds_rest _ _, _, rfl, q, C, dy, _, _, rfl, g1, T.cl, T.nR, flds_rest _ _, rfl, ?_⟩
        rw [decide_eq_true hpq, Bool.true_and] at k
        have e2 : decide (V.int r = V.int r2) = decide (r = r2) := by
          by_cases h : r = r2 <;> simp [h]
        rw [e2]
        exact k
      · refine ifF (decide_eq_false hpq) ?_
        rw [decide_eq_false hpq] at k
        exact k
    · refine ⟨_, rfl, _, _, _, _, false, rfl, .own C, ty, ht, false, rfl, ?_⟩
      exact iteF k
end
end Mv
/-! rows of ints, texts and tuples of texts: their order, sorted of them -/
namespace Mv
open PySem PySem.Spec PyProof.Rows
inductive Cell where
  | int (i : Int)
  | str (z : Str)
  | txs (l : List Str)
abbrev Row := List Cell
def Cell.k1 : Cell → Nat
  | .int _ => 0
  | .str _ => 1
  | .txs _ => 2
def Cell.k2 : Cell → Int
  | .int i => i
  | _ => 0
def Cell.k3 : Cell → List (List Nat)
  | .int _ => []
  | .str z => [z.cps.toList]
  | .txs l => l.map fun z => z.cps.toList
def cmpC : Cell → Cell → Ordering := compareLex (compareOn Cell.k1) (compareLex (compareOn Cell.k2) (compareOn Cell.k3))
def cmpR : Row → Row → Ordering := List.compareLex cmpC
instance : Std.TransCmp cmpC := by unfold cmpC; infer_instance
instance : Std.TransCmp cmpR := by unfold cmpR; infer_instance
def rowLt (r q : Row) : Bool := cmpR r q == .lt
theorem rowLt_swo {α : Type} (k : α → Row) : SrtO.Swo fun x y => rowLt (k x) (k y) := by
  have e : ∀ x y : α, rowLt (k x) (k y) = true ↔ cmpR (k x) (k y) = .lt := fun x y => by
    unfold rowLt
    exact beq_iff_eq
  have n : ∀ x y : α, rowLt (k y) (k x) = false ↔ (cmpR (k x) (k y)).isLE = true := fun x y => by
    have h : cmpR (k y) (k x) = (cmpR (k x) (k y)).swap := Std.OrientedCmp.eq_swap
    unfold rowLt
    rw [h]
    cases cmpR (k x) (k y) <;> decide
  refine ⟨fun x y h => ?_, fun x y z h1 h2 => ?_⟩
  · refine (n x y).mpr ?_
    rw [(e x y).mp h]
    rfl
  · exact (n x z).mpr (Std.TransCmp.isLE_trans ((n x y).mp h1) ((n y z).mp h2))
theorem cps_inj {x y : Str} (h : x.cps.toList = y.cps.toList) : x = y := by
  cases x
  cases y
  simp only [Str.mk.injEq]
  exact Array.ext' h
theorem cps_eq {x y : Str} : x.cps.toList = y.cps.toList ↔ x = y := ⟨cps_inj, fun h => by rw [h]⟩
theorem compare_nats : ∀ (xs ys : List Nat), compare xs ys = .lt ↔ xs < ys
  | [], [] => by simp
  | [], y :: ys => by simp [List.compare_eq_compareLex, List.compareLex_nil_cons]
  | x :: xs, [] => by simp [List.compare_eq_compareLex, List.compareLex_cons_nil]
  | x :: xs, y :: ys => by
    have ih := compare_nats xs ys
    rw [List.compare_eq_compareLex] at ih
    rw [List.compare_eq_compareLex, List.compareLex_cons_cons, List.cons_lt_cons_iff, ← ih]
    rcases Nat.lt_trichotomy x y with h | h | h
    · rw [Nat.compare_eq_lt.mpr h]
      simp [h]
    · subst h
      simp
    · rw [Nat.compare_eq_gt.mpr h]
      simp [Nat.lt_asymm h, Nat.ne_of_gt h]
theorem cmpC_int (i j : Int) : cmpC (.int i) (.int j) = compare i j := by
  show ((compare (0 : Nat) 0).then ((compare i j).then (compare ([] : List (List Nat)) []))) = _
  have e1 : compare (0 : Nat) 0 = .eq := rfl
  have e2 : compare ([] : List (List Nat)) [] = .eq := rfl
  rw [e1, e2]
  cases compare i j <;> rfl
theorem cmpC_str (x y : Str) : cmpC (.str x) (.str y) = compare x.cps.toList y.cps.toList := by
  show ((compare (1 : Nat) 1).then ((compare (0 : Int) 0).then (compare [x.cps.toList] [y.cps.toList]))) = _
  have e1 : compare (1 : Nat) 1 = .eq := rfl
  have e2 : compare (0 : Int) 0 = .eq := rfl
  rw [e1, e2]
  show compare [x.cps.toList] [y.cps.toList] = _
  rw [List.compare_eq_compareLex, List.compareLex_cons_cons, List.compareLex_nil_nil]
  cases compare x.cps.toList y.cps.toList <;> rfl
theorem cmpC_strs (l m : List Str) : cmpC (.txs l) (.txs m) = compare (l.map fun z => z.cps.toList) (m.map fun z => z.cps.toList) := by
  show ((compare (2 : Nat) 2).then ((compare (0 : Int) 0).then (compare (l.map fun z => z.cps.toList) (m.map fun z => z.cps.toList)))) = _
  have e1 : compare (2 : Nat) 2 = .eq := rfl
  have e2 : compare (0 : Int) 0 = .eq := rfl
  rw [e1, e2]
  rfl

/-! ### over the heap -/
section
open PySem.SeqAt
def CellAt (h : Heap) (v : Value) : Cell → Prop
  | .int i => ∃ t, v = .int i t
  | .str z => ∃ t, v = .str z t
  | .txs l => ∃ a its, v = .ref a ∧ h.IsTuple a its ∧ StrsAre its.toList l
def RowAt (h : Heap) (v : Value) (r : Row) : Prop := ∃ a its, v = .ref a ∧ h.IsTuple a its ∧ Paired (CellAt h) its.toList r
theorem isTuple_keep {h h' : Heap} {a : Addr} {its : Array Value} (p : h.IsTuple a its) (k : ∀ b o, h.get? b = some o → o.cls = .type "tuple" → h'.get? b = some o) : h'.IsTuple a its := by
  obtain ⟨o, ho, hc, r⟩ := p
  exact ⟨o, k _ _ ho hc, hc, r⟩
theorem CellAt.keeps {h h' : Heap} {v : Value} {c : Cell} (p : CellAt h v c) (k : ∀ b o, h.get? b = some o → o.cls = .type "tuple" → h'.get? b = some o) : CellAt h' v c := by
  cases c with
  | int i => exact p
  | str z => exact p
  | txs l =>
    obtain ⟨a, its, e, t, q⟩ := p
    exact ⟨a, its, e, isTuple_keep t k, q⟩
theorem RowAt.keeps {h h' : Heap} {v : Value} {r : Row} (p : RowAt h v r) (k : ∀ b o, h.get? b = some o → o.cls = .type "tuple" → h'.get? b = some o) : RowAt h' v r := by
  obtain ⟨a, its, e, t, q⟩ := p
  exact ⟨a, its, e, isTuple_keep t k, L2.Paired.mapP q fun _ _ z => CellAt.keeps z k⟩
theorem strs_at {vs : List Value} {ls : List Str} (h : StrsAre vs ls) : vs.length = ls.length ∧ ∀ (j : Nat) (v : Value), vs[j]? = some v → ∃ z t, ls[j]? = some z ∧ v = .str z t := by
  induction h with
  | nil => exact ⟨rfl, fun j v e => nomatch e⟩
  | cons y t hr ih =>
    refine ⟨by rw [List.length_cons, List.length_cons, ih.1], fun j v e => ?_⟩
    match j, e with
    | 0, e =>
      cases e
      exact ⟨y, t, rfl, rfl⟩
    | j + 1, e => exact ih.2 j v e
theorem isTuple_one {h : Heap} {a : Addr} {its its2 : Array Value} (p : h.IsTuple a its) (q : h.IsTuple a its2) : its = its2 := by
  obtain ⟨o, ho, _, n, hd⟩ := p
  obtain ⟨o2, ho2, _, n2, hd2⟩ := q
  rw [ho] at ho2
  cases ho2
  rw [hd] at hd2
  cases hd2
  rfl
theorem strs_one {vs : List Value} {l m : List Str} (p : StrsAre vs l) (q : StrsAre vs m) : l = m := by
  induction p generalizing m with
  | nil =>
    cases q
    rfl
  | cons y t _ ih =>
    cases q with
    | cons _ _ q => rw [ih q]
theorem all_range' {e : Nat → Bool} : ∀ (l m : List Str) (k : Nat), (∀ (j : Nat) (x y : Str), l[j]? = some x → m[j]? = some y → e (k + j) = decide (x = y)) → ((List.range' k (min l.length m.length)).all e && l.length == m.length) = decide (l = m)
  | [], [], k, _ => rfl
  | [], y :: m, k, _ => rfl
  | x :: l, [], k, _ => rfl
  | x :: l, y :: m, k, h => by
    have ih := all_range' (e := e) l m (k + 1) fun j a b ha hb => by
      have q := h (j + 1) a b ha hb
      rw [← q]
      congr 1
      omega
    have h0 := h 0 x y rfl rfl
    rw [Nat.add_zero] at h0
    have e1 : min (x :: l).length (y :: m).length = min l.length m.length + 1 := by simp only [List.length_cons]; omega
    rw [e1, List.range'_succ, List.all_cons, h0]
    have e2 : ((x :: l).length == (y :: m).length) = (l.length == m.length) := by simp
    rw [e2, Bool.and_assoc, ih]
    by_cases hx : x = y <;> by_cases hl : l = m <;> simp [hx, hl]
theorem first_range' {e r : Nat → Bool} : ∀ (l m : List Str) (k : Nat), (∀ (j : Nat) (x y : Str), l[j]? = some x → m[j]? = some y → e (k + j) = decide (x = y) ∧ r (k + j) = decide (x.cps.toList < y.cps.toList)) →
    firstLt e r (decide (l.length < m.length)) (List.range' k (min l.length m.length)) = (compare (l.map fun z => z.cps.toList) (m.map fun z => z.cps.toList) == .lt)
  | [], [], k, _ => rfl
  | [], y :: m, k, _ => by
    rw [List.compare_eq_compareLex]
    rfl
  | x :: l, [], k, _ => by
    rw [List.compare_eq_compareLex]
    rfl
  | x :: l, y :: m, k, h => by
    have ih := first_range' (e := e) (r := r) l m (k + 1) fun j a b ha hb => by
      have q := h (j + 1) a b ha hb
      have ek : k + (j + 1) = k + 1 + j := by omega
      rw [ek] at q
      exact q
    obtain ⟨h0, h1⟩ := h 0 x y rfl rfl
    rw [Nat.add_zero] at h0 h1
    have e1 : min (x :: l).length (y :: m).length = min l.length m.length + 1 := by simp only [List.length_cons]; omega
    have e2 : decide ((x :: l).length < (y :: m).length) = decide (l.length < m.length) := by simp
    rw [e1, List.range'_succ, e2, List.map_cons, List.map_cons, List.compare_eq_compareLex, List.compareLex_cons_cons, ← List.compare_eq_compareLex]
    by_cases hx : x = y
    · subst hx
      rw [firstLt_yes (h0.trans (decide_eq_true rfl)), ih]
      rw [Std.ReflCmp.compare_self (cmp := (compare : List Nat → List Nat → Ordering))]
      rfl
    · rw [firstLt_no (h0.trans (decide_eq_false hx)), h1]
      have n : compare x.cps.toList y.cps.toList ≠ .eq := fun z => hx (cps_inj (Std.compare_eq_iff_eq.mp z))
      have c := compare_nats x.cps.toList y.cps.toList
      generalize compare x.cps.toList y.cps.toList = o at n c
      cases o with
      | lt => rw [decide_eq_true (c.mp rfl)] <;> rfl
      | eq => exact absurd rfl n
      | gt =>
        rw [decide_eq_false fun z => by cases c.mpr z]
        rfl
section
variable {prog : Program} {w : World} {A : Around} {E : Value → Shared → Prop} {s : Shared}
theorem map_cps_inj {l m : List Str} (h : (l.map fun z => z.cps.toList) = m.map fun z => z.cps.toList) : l = m := by
  induction l generalizing m with
  | nil =>
    cases m with
    | nil => rfl
    | cons _ _ => cases h
  | cons x l ih =>
    cases m with
    | nil => cases h
    | cons y m =>
      rw [List.map_cons, List.map_cons] at h
      rw [cps_inj (List.cons.inj h).1, ih (List.cons.inj h).2]
theorem getE {its : Array Value} {j : Nat} (h : j < its.size) : its.toList[j]? = some its[j] := by
  rw [Array.getElem?_toList]
  exact Array.getElem?_eq_getElem h
/-- == of two cells of one sort -/
theorem eq_cells {v u : Value} {c d : Cell} (hc : CellAt s.heap v c) (hd : CellAt s.heap u d) (hk : c.k1 = d.k1) (hu : A.units < cLine) : EqAt A s v u (cmpC c d == .eq) := by
  cases c with
  | int i =>
    cases d with
    | int j =>
      obtain ⟨t, rfl⟩ := hc
      obtain ⟨t2, rfl⟩ := hd
      have e : (cmpC (.int i) (.int j) == .eq) = (i == j) := by
        rw [cmpC_int]
        by_cases h : i = j
        · subst h
          simp
        · have n : compare i j ≠ .eq := fun z => h (Std.compare_eq_iff_eq.mp z)
          rw [beq_eq_false_iff_ne.mpr n, beq_eq_false_iff_ne.mpr h]
      rw [e]
      exact EqAt.int_int i t j t2
    | str _ => cases hk
    | txs _ => cases hk
  | str x =>
    cases d with
    | str y =>
      obtain ⟨t, rfl⟩ := hc
      obtain ⟨t2, rfl⟩ := hd
      have e : (cmpC (.str x) (.str y) == .eq) = (x == y) := by
        rw [cmpC_str]
        by_cases h : x = y
        · subst h
          simp
        · have n : compare x.cps.toList y.cps.toList ≠ .eq := fun z => h (cps_inj (Std.compare_eq_iff_eq.mp z))
          rw [beq_eq_false_iff_ne.mpr n, beq_eq_false_iff_ne.mpr h]
      rw [e]
      exact EqAt.str_str x t y t2
    | int _ => cases hk
    | txs _ => cases hk
  | txs l =>
    cases d with
    | txs m =>
      obtain ⟨a, its, rfl, ha, sa⟩ := hc
      obtain ⟨b, its2, rfl, hb, sb⟩ := hd
      have e : (cmpC (.txs l) (.txs m) == .eq) = decide (l = m) := by
        rw [cmpC_strs]
        by_cases h : l = m
        · subst h
          simp
        · have n : compare (l.map fun z => z.cps.toList) (m.map fun z => z.cps.toList) ≠ .eq := fun z => h (map_cps_inj (Std.compare_eq_iff_eq.mp z))
          rw [beq_eq_false_iff_ne.mpr n, decide_eq_false h]
      rw [e]
      by_cases hab : a = b
      · subst hab
        have e2 := isTuple_one ha hb
        subst e2
        rw [strs_one sa sb, decide_eq_true rfl]
        exact EqAt.same _
      · obtain ⟨la, pa⟩ := strs_at sa
        obtain ⟨lb, pb⟩ := strs_at sb
        rw [Array.length_toList] at la lb
        have q := RcAt.tuples (A := A) (e := fun j => decide (l[j]? = m[j]?)) ha hb hu fun j h1 h2 => by
          obtain ⟨z, t, e1, e2⟩ := pa j _ (getE h1)
          obtain ⟨z2, t2, e3, e4⟩ := pb j _ (getE h2)
          rw [e2, e4]
          have e5 : decide (l[j]? = m[j]?) = (z == z2) := by
            rw [e1, e3]
            by_cases h : z = z2 <;> simp [h]
          rw [e5]
          exact EqAt.str_str z t z2 t2
        have e6 := all_range' (e := fun j => decide (l[j]? = m[j]?)) l m 0 fun j x y h1 h2 => by
          simp only [Nat.zero_add, h1, h2, Option.some.injEq]
        rw [la, lb, List.range_eq_range', e6] at q
        exact EqAt.of_refs hab q
    | int _ => cases hk
    | str _ => cases hk
/-- < of two cells of one sort -/
theorem lt_cells {v u : Value} {c d : Cell} (hc : CellAt s.heap v c) (hd : CellAt s.heap u d) (hk : c.k1 = d.k1) (hu : A.units < cLine) : RcLt A s v u (cmpC c d == .lt) := by
  cases c with
  | int i =>
    cases d with
    | int j =>
      obtain ⟨t, rfl⟩ := hc
      obtain ⟨t2, rfl⟩ := hd
      have e : (cmpC (.int i) (.int j) == .lt) = decide (i < j) := by
        rw [cmpC_int]
        by_cases h : i < j
        · rw [Int.compare_eq_lt.mpr h, decide_eq_true h]
          rfl
        · have n : compare i j ≠ .lt := fun z => h (Int.compare_eq_lt.mp z)
          rw [beq_eq_false_iff_ne.mpr n, decide_eq_false h]
      rw [e]
      exact fun prog w E Q q => PyProof.Rows.lt_int q
    | str _ => cases hk
    | txs _ => cases hk
  | str x =>
    cases d with
    | str y =>
      obtain ⟨t, rfl⟩ := hc
      obtain ⟨t2, rfl⟩ := hd
      have e : (cmpC (.str x) (.str y) == .lt) = decide (x.cps.toList < y.cps.toList) := by
        rw [cmpC_str]
        by_cases h : x.cps.toList < y.cps.toList
        · rw [(compare_nats _ _).mpr h, decide_eq_true h]
          rfl
        · have n : compare x.cps.toList y.cps.toList ≠ .lt := fun z => h ((compare_nats _ _).mp z)
          rw [beq_eq_false_iff_ne.mpr n, decide_eq_false h]
      rw [e]
      exact fun prog w E Q q => PyProof.Rows.lt_str q
    | int _ => cases hk
    | txs _ => cases hk
  | txs l =>
    cases d with
    | txs m =>
      obtain ⟨a, its, rfl, ha, sa⟩ := hc
      obtain ⟨b, its2, rfl, hb, sb⟩ := hd
      obtain ⟨la, pa⟩ := strs_at sa
      obtain ⟨lb, pb⟩ := strs_at sb
      rw [Array.length_toList] at la lb
      have q := RcLt.tuples (A := A) (e := fun j => decide (l[j]? = m[j]?)) (r := fun j => decide (((l[j]?).getD default).cps.toList < ((m[j]?).getD default).cps.toList)) ha hb hu (fun j h1 h2 => by
          obtain ⟨z, t, e1, e2⟩ := pa j _ (getE h1)
          obtain ⟨z2, t2, e3, e4⟩ := pb j _ (getE h2)
          rw [e2, e4]
          have e5 : decide (l[j]? = m[j]?) = (z == z2) := by
            rw [e1, e3]
            by_cases h : z = z2 <;> simp [h]
          rw [e5]
          exact EqAt.str_str z t z2 t2) (fun j h1 h2 _ => by
          obtain ⟨z, t, e1, e2⟩ := pa j _ (getE h1)
          obtain ⟨z2, t2, e3, e4⟩ := pb j _ (getE h2)
          rw [e2, e4, e1, e3]
          exact fun prog w E Q q => PyProof.Rows.lt_str q)
      have e6 := first_range' (e := fun j => decide (l[j]? = m[j]?)) (r := fun j => decide (((l[j]?).getD default).cps.toList < ((m[j]?).getD default).cps.toList)) l m 0 fun j x y h1 h2 => by
        constructor <;> simp [h1, h2]
      rw [la, lb, List.range_eq_range', e6] at q
      rw [cmpC_strs]
      exact q
    | int _ => cases hk
    | str _ => cases hk
end
end
end Mv
namespace Mv
open PySem PySem.Spec PyProof.Rows
section
open PySem.SeqAt Srt SrtO
variable {prog : Program} {w : World} {A : Around} {E : Value → Shared → Prop} {s : Shared}
theorem cmpR_cons (c d : Cell) (r q : Row) : cmpR (c :: r) (d :: q) = (cmpC c d).then (cmpR r q) := List.compareLex_cons_cons
theorem oneLt_cells {b : Bool} {v u : Value} {c d : Cell} {Q : Bool → Shared → Prop} (hc : CellAt s.heap v c) (hd : CellAt s.heap u d) (hk : c.k1 = d.k1) (hb : b = true → c.k1 = 0) (hu : A.units < cLine) (h : Q (cmpC c d == .lt) s) :
    wpAny (model prog w) A (oneLt' b v u) Q E s := by
  cases b with
  | false => exact PySem.W.kat_one _ _ ((lt_cells hc hd hk hu) prog w E (PySem.W.BoolBack Q) h)
  | true =>
    have h0 := hb rfl
    cases c with
    | int i =>
      cases d with
      | int j =>
        obtain ⟨t, rfl⟩ := hc
        obtain ⟨t2, rfl⟩ := hd
        have e : (cmpC (.int i) (.int j) == .lt) = decide (i < j) := by
          rw [cmpC_int]
          by_cases h : i < j
          · rw [Int.compare_eq_lt.mpr h, decide_eq_true h]
            rfl
          · have n : compare i j ≠ .lt := fun z => h (Int.compare_eq_lt.mp z)
            rw [beq_eq_false_iff_ne.mpr n, decide_eq_false h]
        rw [e] at h
        exact oneLt_int h
      | str _ => cases hk
      | txs _ => cases hk
    | str _ => cases h0
    | txs _ => cases h0
theorem kat_rows {b : Bool} {Q : Bool → Shared → Prop} : ∀ {vs us : List Value} {r q : Row} {i : Nat}, Paired (CellAt s.heap) vs r → Paired (CellAt s.heap) us q → r.map Cell.k1 = q.map Cell.k1 → (b = true → i = 0 → ∃ ks, r.map Cell.k1 = 0 :: ks) → A.units < cLine → Q (rowLt r q) s →
    PySem.W.KatLex prog w A b false Q (vs.zip us) i s
  | _, _, _, _, _, .nil, .nil, _, _, _, h => PySem.W.kat_nil h
  | _, _, c :: r, d :: q, i, .cons hc hr, .cons hd hq, hk, hb, hu, h => by
    have k1 : c.k1 = d.k1 := (List.cons.inj hk).1
    have k2 : r.map Cell.k1 = q.map Cell.k1 := (List.cons.inj hk).2
    have e : rowLt (c :: r) (d :: q) = (if (cmpC c d == .eq) = true then rowLt r q else (cmpC c d == .lt)) := by
      unfold rowLt
      rw [cmpR_cons]
      cases cmpC c d <;> rfl
    rw [e] at h
    refine PySem.W.kat_cons ((eq_cells hc hd k1 hu) prog w _ _ ?_)
    refine PySem.W.kat_go (fun e1 => ?_) (fun e1 => ?_)
    · rw [if_pos e1] at h
      refine PySem.W.kat_yes (kat_rows (i := i + 1) hr hq k2 (fun _ z => by omega) hu h)
    · rw [if_neg (by rw [e1]; decide)] at h
      refine PySem.W.kat_no (oneLt_cells hc hd k1 (fun hb2 => ?_) hu h)
      have hb3 : b = true ∧ (i == 0) = true := by simpa using hb2
      obtain ⟨ks, e3⟩ := hb hb3.1 (by simpa using hb3.2)
      exact (List.cons.inj e3).1
  | _, _, [], _ :: _, _, .nil, .cons _ _, hk, _, _, _ => by cases hk
  | _, _, _ :: _, [], _, .cons _ _, .nil, hk, _, _, _ => by cases hk
theorem pairedLen {α β : Type} {R : α → β → Prop} {as : List α} {bs : List β} (h : Paired R as bs) : as.length = bs.length := by
  induction h with
  | nil => rfl
  | cons _ _ ih => rw [List.length_cons, List.length_cons, ih]
/-- rows of one shape, an int ahead -/
def RowsAt (h : Heap) (vs : List Value) (k : Value → Row) (ks : List Nat) : Prop := ∀ v ∈ vs, RowAt h v (k v) ∧ (k v).map Cell.k1 = 0 :: ks
theorem rows_cmp {vs : List Value} {k : Value → Row} {ks : List Nat} (hp : RowsAt s.heap vs k ks) (hu : A.units < cLine) : Cmp prog w A s (tuples' true) (fun p => p.1 ∈ vs) (lt2 fun v u => rowLt (k v) (k u)) := by
  intro p q hm hm'
  obtain ⟨⟨a, its, e, ⟨o, ho, hc, n, hd⟩, hr⟩, hs⟩ := hp _ hm
  obtain ⟨⟨a', its', e', ⟨o', ho', hc', n', hd'⟩, hr'⟩, hs'⟩ := hp _ hm'
  show wpAny (model prog w) A (keyLt' (tuples' true) p.1 q.1) (fun r s' => s' = s ∧ r = rowLt (k p.1) (k q.1)) (fun _ _ => False) s
  rw [e, e']
  refine PySem.W.kat_lt ho hd ho' hd' ?_
  have hz : decide (its.size < its'.size) = false := by
    have l1 := pairedLen hr
    have l2 := pairedLen hr'
    have l3 := congrArg List.length (hs.trans hs'.symm)
    rw [List.length_map, List.length_map] at l3
    rw [Array.length_toList] at l1 l2
    exact decide_eq_false (by omega)
  rw [hz]
  rw [← e, ← e']
  exact kat_rows hr hr' (hs.trans hs'.symm) (fun _ _ => ⟨ks, hs⟩) hu ⟨rfl, rfl⟩
theorem rows_firsts {h : Heap} {k : Value → Row} {ks : List Nat} : ∀ {vs : List Value}, RowsAt h vs k ks → ∃ fs : List Value, PySem.W.KatTups h vs fs ∧ fs.length = vs.length ∧ ∀ f ∈ fs, ∃ x t, f = Value.int x t
  | [], _ => ⟨[], PySem.W.KatTups.nil, rfl, fun _ hm => by simp at hm⟩
  | v :: vs, hp => by
    obtain ⟨fs, h1, h2, h3⟩ := rows_firsts (vs := vs) fun v' hm => hp v' (List.mem_cons_of_mem _ hm)
    obtain ⟨⟨a, its, e, ⟨o, ho, hc, n, hd⟩, hr⟩, hs⟩ := hp v (List.mem_cons_self ..)
    subst e
    generalize k (.ref a) = r at hr hs
    cases r with
    | nil => cases hs
    | cons c r =>
      have hl : its.toList = its.toList := rfl
      generalize hz : its.toList = l at hr
      cases hr with
      | @cons f _ fr _ hc0 hr =>
        have hk : c.k1 = 0 := (List.cons.inj hs).1
        have h0 : its[0]? = some f := by
          rw [← Array.getElem?_toList, hz]
          rfl
        refine ⟨f :: fs, PySem.W.KatTups.cons ho hc hd h0 h1, by rw [List.length_cons, List.length_cons, h2], fun g hm => ?_⟩
        rcases List.mem_cons.mp hm with rfl | hm
        · cases c with
          | int i =>
            obtain ⟨t, rfl⟩ := hc0
            exact ⟨i, t, rfl⟩
          | str _ => cases hk
          | txs _ => cases hk
        · exact h3 g hm
theorem rows_kind {vs : List Value} {k : Value → Row} {ks : List Nat} (hp : RowsAt s.heap vs k ks) (h0 : 0 < vs.length) {Q : SortKind → Shared → Prop} (hq : Q (tuples' true) s) : wpAny (model prog w) A (keyKind' vs.toArray) Q E s := by
  obtain ⟨fs, h1, h2, h3⟩ := rows_firsts hp
  refine PySem.W.kat_kind (T := .type "int") h1 (by omega) (fun f hm => ?_) (by rfl) ?_
  · obtain ⟨x, t, rfl⟩ := h3 f hm
    exact PySem.W.Looks.now
  · have e : (Value.type "int" != Value.type "tuple") = true := by first | decide +kernel | rfl
    rw [e]
    exact hq
theorem RowsAt.keeps {h h' : Heap} {vs : List Value} {k : Value → Row} {ks : List Nat} (p : RowsAt h vs k ks) (kk : ∀ b o, h.get? b = some o → o.cls = .type "tuple" → h'.get? b = some o) : RowsAt h' vs k ks := fun v hv => ⟨RowAt.keeps (p v hv).1 kk, (p v hv).2⟩
theorem rows_sortable {a : Addr} {vs : List Value} {k : Value → Row} {ks : List Nat} (hp : RowsAt s.heap vs k ks) (h0 : 0 < vs.length) (hu : A.units < cLine) (ha : ∀ o, s.heap.get? a = some o → o.cls ≠ .type "tuple") : SortableO prog w A s a vs fun v u => rowLt (k v) (k u) := by
  intro h' keep
  have hp' : RowsAt h' vs k ks := hp.keeps fun b o e c => keep b o (fun z => by subst z; exact ha o e c) e
  exact ⟨tuples' true, fun Q E hq => rows_kind (s := { s with heap := h' }) hp' h0 hq, rows_cmp (s := { s with heap := h' }) hp' hu⟩
/-- sorted(l), l of such rows -/
theorem sorted_rows {l : Addr} {vs : List Value} {k : Value → Row} {ks : List Nat} {Q : Value → Shared → Prop} (hl : s.heap.IsList l vs.toArray) (hz : vs.length ≤ sizeLine) (hp : RowsAt s.heap vs k ks) (hu : A.in1.in1.units < cLine)
    (h : ∀ (h' : Heap) (d : Addr) (out : List Value), Srtd (fun v u => rowLt (k v) (k u)) out → Stb (fun v u => rowLt (k v) (k u)) out vs → (∀ b o, s.heap.get? b = some o → h'.get? b = some o) → s.heap.objs.size ≤ d → (∃ n, h'.get? d = some (seqObj "list" out.toArray n)) → Q (.ref d) { s with heap := h' }) :
    wpAny (model prog w) A (call (.builtin "sorted") [.ref l]) Q E s := by
  refine sorted_ord (rowLt_swo k) hl hz (fun h2 h₁ a ha kk => ?_) fun out hs hb => ?_
  · refine rows_sortable (s := { s with heap := h₁ }) (ks := ks) (hp.keeps fun b o e _ => (kk b o e).2) (by omega) hu fun o e => ?_
    have e' : some o = some (seqObj "list" vs.toArray 0) := e.symm.trans ha
    cases e'
    intro c
    exact absurd (Value.type.inj c) (by decide)
  · exact h _ _ out hs hb (fun b o e => sortedAll_old e) (Nat.le_succ _) (sortedAll_at s.heap vs out.toArray)
end
end Mv
namespace Mv
open PySem PySem.Spec PyProof.Rows L2
/-- a cell, a row, as values of the layer -/
def CellV (K : PySem.W.Frag) (H : Hp) (x : V) : Cell → Prop
  | .int i => x = .int i
  | .str z => x = .str z
  | .txs l => ∃ a, x = .ref a ∧ SqT K H a (l.map V.str)
def RowV (K : PySem.W.Frag) (H : Hp) (x : V) (r : Row) : Prop := ∃ t cs, x = .ref t ∧ SqT K H t cs ∧ Paired (CellV K H) cs r
theorem CellV.same {K : PySem.W.Frag} {H H' : Hp} {x : V} {c : Cell} (s : Same H H') (h : CellV K H x c) : CellV K H' x c := by
  cases c with
  | int i => exact h
  | str z => exact h
  | txs l =>
    obtain ⟨a, e, q⟩ := h
    exact ⟨a, e, same_sqT s q⟩
theorem RowV.same {K : PySem.W.Frag} {H H' : Hp} {x : V} {r : Row} (s : Same H H') (h : RowV K H x r) : RowV K H' x r := by
  obtain ⟨t, cs, e, q, p⟩ := h
  exact ⟨t, cs, e, same_sqT s q, L2.Paired.mapP p fun _ _ z => CellV.same s z⟩
abbrev ltK (k : V → Row) (x y : V) : Bool := rowLt (k x) (k y)
def rSortedRows (K : PySem.W.Frag) : List V → Hp → VK → Prop := fun vs H Q => ∃ (a : Addr) (xs : List V) (k : V → Row) (ks : List Nat), vs = [V.ref a] ∧ SqL K H a xs ∧ (∀ x ∈ xs, RowV K H x (k x) ∧ (k x).map Cell.k1 = 0 :: ks) ∧
  ∀ ys p, SrtO.Srtd (ltK k) ys → SrtO.Stb (ltK k) ys xs → H p = none → Q (.ref p) (upd H p (.lst ys))
section
variable {X : Cx} {pins : List (Addr × Obj)} {σ : L2.St} {H : Hp} {s : Shared}
theorem cell_at {c : Cell} {x : V} {v : Value} (I : Inv X pins σ H s) (r : RelV x v) (h : CellV X.K H x c) : CellAt s.heap v c := by
  cases c with
  | int i =>
    obtain rfl := h
    exact r
  | str z =>
    obtain rfl := h
    exact r
  | txs l =>
    obtain ⟨a, rfl, q⟩ := h
    cases r
    obtain ⟨its, rv, hl, _⟩ := I.tuple q
    exact ⟨a, _, rfl, hl, rv.strs⟩
theorem row_at {r : Row} {x : V} {v : Value} (I : Inv X pins σ H s) (rr : RelV x v) (h : RowV X.K H x r) : RowAt s.heap v r := by
  obtain ⟨t, cs, rfl, q, p⟩ := h
  cases rr
  obtain ⟨its, rv, hl, hz⟩ := I.tuple q
  refine ⟨t, _, rfl, hl, ?_⟩
  show Paired (CellAt s.heap) its r
  clear hl q hz
  induction rv generalizing r with
  | nil =>
    cases p
    exact .nil
  | cons a _ ih =>
    cases p with
    | cons b c => exact .cons (cell_at I a b) (ih c)
theorem rowV_ref {K : PySem.W.Frag} {H : Hp} {x : V} {r : Row} (h : RowV K H x r) : ∃ t, x = .ref t := let ⟨t, _, e, _⟩ := h; ⟨t, e⟩
theorem cr_sortedRows (hu : X.A.units + 8 < cLine) : CallR X (.builtin "sorted") (rSortedRows X.K) := by
  intro pins s σ H vs us Q I r h
  obtain ⟨a, xs, k, ks, rfl, hs, hx, q⟩ := h
  obtain ⟨its, rv, hl, hz⟩ := I.list hs
  obtain ⟨u, rfl, ru⟩ := vals1 r
  obtain rfl : u = Value.ref a := ru
  obtain ⟨e1, e2⟩ := refs_back rv fun x m => rowV_ref (hx x m).1
  refine sorted_rows (k := fun u => k (backV u)) (ks := ks) hl.isList (by rw [← rv.length]; exact hz) (fun v hv => ?_) (by show X.A.units + 1 + 1 < cLine; omega) fun h' d out h1 h2 kp hd hn => ?_
  · obtain ⟨t, rfl⟩ := e2 v hv
    have hm : V.ref t ∈ xs := by rw [e1]; exact List.mem_map.mpr ⟨_, hv, rfl⟩
    exact ⟨row_at I (show RelV (V.ref t) (Value.ref t) from rfl) (hx _ hm).1, (hx _ hm).2⟩
  · have h3 : ∀ u ∈ out, ∃ a, u = Value.ref a := fun u hu => e2 u (h2.perm.mem_iff.mp hu)
    obtain ⟨n, hn⟩ := hn
    have hb : SrtO.Stb (ltK k) (out.map backV) xs := by
      rw [e1]
      exact SrtO.Stb.map (rowLt_swo k) backV h2
    refine ⟨.ref d, upd H d (.lst (out.map backV)), I.laid (t' := s.toks) kp hd ⟨?_, out, n, vals_back h3, hn⟩, rfl, q _ d (SrtO.srtd_map h1) hb (I.hok.fresh hd)⟩
    rw [hb.len]
    exact hz
end
end Mv
/-! sorted(l, key=f), f an own def whose answers are such rows -/
namespace Mv
open PySem PySem.Spec PyProof.Rows
section
open SrtO
variable {α : Type} {lt lt' : α → α → Bool}
/-- two orders that agree on the items -/
theorem stb_congr (O : Swo lt') {l m : List α} (e : ∀ x ∈ m, ∀ y ∈ m, lt x y = lt' x y) (h : Stb lt l m) : Stb lt' l m := by
  refine ⟨h.perm, fun x => ?_⟩
  have ml : ∀ u, u ∈ l → u ∈ m := fun u hu => h.perm.mem_iff.mp hu
  by_cases ex : ∃ u, u ∈ m ∧ eqv lt' x u = true
  · obtain ⟨u, hu, q⟩ := ex
    have f : ∀ k : List α, (∀ v ∈ k, v ∈ m) → k.filter (eqv lt' x) = k.filter (eqv lt u) := fun k hk => List.filter_congr fun v hv => by
      have e1 : eqv lt' x v = eqv lt' u v := eqv_trans O q
      rw [e1]
      unfold eqv
      rw [e u hu v (hk v hv), e v (hk v hv) u hu]
    rw [f l ml, f m (fun _ z => z), h.cls u]
  · have no : ∀ k : List α, (∀ v ∈ k, v ∈ m) → k.filter (eqv lt' x) = [] := fun k hk => List.filter_eq_nil_iff.mpr fun u hu q => ex ⟨u, hk u hu, q⟩
    rw [no l ml, no m fun _ z => z]
theorem srtd_congr {l : List α} (e : ∀ x ∈ l, ∀ y ∈ l, lt x y = lt' x y) (h : Srtd lt l) : Srtd lt' l :=
  List.Pairwise.imp_of_mem (fun {a b} ha hb z => by rw [← e b hb a ha]; exact z) h
end
end Mv
namespace Mv
open PySem PySem.Spec PyProof.Rows L2
section
variable {X : Cx} {pins : List (Addr × Obj)} {σ : L2.St} {H : Hp} {s : Shared}
/-- an object that stands already, from now on tracked -/
theorem inv_track {a : Addr} {o : HO} (I : Inv X pins σ H s) (hf : FpOk X pins H a) (he : ∃ u, s.heap.get? a = some u) (new : ObjOk X.prog X.w (upd H a o) s.heap a o) : Inv X pins σ (upd H a o) s := by
  obtain ⟨hn, f1, f2, f3, f4, f5⟩ := hf
  obtain ⟨hp, g, d, t, os⟩ := s
  refine I.step (g' := g) (d' := d) (t' := t) (ch := [a]) (h' := hp) (fun b hb => by rw [List.mem_singleton.mp hb]; exact ⟨f3, f1, f4, f5⟩) (fun b o _ _ _ e _ => e) (fun b o _ _ _ e _ => ⟨o.slots, e⟩)
    (fun b o hc e n => ?_) (fun b o _ e => ⟨o, e⟩) (fun b xs e => ?_) (fun b o u e => ?_) (fun b ps e => ⟨#[], ?_⟩) (fun m hm => hm) (fun b u e => ?_) I.bare
  · rw [upd_ne (fun z => hc (by simp [z]))]
    exact n
  · rw [upd_ne (ne_of_none e hn)]
    exact e
  · rw [upd_ne (ne_of_none e hn)]
    exact e
  · rw [upd_ne (ne_of_none e hn), e]
    simp
  · by_cases hb : b = a
    · subst hb
      rw [upd_same] at e
      cases e
      exact new
    · rw [upd_ne hb] at e
      exact (I.hok b u e).stay (fun c v _ q => q) (fun c q => by rw [upd_ne (ne_of_none q hn)]; exact q) fun c xs q => by rw [upd_ne (ne_of_none q hn)]; exact q
/-- the key of one item -/
theorem run_key {k : Nat} {f : Addr} {fd : FuncData} {ps : List Str} {sp : Sp} {x : V} {u : Value} {E : Value → Shared → Prop} {Q : VK} (G : FnOk X.prog X.w X.K X.mg X.base CX0 k f fd ps sp) (hb : Binds X.K fd ps []) (hr : Room (k + 2) X.A) (I : Inv X pins σ H s) (r : RelV x u)
    (h : sp [x] H Q (fun _ _ _ => False)) : wpAny (model X.prog X.w) X.A.in1.in1 (call (.ref f) [u]) (EP X pins σ Q) E s := by
  have e0 : Env0 X.prog X.w X.K X.mg X.base X.A.in1.in1 X.stack s H := by
    have e := I.env0
    exact ⟨e.frames, e.mod, e.bs, e.bsz, e.funs, e.frf, e.hok, e.bare⟩
  have r2 : Vals [x] [u] := .cons r .nil
  have hl := G.len _ _ _ _ h
  have hb2 := hb s [u] I.kIn (by simpa using hl)
  refine wpAny_call (codeAny_mono (G.run X.A.in1.in1 X.stack s H ⟨[u], []⟩ [u] [x] _ _ hr.in1.in1 e0 (by simpa using hb2) r2 h) fun r s' z => ?_)
  cases r with
  | error e => exact (show False from z).elim
  | ok fl =>
    cases fl with
    | ret v => exact I.after z
    | next => exact False.elim z
    | brk => exact False.elim z
    | cont => exact False.elim z
theorem row_one {h : Heap} {v : Value} {r q : Row} (a : RowAt h v r) (b : RowAt h v q) : r = q := by
  obtain ⟨t, its, rfl, ht, p⟩ := a
  obtain ⟨t2, its2, e, ht2, p2⟩ := b
  cases e
  have e2 := isTuple_one ht ht2
  subst e2
  generalize its.toList = l at p p2
  clear ht ht2
  induction p generalizing q with
  | nil =>
    cases p2
    rfl
  | @cons v c l r hc _ ih =>
    cases p2 with
    | @cons _ d _ q hd hq =>
      rw [ih hq]
      congr 1
      cases c with
      | int i =>
        obtain ⟨t, rfl⟩ := hc
        cases d with
        | int j =>
          obtain ⟨t2, e⟩ := hd
          cases e
          rfl
        | str z =>
          obtain ⟨t2, e⟩ := hd
          cases e
        | txs m =>
          obtain ⟨t2, _, e, _⟩ := hd
          cases e
      | str z =>
        obtain ⟨t, rfl⟩ := hc
        cases d with
        | int j =>
          obtain ⟨t2, e⟩ := hd
          cases e
        | str z =>
          obtain ⟨t2, e⟩ := hd
          cases e
          rfl
        | txs m =>
          obtain ⟨t2, _, e, _⟩ := hd
          cases e
      | txs m =>
        obtain ⟨b, its, rfl, h1, h2⟩ := hc
        cases d with
        | int j =>
          obtain ⟨t2, e⟩ := hd
          cases e
        | str z =>
          obtain ⟨t2, e⟩ := hd
          cases e
        | txs n =>
          obtain ⟨b2, its2, e, h3, h4⟩ := hd
          cases e
          have e3 := isTuple_one h1 h3
          subst e3
          rw [strs_one h2 h4]
end
end Mv
namespace Mv
open PySem PySem.Spec PyProof.Rows L2
/-- sorted(l, key=f) -/
def rSortedKeyD (K : PySem.W.Frag) (sp : Sp) (f : Addr) : List V → List V → Hp → VK → Prop := fun vs zs H Q => ∃ (a : Addr) (xs : List V) (kf : V → Row) (ks : List Nat), vs = [V.ref a] ∧ zs = [V.ref f] ∧ SqL K H a xs ∧ (∀ x ∈ xs, ∃ t, x = V.ref t) ∧
  (∀ x ∈ xs, (kf x).map Cell.k1 = 0 :: ks) ∧ (∀ x ∈ xs, ∀ H', Same H H' → ∀ Q' : VK, (∀ z H'', Same H' H'' → RowV K H'' z (kf x) → Q' z H'') → sp [x] H' Q' (fun _ _ _ => False)) ∧
  ∀ ys p H', Same H H' → SrtO.Srtd (ltK kf) ys → SrtO.Stb (ltK kf) ys xs → H' p = none → H p = none → Q (.ref p) (upd H' p (.lst ys))
section
open SrtO Srt
variable {prog : Program} {w : World} {A : Around} {E : Value → Shared → Prop} {s : Shared}
/-- the keys are made: the sort, and the list laid anew -/
theorem key_end {a' kS : Addr} {e1 e : Nat} {keys its : List Value} {kr : Value → Row} {ks : List Nat} {R : PySem.Fin → Shared → Prop} (hoa : s.heap.get? a' = some (seqObj "list" #[] e1)) (hok : s.heap.get? kS = some (seqObj "list" keys.toArray e)) (hne : a' ≠ kS) (hl : keys.length = its.length) (hz : its.length ≤ sizeLine)
    (hrows : RowsAt s.heap keys kr ks) (hu : A.units < cLine)
    (h : ∀ (out : List Keyed) (hF : Heap), Srtd (lt2 fun v u => rowLt (kr v) (kr u)) out → Stb (lt2 fun v u => rowLt (kr v) (kr u)) out (keys.zip its) → (∀ b o, b ≠ a' → b ≠ kS → s.heap.get? b = some o → hF.get? b = some o) →
      (∃ n, hF.get? a' = some (seqObj "list" (out.map fun p => p.2).toArray n)) → R (.done (.ret .none)) { s with heap := hF }) :
    wpAny (model prog w) A (ksk_end a' false its.toArray e1 (.ref kS) keys.toArray) R E s := by
  have ezip : (keys.toArray.zip its.toArray).toList = keys.zip its := by simp
  have O : Swo fun v u : Value => rowLt (kr v) (kr u) := rowLt_swo kr
  have tail : ∀ st' : SortSt, failedOf st' = none → Srtd (lt2 fun v u => rowLt (kr v) (kr u)) (arrOf st').toList → Stb (lt2 fun v u => rowLt (kr v) (kr u)) (arrOf st').toList (keys.zip its) → wpAny (model prog w) A (ksk_tail a' false e1 (.ref kS) st') R E s := by
    intro st' hf hs1 hs2
    unfold ksk_tail
    try dsimp only
    refine wpAny_bind (listUpdate_at hok rfl ?_ (by rw [List.size_toArray]; omega) (Nat.zero_le _))
    refine wpAny_bind (wpAny_letGo ?_)
    have hoa2 : (s.heap.update kS (Obj.mapSeq fun _ => (#[] : Array Value))).get? a' = some (seqObj "list" #[] e1) := by
      rw [Heap.get?_update_ne _ a' kS _ hne]
      exact hoa
    have hsz : ((arrOf st').map (·.2)).size = its.length := by
      have q := hs2.len
      rw [Array.length_toList, List.length_zip, hl, Nat.min_self] at q
      rw [Array.size_map, q]
    refine wpAny_bind (seqEpoch_at hoa2 rfl ?_)
    refine wpAny_bind (listUpdate_at hoa2 rfl ?_ (Nat.zero_le _) (by show ((arrOf st').map (·.2)).size ≤ _; omega))
    rw [hf]
    simp only [bne_self_eq_false, Bool.false_eq_true, if_false]
    refine wpAny_pure (h (arrOf st').toList _ hs1 hs2 (fun b o n1 n2 q => ?_) ?_)
    · rw [Heap.get?_update_ne _ b a' _ n1, Heap.get?_update_ne _ b kS _ n2]
      exact q
    · have e2 : ((arrOf st').toList.map fun p => p.2).toArray = (arrOf st').map (·.2) := by
        rw [← Array.toList_map, Array.toArray_toList]
      have q := get?_update_seq hoa2 fun _ => (arrOf st').map (·.2)
      rw [e2]
      exact ⟨_, q⟩
  unfold ksk_end
  try dsimp only
  simp only [Bool.false_eq_true, if_false]
  have hsz : its.toArray.size = its.length := by simp
  by_cases h2 : its.toArray.size < 2
  · rw [if_pos h2, if_pos h2]
    refine wpAny_bind (wpAny_pure ?_)
    rw [StateT.run_pure]
    refine wpAny_bind (wpAny_pure ?_)
    try dsimp only
    refine tail _ rfl ?_ (by show Stb _ (keys.toArray.zip its.toArray).toList _; rw [ezip]; exact Stb.refl _)
    show Srtd _ (keys.toArray.zip its.toArray).toList
    rw [ezip]
    have hl2 : (keys.zip its).length < 2 := by rw [List.length_zip]; omega
    generalize keys.zip its = l at hl2
    match l, hl2 with
    | [], _ => exact List.Pairwise.nil
    | [v], _ => exact List.pairwise_singleton _ _
    | _ :: _ :: l, h => exact absurd h (by rw [List.length_cons, List.length_cons]; omega)
  · rw [if_neg h2, if_neg h2]
    refine wpAny_bind (rows_kind hrows (by omega) ?_)
    have hall : AllL (fun p : Keyed => p.1 ∈ keys) (keys.toArray.zip its.toArray).toList := fun p hm => by
      rw [ezip] at hm
      exact (List.of_mem_zip hm).1
    refine wpAny_bind (wpAny_mono (wpS_sortO (st0 := SortSt.mk' (tuples' true) (keys.toArray.zip its.toArray) #[] 7 none)
      (Q := fun _ st' => Srtd (lt2 fun v u => rowLt (kr v) (kr u)) (arrOf st').toList ∧ Stb (lt2 fun v u => rowLt (kr v) (kr u)) (arrOf st').toList (keys.toArray.zip its.toArray).toList ∧ failedOf st' = none) (swo2 O) (rows_cmp hrows hu) rfl hall rfl rfl fun st' a1 a2 a3 => ⟨a1, a2, a3⟩) ?_ fun _ _ e => e)
    rintro ⟨⟨⟩, st'⟩ s' ⟨rfl, hp1, hp2, hf⟩
    try dsimp only
    rw [ezip] at hp2
    exact tail st' hf hp1 hp2
end
section
variable {X : Cx}
/-- the keys made so far -/
structure KI (X : Cx) (pins : List (Addr × Obj)) (σ : L2.St) (H : Hp) (a' kS : Addr) (e1 : Nat) (kf : V → Row) (xs : List V) (j : Nat) (s' : Shared) : Prop where
  ex : ∃ (H' : Hp) (keys : List Value) (zs : List V) (e : Nat), Inv X (pins ++ [(a', seqObj "list" #[] e1)]) σ H' s' ∧ FpOk X (pins ++ [(a', seqObj "list" #[] e1)]) H' kS ∧ s'.heap.get? kS = some (seqObj "list" keys.toArray e) ∧ Same H H' ∧ Vals zs keys ∧ keys.length = j ∧
    ∀ (i : Nat) z, zs[i]? = some z → ∃ x, xs[i]? = some x ∧ RowV X.K H' z (kf x)
theorem seq_nocell {c : String} {its : Array Value} {n : Nat} : ∀ v, (seqObj c its n).data ≠ .cell v := fun v z => by
  have z' : Data.seq its n = Data.cell v := z
  cases z'
theorem vals_at {xs : List V} {us : List Value} (r : Vals xs us) : ∀ {i : Nat} {u : Value}, us[i]? = some u → ∃ x, xs[i]? = some x ∧ RelV x u := by
  induction r with
  | nil => exact fun e => nomatch e
  | cons a _ ih =>
    intro i u e
    match i, e with
    | 0, e =>
      cases e
      exact ⟨_, rfl, a⟩
    | i + 1, e => exact ih e
theorem vals_snoc {xs : List V} {us : List Value} {x : V} {u : Value} (r : Vals xs us) (a : RelV x u) : Vals (xs ++ [x]) (us ++ [u]) := by
  induction r with
  | nil => exact .cons a .nil
  | cons b _ ih => exact .cons b ih
theorem cr_sortedKeyD {k : Nat} {f : Addr} {fd : FuncData} {ps : List Str} {sp : Sp} (G : FnOk X.prog X.w X.K X.mg X.base CX0 k f fd ps sp) (hb : Binds X.K fd ps []) (hr : Room (k + 2) X.A) : CallRK X (.builtin "sorted") [Str.ofString "key"] (rSortedKeyD X.K sp f) := by
  intro pins s σ H vs zs us ws Q I r rz h
  obtain ⟨a, xs, kf, ks, rfl, rfl, hs, hrf, hks, hkey, q⟩ := h
  obtain rfl := Vals.ref1 r
  obtain ⟨w1, rfl, ew⟩ := vals1 rz
  obtain rfl : w1 = Value.ref f := ew
  obtain ⟨its, rv, hl, hz⟩ := I.list hs
  have hz : its.length ≤ sizeLine := by rw [← rv.length]; exact hz
  have hlen := rv.length
  refine call_function_entry_kw kind_sorted plain_sorted entry_sorted (ksk_s1 _ _) ?_
  unfold Builtin.«sorted»
  refine wpAny_bind (m := checkCount "sorted" 1 1 _) (wpAny_pure ?_)
  refine wpAny_bind (collect_list hl.isList ?_ hz)
  refine wpAny_bind (wpAny_newList ?_ hz)
  generalize hh1 : (s.heap.push (seqObj "list" #[] 0)).update s.heap.objs.size (Obj.mapSeq (· ++ its.toArray)) = h1
  have hsz : h1.objs.size = s.heap.objs.size + 1 := by rw [← hh1, Heap.size_update, size_push']
  have k1 : ∀ b o, s.heap.get? b = some o → h1.get? b = some o := fun b o q => by
    have hlt : b < s.heap.objs.size := Heap.lt_size q
    rw [← hh1, Heap.get?_update_ne _ _ _ _ (Nat.ne_of_lt hlt)]
    exact Heap.get?_push_of_some _ q
  show wpAny _ _ _ _ _ { s with heap := h1.push (seqObj "list" its.toArray 0) }
  have hoL : (h1.push (seqObj "list" its.toArray 0)).get? h1.objs.size = some (seqObj "list" its.toArray 0) := Heap.get?_push_size _ rfl
  generalize ha' : h1.objs.size = a' at hoL
  refine wpAny_bind (wpAny_holding (wpAny_call_entry_kw slot_list_sort ⟨_, hoL, rfl⟩ entry_list_sort ?_ (ksk_l1 _ _)))
  have kt : Builtin.«list.sort» ⟨[.ref a', .ref f].take 1, [(Str.ofString "key", .ref f)]⟩ = ksk_tree a' (.ref f) false := ksk_t1 f a'
  show wpAny _ _ (Builtin.«list.sort» ⟨[.ref a'], [(Str.ofString "key", .ref f)]⟩) _ _ _
  rw [ksk_t1]
  unfold ksk_tree
  refine wpAny_bind (listItems_at hoL rfl ?_)
  refine wpAny_bind (listUpdate_at hoL rfl ?_ (by rw [List.size_toArray]; exact hz) (Nat.zero_le _))
  generalize hh2 : (h1.push (seqObj "list" its.toArray 0)).update a' (Obj.mapSeq fun _ => (#[] : Array Value)) = h2
  have hsz2 : h2.objs.size = s.heap.objs.size + 2 := by rw [← hh2, Heap.size_update, size_push', hsz]
  obtain ⟨e1, ho1⟩ : ∃ e1, h2.get? a' = some (seqObj "list" #[] e1) := ⟨_, by rw [← hh2]; exact get?_update_seq hoL fun _ => #[]⟩
  have k2 : ∀ b o, s.heap.get? b = some o → h2.get? b = some o := fun b o q => by
    have hlt : b < s.heap.objs.size := Heap.lt_size q
    rw [← hh2, Heap.get?_update_ne _ b a' _ (Nat.ne_of_lt (Nat.lt_of_lt_of_le hlt (by rw [← ha', hsz]; exact Nat.le_succ _)))]
    exact Heap.get?_push_of_some _ (k1 b o q)
  refine wpAny_bind (seqEpoch_at ho1 rfl ?_)
  refine wpAny_bind (wpAny_newTuple ?_ (by show its.length ≤ _; exact hz))
  refine wpAny_bind (wpAny_newList ?_ (Nat.zero_le _))
  refine wpAny_holding ?_
  show wpAny _ _ (ksk_rest a' (.ref f) false its.toArray e1 (.ref (h2.push (seqObj "tuple" its.toArray 0)).objs.size)) _ _ { s with heap := (h2.push (seqObj "tuple" its.toArray 0)).push (seqObj "list" #[] 0) }
  have hkS : (h2.push (seqObj "tuple" its.toArray 0)).objs.size = s.heap.objs.size + 3 := by rw [size_push', hsz2]
  have hoK : ((h2.push (seqObj "tuple" its.toArray 0)).push (seqObj "list" #[] 0)).get? (h2.push (seqObj "tuple" its.toArray 0)).objs.size = some (seqObj "list" #[] 0) := Heap.get?_push_size _ rfl
  generalize hkSe : (h2.push (seqObj "tuple" its.toArray 0)).objs.size = kS at hoK hkS ⊢
  have ho3 : ((h2.push (seqObj "tuple" its.toArray 0)).push (seqObj "list" #[] 0)).get? a' = some (seqObj "list" #[] e1) := Heap.get?_push_of_some _ (Heap.get?_push_of_some _ ho1)
  have k3 : ∀ b o, s.heap.get? b = some o → ((h2.push (seqObj "tuple" its.toArray 0)).push (seqObj "list" #[] 0)).get? b = some o := fun b o q => Heap.get?_push_of_some _ (Heap.get?_push_of_some _ (k2 b o q))
  generalize hh3 : (h2.push (seqObj "tuple" its.toArray 0)).push (seqObj "list" #[] 0) = h3 at hoK ho3 k3 ⊢
  have naK : a' ≠ kS := by omega
  have I3 : Inv X pins σ H { s with heap := h3 } := I.kept (t' := s.toks) k3
  have fa0 : FpOk X pins H a' := I.fpOk (by omega) (I.hok.fresh (by omega))
  have fk0 : FpOk X pins H kS := I.fpOk (by omega) (I.hok.fresh (by omega))
  have I4 : Inv X (pins ++ [(a', seqObj "list" #[] e1)]) σ H { s with heap := h3 } := I3.pins_of fun p hp => by
    rcases List.mem_append.mp hp with hp | hp
    · exact I3.pin p (List.mem_append_right _ hp)
    · rw [List.mem_singleton.mp hp]
      exact ⟨ho3, fa0.1, fa0.2.1, fa0.2.2.1, seq_nocell⟩
  have fk : FpOk X (pins ++ [(a', seqObj "list" #[] e1)]) H kS := by
    obtain ⟨f0, f1, f2, f3, f4, f5⟩ := fk0
    refine ⟨f0, f1, f2, f3, f4, fun p hp => ?_⟩
    rcases List.mem_append.mp hp with z | z
    · exact f5 p (List.mem_append_left _ z)
    · rcases List.mem_append.mp z with z | z
      · exact f5 p (List.mem_append_right _ z)
      · rw [List.mem_singleton.mp z]
        exact naK
  have K0 : KI X pins σ H a' kS e1 kf xs 0 { s with heap := h3 } := ⟨H, [], [], 0, I4, fk, hoK, Same.refl H, .nil, rfl, fun i z e => nomatch e⟩
  unfold ksk_rest
  refine wpAny_bind (wpAny_rule ?_)
  first
    | rw [List.forIn_toArray]
    | (rw [← Array.forIn_toList]; simp only [List.toList_toArray])
  refine wpAny_bind (ksk_fold (KI X pins σ H a' kS e1 kf xs) its 0 _ K0 (fun j u s' hj hK => ?_) (fun s' hK => ?_))
  · rw [Nat.zero_add] at hK ⊢
    obtain ⟨H', keys, zs, e, J, fK, hk, sm, rk, hjl, hrow⟩ := hK
    obtain ⟨x, hx, rx⟩ := vals_at rv hj
    have hxm := List.mem_of_getElem? hx
    have J2 : Inv X ((pins ++ [(a', seqObj "list" #[] e1)]) ++ [(kS, seqObj "list" keys.toArray e)]) σ H' s' := J.pins_of fun p hp => by
      rcases List.mem_append.mp hp with hp | hp
      · exact J.pin p (List.mem_append_right _ hp)
      · rw [List.mem_singleton.mp hp]
        exact ⟨hk, fK.1, fK.2.1, fK.2.2.1, seq_nocell⟩
    refine wpAny_bind (wpAny_attempt (wpAny_mono (run_key G hb hr J2 rx (hkey x hxm H' sm (fun z H'' => Same H' H'' ∧ RowV X.K H'' z (kf x)) fun z H'' s2 r2 => ⟨s2, r2⟩)) (fun ku s'' hku => ?_) fun _ _ z => z))
    obtain ⟨z, H'', J3, rz2, s2, row⟩ := hku
    have hk2 := (J3.pin (kS, seqObj "list" keys.toArray e) (List.mem_append_right _ (List.mem_append_right _ (List.mem_singleton.mpr rfl))))
    have J4 : Inv X (pins ++ [(a', seqObj "list" #[] e1)]) σ H'' s'' := J3.pins_of fun p hp => J3.pin p (List.mem_append_right _ (List.mem_append_left _ hp))
    have fK2 : FpOk X (pins ++ [(a', seqObj "list" #[] e1)]) H'' kS := ⟨hk2.2.1, fK.2⟩
    have ea : keys.toArray.push ku = (keys ++ [ku]).toArray := by simp
    have hjlt : j < its.length := (List.getElem?_eq_some_iff.mp hj).1
    obtain ⟨c2, hc2⟩ : ∃ c2, (s''.heap.update kS (Obj.mapSeq (·.push ku))).get? kS = some (seqObj "list" (keys ++ [ku]).toArray c2) := ⟨_, by rw [← ea]; exact get?_update_seq hk2.1 (·.push ku)⟩
    try dsimp only
    refine wpAny_bind (listUpdate_at hk2.1 rfl ?_ (by rw [List.size_toArray]; omega) (Nat.le_trans (Nat.le_of_eq (Array.size_push ..)) (by rw [List.size_toArray]; omega)))
    refine wpAny_pure ⟨rfl, H'', keys ++ [ku], zs ++ [z], c2, ?_, fK2, hc2, sm.trans s2, vals_snoc rk rz2, by rw [List.length_append, hjl]; rfl, fun i z2 ez => ?_⟩
    · exact J4.turned (t' := s''.toks) (it := kS) (fun b o nb q => by rw [Heap.get?_update_ne _ _ _ _ nb]; exact q) fK2.1 fK2.2.1 fK2.2.2.2.1 fK2.2.2.2.2.1 fK2.2.2.2.2.2
    · rcases Nat.lt_or_ge i zs.length with hi | hi
      · rw [List.getElem?_append_left hi] at ez
        obtain ⟨x2, h1, h2⟩ := hrow i z2 ez
        exact ⟨x2, h1, h2.same s2⟩
      · rw [List.getElem?_append_right hi] at ez
        have hzl := rk.length
        have hi2 : i - zs.length = 0 := by
          have q := (List.getElem?_eq_some_iff.mp ez).1
          rw [List.length_singleton] at q
          omega
        rw [hi2] at ez
        cases ez
        have e2 : i = j := by omega
        rw [e2]
        exact ⟨x, hx, row⟩
  · rw [Nat.zero_add] at hK
    obtain ⟨H', keys, zs, e, J, fK, hk, sm, rk, hjl, hrow⟩ := hK
    try dsimp only
    refine wpAny_bind (listItems_at hk rfl ?_)
    have hzl := rk.length
    -- the rows of the keys
    obtain ⟨kr, hkr⟩ : ∃ kr : Value → Row, ∀ v r, RowAt s'.heap v r → kr v = r := by
      refine ⟨fun v => Classical.epsilon fun r => RowAt s'.heap v r, fun v r h => ?_⟩
      exact row_one (Classical.epsilon_spec (p := fun r => RowAt s'.heap v r) ⟨r, h⟩) h
    have hat : ∀ (i : Nat) (ku u : Value), keys[i]? = some ku → its[i]? = some u → ∃ x, xs[i]? = some x ∧ RelV x u ∧ RowAt s'.heap ku (kf x) := fun i ku u e1 e2 => by
      obtain ⟨z, h1, h2⟩ := vals_at rk e1
      obtain ⟨x, h3, h4⟩ := hrow i z h1
      obtain ⟨x2, h5, h6⟩ := vals_at rv e2
      rw [h3] at h5
      cases h5
      exact ⟨x, h3, h6, row_at J h2 h4⟩
    obtain ⟨er1, er2⟩ := refs_back rv hrf
    have hback : ∀ (x : V) (u : Value), x ∈ xs → RelV x u → backV u = x := fun x u hx rx => by
      obtain ⟨t, rfl⟩ := hrf x hx
      cases rx
      rfl
    have hpair : ∀ p ∈ keys.zip its, RowAt s'.heap p.1 (kf (backV p.2)) ∧ backV p.2 ∈ xs := fun p hp => by
      obtain ⟨i, hi⟩ := List.mem_iff_getElem?.mp hp
      rw [List.getElem?_zip_eq_some] at hi
      obtain ⟨x, h1, h2, h3⟩ := hat i p.1 p.2 hi.1 hi.2
      have hx := List.mem_of_getElem? h1
      rw [hback x p.2 hx h2]
      exact ⟨h3, hx⟩
    have hrows : RowsAt s'.heap keys kr ks := fun ku hku => by
      obtain ⟨i, hi⟩ := List.mem_iff_getElem?.mp hku
      have hlt := (List.getElem?_eq_some_iff.mp hi).1
      obtain ⟨x, h1, h2, h3⟩ := hat i ku its[i] hi (List.getElem?_eq_getElem (by omega))
      rw [hkr _ _ h3]
      exact ⟨h3, hks x (List.mem_of_getElem? h1)⟩
    have fa : FpOk X pins H' a' := by
      have q := J.pin (a', seqObj "list" #[] e1) (List.mem_append_right _ (List.mem_append_right _ (List.mem_singleton.mpr rfl)))
      exact ⟨q.2.1, fa0.2⟩
    have hoa := (J.pin (a', seqObj "list" #[] e1) (List.mem_append_right _ (List.mem_append_right _ (List.mem_singleton.mpr rfl)))).1
    have J5 : Inv X pins σ H' s' := J.pins_of fun p hp => J.pin p (List.mem_append_right _ (List.mem_append_left _ hp))
    have ezip : (keys.toArray.zip its.toArray).toList = keys.zip its := by simp
    refine key_end hoa hk naK (by rw [hjl]) hz hrows (by show X.A.units + 1 + 1 < cLine; have := hr.units; omega) fun out hF hs1 hs2 kk hn => ⟨_, rfl, wpAny_pure ⟨_, rfl, ?_⟩⟩
    have fk5 : FpOk X pins H' kS := ⟨fK.1, fk0.2⟩
    have J6 : Inv X pins σ H' { s' with heap := hF } := J5.turnedL (t' := s'.toks) (ch := [a', kS]) (fun b o hb q => kk b o (fun z => hb (by simp [z])) (fun z => hb (by simp [z])) q) fun b hb => by
      rcases List.mem_cons.mp hb with z | z
      · rw [z]
        exact fa
      · rw [List.mem_singleton.mp z]
        exact fk5
    have mem : ∀ p ∈ out, p ∈ keys.zip its := fun p hp => hs2.perm.mem_iff.mp hp
    have agree : ∀ p ∈ keys.zip its, ∀ p2 ∈ keys.zip its, SrtO.lt2 (fun v u => rowLt (kr v) (kr u)) p p2 = rowLt (kf (backV p.2)) (kf (backV p2.2)) := fun p hp p2 hp2 => by
      show rowLt (kr p.1) (kr p2.1) = _
      rw [hkr _ _ (hpair p hp).1, hkr _ _ (hpair p2 hp2).1]
    have o1 : SrtO.Srtd (fun p p2 : Keyed => rowLt (kf (backV p.2)) (kf (backV p2.2))) out := srtd_congr (fun p hp p2 hp2 => agree p (mem p hp) p2 (mem p2 hp2)) hs1
    have o2 : SrtO.Stb (fun p p2 : Keyed => rowLt (kf (backV p.2)) (kf (backV p2.2))) out (keys.zip its) := stb_congr (rowLt_swo fun p : Keyed => kf (backV p.2)) agree hs2
    have o3 : SrtO.Srtd (ltK kf) (out.map fun p => backV p.2) := SrtO.srtd_map o1
    have ezs : (keys.zip its).map (fun p => backV p.2) = xs := by
      have e3 : (keys.zip its).map (fun p => backV p.2) = ((keys.zip its).map (fun p => p.2)).map backV := by
        rw [List.map_map]
        rfl
      have e4 : (keys.zip its).map (fun p => p.2) = its := List.map_snd_zip (by omega)
      rw [e3, e4, ← er1]
    have o4 : SrtO.Stb (ltK kf) (out.map fun p => backV p.2) xs := by
      have q := SrtO.Stb.map (rowLt_swo kf) (fun p : Keyed => backV p.2) o2
      rw [ezs] at q
      exact q
    obtain ⟨n, hn⟩ := hn
    have href : ∀ u ∈ out.map (fun p : Keyed => p.2), ∃ t, u = Value.ref t := fun u hu => by
      obtain ⟨p, hp, rfl⟩ := List.mem_map.mp hu
      exact er2 _ (List.of_mem_zip (mem p hp)).2
    have hlen2 : (out.map fun p : Keyed => backV p.2).length ≤ sizeLine := by
      rw [o4.len, hlen]
      exact hz
    have eb : (out.map fun p : Keyed => backV p.2) = (out.map fun p : Keyed => p.2).map backV := by rw [List.map_map] <;> rfl
    have J7 : Inv X pins σ (upd H' a' (.lst (out.map fun p => backV p.2))) { s' with heap := hF } := inv_track J6 fa ⟨_, hn⟩ ⟨hlen2, _, n, by rw [eb]; exact vals_back href, hn⟩
    exact ⟨.ref a', _, J7, rfl, q _ a' H' sm o3 o4 fa.1 fa0.1⟩
end
end Mv
/-! dict comprehensions whose keys are tuples -/
namespace Mv
open PySem PySem.Spec PyProof.Rows L2
section
variable {X : Cx} {pins : List (Addr × Obj)} {σ : L2.St} {H : Hp} {s : Shared}
/-- the dict at D gets one more entry, its key the tuple at b -/
theorem dt_dictSet {E : Value → Shared → Prop} {D b : Addr} {kvs : List (List Key × V)} {k : List Key} {v : V} {u r : Value} {Q : Unit → Shared → Prop} (hu : X.A.units + 1 < cLine) (I : Inv X pins σ H s) (hD : H D = some (.dT kvs)) (hb : H b = some (.tup (k.map kV))) (hz : kvs.length < sizeLine) (ru : RelV (.ref b) u) (rv : RelV v r)
    (h : ∀ s', Inv X pins σ (upd H D (.dT (putK kvs k v))) s' → Q () s') : wpAny (model X.prog X.w) X.A (dictSet D u r) Q E s := by
  cases ru
  obtain ⟨hle, hsys, xs, rel, dd⟩ := dt_of I.hok hD
  have hxs : xs.length ≤ sizeLine := by rw [← Paired.length rel]; exact hle
  have hnew : (putK kvs k v).length ≤ sizeLine := by have := length_putK kvs k v; omega
  refine wpAny_dictSet_heap (hsz := hxs) (show X.A.units < cLine by omega) (key_of I.hok hb) dd fun h' dd' hs => h _ ?_
  obtain ⟨q, es, ep, hq, h2, h3, h4, _, h5⟩ := dd'
  refine d_write I (by rw [hD]; exact True.intro) hs ⟨q, hq⟩ ⟨hnew, hsys, _, (rel.put k hb rv).keeps fun c ys ec => ?_, q, es, ep, hq, h2, h3, h4, h5⟩
  rw [upd_ne (ne_of ec hD (fun z => nomatch z))]
  exact ec
end

section
variable {X : Cx}
/-- {k: v for target in iter if ..}, k a tuple: D the new dict -/
def tDcT (wi : TI) (g : TG) (tt : TT) (tk tv : TE) (vs : List Nat) : TE := fun σ H Q => wi σ H fun J H1 => ∀ D, H1 D = none → ∃ W : Nat → Nat → Hp → Prop, (∃ m, W 0 m (upd H1 D (.dT []))) ∧ ∀ i m H, W i m H →
  (J.stop i H ∧ Q (.ref D) H) ∨ (J.go i H ∧ ∃ Nx : Hp → Prop, (∀ H', Nx H' → ∃ m', m' < m ∧ W (i + 1) m' H') ∧ ∀ x H', J.yld i H x H' → g x (wipe σ vs) H' fun σ2 H2 => wipe σ2 vs = wipe σ vs ∧ tt σ2 H2 fun b H3 =>
    if b = true then tk σ2 H3 fun y H4 => tv σ2 H4 fun z H5 => ∃ a kvs k, y = .ref a ∧ H5 D = some (.dT kvs) ∧ H5 a = some (.tup (k.map kV)) ∧ kvs.length < sizeLine ∧ Nx (upd H5 D (.dT (putK kvs k z))) else Nx H3)
variable {kx vx tg iter : Expr} {ifs : List Expr} {scope : Scope} {own : List (Str × Nat)} {pos : Pos} {wi : TI} {g : TG} {tt : TT} {tk tv : TE}
/-- the turns of such a block: Y is where they are walked -/
theorem dcT_turns {Y : Cx} {A : Around} {vs : List Nat} {σ : L2.St} {J : It} {itA D : Addr} {fp : List Addr} {tn : Nat → Heap → Prop} {W : Nat → Nat → Hp → Prop} {QD : Hp → Prop} {R : Result → Shared → Prop} {s4 : Shared} {H4 : Hp} {m0 : Nat} (hA : Y.A = A) (hcalm : Y.calm = true) (hpn : Y.pn = []) (hu : A.units + 1 < cLine)
    (T : Turn Y.prog Y.w Y.K tg J fp itA tn) (hex : Y.ex = fp) (fr : ∀ b ∈ fp, b ≠ Y.env.locals ∧ b ∉ Y.fs ∧ ∀ x c, Y.env.cells.lookup x = some c → c ≠ b) (pg : PG Y tg g) (pt : PTs Y ifs tt) (pk : PE Y kx tk) (pe : PE Y vx tv)
    (turn : ∀ i m H, W i m H → (J.stop i H ∧ QD H) ∨ (J.go i H ∧ ∃ Nx : Hp → Prop, (∀ H', Nx H' → ∃ m', m' < m ∧ W (i + 1) m' H') ∧ ∀ x H', J.yld i H x H' → g x (wipe σ vs) H' fun σ2 H2 => wipe σ2 vs = wipe σ vs ∧ tt σ2 H2 fun b H3 =>
      if b = true then tk σ2 H3 fun y H4 => tv σ2 H4 fun z H5 => ∃ a kvs k, y = .ref a ∧ H5 D = some (.dT kvs) ∧ H5 a = some (.tup (k.map kV)) ∧ kvs.length < sizeLine ∧ Nx (upd H5 D (.dT (putK kvs k z))) else Nx H3))
    (I4 : Inv Y [] (wipe σ vs) H4 s4) (st4 : tn 0 s4.heap) (n4 : ∀ b ∈ fp, H4 b = none) (w4 : W 0 m0 H4)
    (done : ∀ s' H', Inv Y [] (wipe σ vs) H' s' → QD H' → R (.ok .next) s') (hxe : ∀ e s', Y.xe e s' → False) :
    codeAny (model Y.prog Y.w) A (.compLoop (.DictComp kx vx [⟨tg, iter, ifs, 0⟩] scope pos) 0 (.ref itA) (.ref D) Y.env) R s4 := by
  subst hA
  have frees : ∀ {σ' : L2.St} {H' : Hp} {s' : Shared}, Inv Y [] σ' H' s' → (∀ b ∈ fp, H' b = none) → ∀ b ∈ fp, FpOk Y [] H' b := fun {σ' H' s'} I' hn b hb =>
    ⟨hn b hb, (fr b hb).1, (fr b hb).2.1, .inl (by rw [hex]; exact hb), fun x c e => (fr b hb).2.2 x c e, fun p hp => by rw [hpn] at hp; exact absurd hp (by simp)⟩
  have noX : ∀ {α : Type} {t : Sem α} {Q Q' : α → Shared → Prop} {E : Value → Shared → Prop} {s : Shared}, wpAny (model Y.prog Y.w) Y.A t Q Y.xe s → (∀ a s, Q a s → Q' a s) → wpAny (model Y.prog Y.w) Y.A t Q' E s := fun h hQ => wpAny_mono h hQ fun e s' z => (hxe e s' z).elim
  refine compLoop_anyD (fun n s' => ∃ i H', Inv Y [] (wipe σ vs) H' s' ∧ tn i s'.heap ∧ (∀ b ∈ fp, H' b = none) ∧ W i n H') ?_ m0 ⟨0, H4, I4, st4, n4, w4⟩
  rintro n s5 ⟨i, H5, I5, st5, n5, w5⟩
  rcases turn i n H5 w5 with ⟨stop, qq⟩ | ⟨go, Nx, hNx, step⟩
  · refine thnF (T.done Y rfl rfl rfl hcalm i [] s5 _ H5 (fun _ _ => False) I5 (frees I5 n5) st5 stop) fun r s6 hr => ?_
    obtain ⟨rfl, I6⟩ := hr
    exact done s6 H5 I6 qq
  · refine thnF (T.item Y rfl rfl rfl hcalm i [] s5 _ H5 (fun _ _ => False) I5 (frees I5 n5) st5 go) fun r s6 hr => ?_
    obtain ⟨u, rfl, h6⟩ := hr
    refine thnF h6 fun _ s7 h7 => ?_
    obtain ⟨x, H7, I7, r7, y7, st7, n7⟩ := h7
    have P7 := I7.pinned (frees I7 n7) (T.obj _ _ st7)
    have back : ∀ {σ8 : L2.St} {s' : Shared} {H' : Hp}, wipe σ8 vs = wipe σ vs → Inv Y ([] ++ pinsAt fp s7.heap) σ8 H' s' → Nx H' → ∃ m, m < n ∧ ∃ i H', Inv Y [] (wipe σ vs) H' s' ∧ tn i s'.heap ∧ (∀ b ∈ fp, H' b = none) ∧ W i m H' := fun {σ8 s' H'} hw8 I' nx => by
      obtain ⟨m', hm, w'⟩ := hNx H' nx
      have stay : ∀ b ∈ fp, ∀ o, s7.heap.get? b = some o → s'.heap.get? b = some o ∧ H' b = none := fun b hb o e => by
        have z := I'.pin (b, o) (List.mem_append_right _ (List.mem_append_right _ (mem_pinsAt hb e)))
        exact ⟨z.1, z.2.1⟩
      have lens : (wipe σ vs).length = σ8.length := by rw [← hw8, wipe_length]
      refine ⟨m', hm, i + 1, H', (I'.unpinned (pins := [])).weak lens (fun j v e => ?_), T.keep _ _ _ st7 fun b hb o e => (stay b hb o e).1, fun b hb => ?_, w'⟩
      · rw [← hw8] at e
        exact (wipe_some e).1
      · obtain ⟨o, e, _⟩ := T.obj _ _ st7 b hb
        exact (stay b hb o e).2
    refine noX (pg.run _ s7 _ H7 x u _ P7 r7 (step x H7 y7)) fun _ s8 h8 => ?_
    obtain ⟨σ8, H8, I8, hw8, q8⟩ := h8
    refine noX (pt.run _ s8 σ8 H8 _ I8 q8) fun b s9 h9 => ?_
    obtain ⟨H9, I9, q9⟩ := h9
    cases b with
    | false =>
      rw [if_neg Bool.false_ne_true] at q9
      rw [if_neg Bool.false_ne_true]
      exact back hw8 I9 q9
    | true =>
      rw [if_pos rfl] at q9
      rw [if_pos rfl]
      refine noX (pk.run _ s9 σ8 H9 _ I9 q9) fun z s10 h10 => ?_
      obtain ⟨yk, H10, I10, r10, q10⟩ := h10
      refine noX (pe.run _ s10 σ8 H10 _ I10 q10) fun z2 s11 h11 => ?_
      obtain ⟨yv, H11, I11, r11, a, kvs, k, rfl, hD11, ha11, hz11, nx⟩ := h11
      exact dt_dictSet (X := Y) hu I11 hD11 ha11 hz11 r10 r11 fun s12 I12 => back hw8 I12 nx
/-- as a value -/
theorem pe_dcT (hc : X.calm = true) (hu : X.A.units + 1 < cLine) (hN : X.N.Nodup) (hi : PI X tg iter wi) (ok : BlkOk X.N X.env.scope scope own)
    (hg : ∀ (s : Shared) (H : Hp) (C : Addr) (cl : List (Str × Addr)) (fp : List Addr), PG (X.blk s H scope (compEnvC scope cl C X.env) fp) tg g)
    (ht : ∀ (s : Shared) (H : Hp) (C : Addr) (cl : List (Str × Addr)) (fp : List Addr), PTs (X.blk s H scope (compEnvC scope cl C X.env) fp) ifs tt)
    (hk : ∀ (s : Shared) (H : Hp) (C : Addr) (cl : List (Str × Addr)) (fp : List Addr), PE (X.blk s H scope (compEnvC scope cl C X.env) fp) kx tk)
    (he : ∀ (s : Shared) (H : Hp) (C : Addr) (cl : List (Str × Addr)) (fp : List Addr), PE (X.blk s H scope (compEnvC scope cl C X.env) fp) vx tv) (hs : ∀ x, foldedSetIterable iter X.env x = pure x := by intro _; rfl) :
    PE X (.DictComp kx vx [⟨tg, iter, ifs, 0⟩] scope pos) (tDcT wi g tt tk tv (own.map (·.2))) := by
  refine ⟨fun pins s σ H Q I asked => ?_⟩
  rw [arm_eval_DictComp]
  have caught : ∀ y ∈ scope.names, y.2 = .free → ∃ c, X.env.cells.lookup y.1 = some c := fun y hy e =>
    (ok.free y hy e).elim (fun z => I.ok.has _ (.inl z)) (fun z => I.ok.has _ (.inr z))
  refine wpAny_comprehension_free (use := none) rfl hs (closure_ok caught) ok.kind (fun y hy e => by rw [ok.uniq y hy, e]) (thn (hi.run pins s σ H _ I asked) fun xv s1 hx => thn hx fun itv s2 hit => ?_)
  obtain ⟨itA, fp, tn, J, H2, rfl, I2, T, st2, f2, wish⟩ := hit
  refine wpAny_newObj_type (newEnv_comp ?_)
  generalize hDe : s2.heap.objs.size = D
  obtain ⟨W, ⟨m0, w0⟩, turn⟩ := wish D (I2.hok.fresh (Nat.le_of_eq hDe))
  have I3 : Inv X pins σ (upd H2 D (.dT [])) { s2 with heap := s2.heap.push { cls := .type "dict", data := .dict #[] } } := by
    refine I2.laid (t' := s2.toks) (fun b o e => Heap.get?_push_of_some _ e) (Nat.le_of_eq hDe) ?_
    rw [← hDe]
    exact dt_empty s2.heap I2.big
  have size3 : (s2.heap.push { cls := .type "dict", data := .dict #[] }).objs.size = s2.heap.objs.size + 1 := Heap.size_push ..
  have st3 : tn 0 (s2.heap.push { cls := .type "dict", data := .dict #[] }) := T.keep _ _ _ st2 fun b _ o e => Heap.get?_push_of_some _ e
  have below : ∀ b ∈ fp, b < s2.heap.objs.size := fun b hb => by
    obtain ⟨o, e, _⟩ := T.obj _ _ st2 b hb
    exact Heap.lt_size e
  generalize hs3 : ({ s2 with heap := s2.heap.push { cls := .type "dict", data := .dict #[] } } : Shared) = s3 at I3
  have heap3 : s3.heap = s2.heap.push { cls := .type "dict", data := .dict #[] } := by rw [← hs3]
  rw [← heap3] at st3 size3
  have f3 : ∀ b ∈ fp, FpOk X pins (upd H2 D (.dT [])) b ∧ b < s3.heap.objs.size := fun b hb => by
    have lt := below b hb
    refine ⟨⟨?_, (f2 b hb).2⟩, by rw [size3]; exact Nat.lt_succ_of_lt lt⟩
    rw [upd_ne (Nat.ne_of_lt (Nat.lt_of_lt_of_eq lt hDe))]
    exact (f2 b hb).1
  have I4 := block_start I3 ok hN f3
  have keep4 : tn 0 (pushCells (s3.heap.push { cls := .type "dict", data := .dict #[] }) scope.names) := T.keep _ _ _ st3 fun b _ o e => pushCells_keeps _ _ _ _ (Heap.get?_push_of_some _ e)
  have run := dcT_turns (Y := X.blk s3 (upd H2 D (.dT [])) scope (compEnvC scope (cellsFrom (s3.heap.objs.size + 1) scope.names (cloFrom X.env.cells scope.names [])) s3.heap.objs.size X.env) fp) (A := X.A) (iter := iter) (scope := scope) (pos := pos)
    (R := compPost (model X.prog X.w) X.A X.xe none (EP X pins σ Q) (.ref D) s3.heap.objs.size) rfl hc rfl hu T rfl (fun b hb => ⟨(I4.ok.exf b hb).1, I4.ok.exfs b hb, fun x c e => (I4.ok.exf b hb).2 x c e⟩) (hg _ _ _ _ _) (ht _ _ _ _ _) (hk _ _ _ _ _) (he _ _ _ _ _) turn I4 keep4 (fun b hb => (f3 b hb).1.1) w0
    (fun s' H' J' q => ?_) (fun _ _ z => z)
  · show codeAny _ _ (.compStart (.DictComp kx vx [⟨tg, iter, ifs, 0⟩] scope pos) 0 (.ref itA) (.ref D) (compEnvC scope (cellsFrom (s3.heap.objs.size + 1) scope.names (cloFrom X.env.cells scope.names [])) s3.heap.objs.size X.env)) (compPost (model X.prog X.w) X.A X.xe none (EP X pins σ Q) (.ref D) s3.heap.objs.size) { s3 with heap := pushCells (s3.heap.push { cls := .type "dict", data := .dict #[] }) scope.names }
    exact codeAny_compStart_dict run (T.self X.A 0 _ _ _ keep4 run)
  · have I7 : Inv X pins σ H' s' := I3.call' (ch := fp) J'.os J'.base J'.hok J'.bare fun b hb => ⟨(f3 b hb).1.2.2.2.1, (f3 b hb).1.2.1, (f3 b hb).1.2.2.2.2.1, (f3 b hb).1.2.2.2.2.2⟩
    have nC : H' s3.heap.objs.size = none := J'.free
    obtain ⟨m, hn, _⟩ := J'.loc
    refine ⟨m, hn, fun h'' sb => ?_⟩
    obtain ⟨f0, f1, _, f3', f4, f5⟩ := I3.fpOk (H' := H') (Nat.le_refl _) nC
    exact ⟨.ref D, H', I7.turned (t' := s'.toks) (fun b o hb e => (sb.2 b hb).trans e) f0 f1 f3' f4 f5, rfl, q⟩
/-- over anything that is walked -/
theorem dcT_it {J : It} {n : Nat} {G : Hp → Prop} {Yl : Nat → Hp → V → Hp → Prop} (wk : Walk J n G Yl) {vs : List Nat} {σ : L2.St} {H1 : Hp} {D : Addr} {Qd : Hp → Prop} (Pv : Nat → Hp → Prop) (h0 : Pv 0 (upd H1 D (.dT []))) (hG : ∀ i H, i ≤ n → Pv i H → G H)
    (hs : ∀ i x H H', i < n → Pv i H → Yl i H x H' → g x (wipe σ vs) H' fun σ2 H2 => wipe σ2 vs = wipe σ vs ∧ tt σ2 H2 fun b H3 =>
      if b = true then tk σ2 H3 fun y H4 => tv σ2 H4 fun z H5 => ∃ a kvs k, y = .ref a ∧ H5 D = some (.dT kvs) ∧ H5 a = some (.tup (k.map kV)) ∧ kvs.length < sizeLine ∧ Pv (i + 1) (upd H5 D (.dT (putK kvs k z))) else Pv (i + 1) H3) (hd : ∀ H, Pv n H → Qd H) :
    ∃ W : Nat → Nat → Hp → Prop, (∃ m, W 0 m (upd H1 D (.dT []))) ∧ ∀ i m H, W i m H →
      (J.stop i H ∧ Qd H) ∨ (J.go i H ∧ ∃ Nx : Hp → Prop, (∀ H', Nx H' → ∃ m', m' < m ∧ W (i + 1) m' H') ∧ ∀ x H', J.yld i H x H' → g x (wipe σ vs) H' fun σ2 H2 => wipe σ2 vs = wipe σ vs ∧ tt σ2 H2 fun b H3 =>
        if b = true then tk σ2 H3 fun y H4 => tv σ2 H4 fun z H5 => ∃ a kvs k, y = .ref a ∧ H5 D = some (.dT kvs) ∧ H5 a = some (.tup (k.map kV)) ∧ kvs.length < sizeLine ∧ Nx (upd H5 D (.dT (putK kvs k z))) else Nx H3) := by
  refine ⟨fun i m H => m = n - i ∧ i ≤ n ∧ Pv i H, ⟨n, by simp, Nat.zero_le _, h0⟩, ?_⟩
  rintro i m H ⟨rfl, hi, p⟩
  have gg := hG i H hi p
  rcases Nat.lt_or_eq_of_le hi with lt | e
  · exact .inr ⟨wk.goes i H lt gg, Pv (i + 1), fun H' p' => ⟨n - (i + 1), by omega, rfl, lt, p'⟩, fun x H' y => hs i x H H' lt p (wk.yields i H x H' lt gg y)⟩
  · subst e
    exact .inl ⟨wk.stops H gg, hd H p⟩
end
end Mv
/-! *d in a display, d a dict whose keys are tuples -/
namespace Mv
open PySem PySem.Spec PyProof.Rows L2
def tStarD (te : TE) (t : TA) : TA := fun σ H Q => te σ H fun x H1 => ∃ d kvs, x = V.ref d ∧ H1 d = some (.dT kvs) ∧ ∀ bs, IsKeys H1 kvs bs → t σ H1 fun ys H2 => Q (bs.map V.ref ++ ys) H2
section
variable {X : Cx} {pins : List (Addr × Obj)} {σ : L2.St} {H : Hp} {s : Shared}
theorem star_dT {d : Addr} {kvs : List (List Key × V)} {E : Value → Shared → Prop} {Q : List Value → Shared → Prop} (hc : X.calm = true) (I : Inv X pins σ H s) (hd : H d = some (.dT kvs)) (hQ : ∀ bs us s', Inv X pins σ H s' → IsKeys H kvs bs → Vals (bs.map V.ref) us → Q us s') :
    PySem.W.StarOf (model X.prog X.w) X.A E (.ref d) Q s := by
  obtain ⟨z, hs, ks, pr, o, es, ep, ho, hx, hdt, he, hn⟩ := (show ObjOk X.prog X.w H s.heap d (.dT kvs) from I.hok d _ hd)
  have l1 : es.size = ks.length := size_of_entries he
  have l2 : kvs.length = ks.length := Paired.length pr
  have hT : s.TypeIs (.ref d) "dict" := ⟨o, ho, hx.1⟩
  unfold PySem.W.StarOf notIterableAtAll
  refine wpAny_bind (wpAny_specialOf hT PySem.F.slot_dict_iter.lookup (wpAny_pure ⟨rfl, ?_⟩))
  refine PySem.W.kdu_collect (kdl_raw hs hx hdt) (I.ok.hd hc) ho (by omega) fun h' tk acc kp items => ?_
  have alike : acc.toList = (ks.map fun x => x.2.1).map Value.ref := by
    refine List.ext_getElem (by rw [Array.length_toList, items.1, List.length_map, List.length_map, l1]) fun j h1 h2 => ?_
    have hj : acc[j]? = some acc.toList[j] := by rw [← Array.getElem?_toList, List.getElem?_eq_getElem h1]
    obtain ⟨en, hen, hv⟩ := items.2 j _ hj
    have hlt : j < ks.length := by rw [List.length_map, List.length_map] at h2; exact h2
    rw [← Array.getElem?_toList, he, List.getElem?_map, List.getElem?_eq_getElem hlt] at hen
    have e2 := Option.some.inj hen
    rw [hv, ← e2, List.getElem_map, List.getElem_map]
    rfl
  exact hQ (ks.map fun x => x.2.1) _ _ (I.kept (t' := tk) kp) (isKeys_of pr) (by rw [alike]; exact vals_refs _)
variable {e : Expr} {es : List Expr} {te : TE} {t : TA} {p : Pos}
theorem pa_starD (hc : X.calm = true) (he : PE X e te) (hr : PA X es t) (hs : starEach (.Starred e p :: es) X.env = (true, eval e X.env) :: starEach es X.env := by rfl) : PA X (.Starred e p :: es) (tStarD te t) := by
  refine ⟨fun pos pins s σ H Q I h => ?_⟩
  refine PySem.W.items_star (thn (he.run pins s σ H _ I h) fun v s1 got => ?_) hs
  obtain ⟨y, H1, I1, ry, d, kvs, rfl, hd, q⟩ := got
  cases ry
  refine star_dT hc I1 hd fun bs us s2 I2 kb rv => ?_
  exact thn (hr.run pos pins s2 σ H1 _ I2 (q bs kb)) fun ws s3 got3 => let ⟨vs, H3, I3, r3, q3⟩ := got3; ⟨bs.map V.ref ++ vs, H3, I3, rv.append r3, q3⟩
end
end Mv
/-! sums of terms as data: the order of terms, what a form holds of a term -/
namespace Mv
open PySem PySem.Spec PyProof.Rows L2
def KINDL : List Str := ["n", "t", "f", "at", "begun", "said", "heard"]
def kIx (h : Str) : Int := (((KINDL.findIdx fun z => decide (z = h)) : Nat) : Int)
def TermOk (t : Term) : Prop := (∃ h r, t = h :: r ∧ h ∈ KINDL) ∧ okT t ∧ t.length ≤ 60
def rk (t : Term) : Row := [.int (kIx (t.headD default)), .txs t]
def rkLt (t u : Term) : Bool := rowLt (rk t) (rk u)
theorem cmpR_rk (t u : Term) : cmpR (rk t) (rk u) = .eq → t = u := by
  intro h
  unfold rk at h
  rw [cmpR_cons, cmpR_cons, cmpC_strs] at h
  have h2 : compare (t.map fun z => z.cps.toList) (u.map fun z => z.cps.toList) = .eq := by
    cases e1 : cmpC (.int (kIx (t.headD default))) (.int (kIx (u.headD default))) with
    | lt => rw [e1] at h; cases h
    | gt => rw [e1] at h; cases h
    | eq =>
      rw [e1] at h
      cases e2 : compare (t.map fun z => z.cps.toList) (u.map fun z => z.cps.toList) with
      | lt => rw [e2] at h; cases h
      | gt => rw [e2] at h; cases h
      | eq => rfl
  exact map_cps_inj (Std.compare_eq_iff_eq.mp h2)
theorem rkLt_irr (t : Term) : rkLt t t = false := (rowLt_swo rk).refl t
theorem rkLt_tri {t u : Term} (h : t ≠ u) : rkLt t u = true ∨ rkLt u t = true := by
  unfold rkLt rowLt
  have e : cmpR (rk u) (rk t) = (cmpR (rk t) (rk u)).swap := Std.OrientedCmp.eq_swap
  rw [e]
  cases q : cmpR (rk t) (rk u) with
  | lt => exact .inl rfl
  | gt => exact .inr rfl
  | eq => exact absurd (cmpR_rk t u q) h
theorem rkLt_asym {t u : Term} (h : rkLt t u = true) : rkLt u t = false := (rowLt_swo rk).asym t u h
theorem rkLt_trans {t u v : Term} (h1 : rkLt t u = true) (h2 : rkLt u v = true) : rkLt t v = true := (rowLt_swo rk).ltle h1 (rkLt_asym h2)
/-- what the pairs hold of a term -/
def getP (ps : Prs) (t : Term) : Int := ((ps.find? fun p => decide (p.1 = t)).map (·.2)).getD 0
/-- in the terms' order, no integer 0 -/
structure Canon (ps : Prs) : Prop where
  srt : ps.Pairwise fun p q => rkLt p.1 q.1 = true
  nz : ∀ p ∈ ps, p.2 ≠ 0
  ok : ∀ p ∈ ps, TermOk p.1
theorem Canon.nil : Canon [] := ⟨.nil, fun _ h => by simp at h, fun _ h => by simp at h⟩
theorem getP_nil (t : Term) : getP [] t = 0 := rfl
theorem getP_pos {p : Term × Int} {ps : Prs} {t : Term} (h : p.1 = t) : getP (p :: ps) t = p.2 := by
  unfold getP
  rw [List.find?_cons_of_pos (by simp [h])]
  rfl
theorem getP_neg {p : Term × Int} {ps : Prs} {t : Term} (h : ¬ p.1 = t) : getP (p :: ps) t = getP ps t := by
  unfold getP
  rw [List.find?_cons_of_neg (by simp [h])]
theorem getP_no {ps : Prs} {t : Term} (h : ∀ p ∈ ps, p.1 ≠ t) : getP ps t = 0 := by
  induction ps with
  | nil => rfl
  | cons p ps ih => rw [getP_neg (h p List.mem_cons_self), ih fun q hq => h q (List.mem_cons_of_mem _ hq)]
theorem getP_mem {ps : Prs} {p : Term × Int} (nd : (ps.map (·.1)).Nodup) (h : p ∈ ps) : getP ps p.1 = p.2 := by
  induction ps with
  | nil => cases h
  | cons q ps ih =>
    rw [List.map_cons, List.nodup_cons] at nd
    rcases List.mem_cons.mp h with e | h
    · rw [e, getP_pos rfl]
    · rw [getP_neg (fun e => nd.1 (List.mem_map.mpr ⟨p, h, e.symm⟩)), ih nd.2 h]
theorem Canon.nodup {ps : Prs} (c : Canon ps) : (ps.map (·.1)).Nodup := by
  unfold List.Nodup
  rw [List.pairwise_map]
  exact c.srt.imp fun {a b} h e => by rw [e, rkLt_irr] at h; cases h
theorem Canon.tail {p : Term × Int} {ps : Prs} (c : Canon (p :: ps)) : Canon ps := ⟨(List.pairwise_cons.mp c.srt).2, fun q hq => c.nz q (List.mem_cons_of_mem _ hq), fun q hq => c.ok q (List.mem_cons_of_mem _ hq)⟩
/-- nothing else holds the same -/
theorem Canon.uniq : ∀ {ps qs : Prs}, Canon ps → Canon qs → (∀ t, getP ps t = getP qs t) → ps = qs
  | [], [], _, _, _ => rfl
  | [], q :: qs, _, cq, h => by
    have e := h q.1
    rw [getP_nil, getP_pos rfl] at e
    exact absurd e.symm (cq.nz q List.mem_cons_self)
  | p :: ps, [], cp, _, h => by
    have e := h p.1
    rw [getP_nil, getP_pos rfl] at e
    exact absurd e (cp.nz p List.mem_cons_self)
  | p :: ps, q :: qs, cp, cq, h => by
    have ahead : ∀ {a b : Term × Int} {as bs : Prs}, Canon (a :: as) → Canon (b :: bs) → (∀ t, getP (a :: as) t = getP (b :: bs) t) → rkLt a.1 b.1 = true → False := fun {a b as bs} ca cb h lt => by
      have e := h a.1
      rw [getP_pos rfl, getP_no] at e
      · exact ca.nz a List.mem_cons_self e
      · intro c hc z
        rcases List.mem_cons.mp hc with y | hc
        · rw [← z, y, rkLt_irr] at lt
          cases lt
        · have l2 := (List.pairwise_cons.mp cb.srt).1 c hc
          have l3 := rkLt_trans lt l2
          rw [z, rkLt_irr] at l3
          cases l3
    have e1 : p.1 = q.1 := Classical.byContradiction fun n => (rkLt_tri n).elim (fun lt => ahead cp cq h lt) fun lt => ahead cq cp (fun t => (h t).symm) lt
    have e2 : p.2 = q.2 := by
      have e := h p.1
      rw [getP_pos rfl, getP_pos e1.symm] at e
      exact e
    have e3 : ps = qs := Canon.uniq cp.tail cq.tail fun t => by
      by_cases ht : p.1 = t
      · have n1 : ∀ c ∈ ps, c.1 ≠ t := fun c hc z => by
          have l := (List.pairwise_cons.mp cp.srt).1 c hc
          rw [ht, z, rkLt_irr] at l
          cases l
        have n2 : ∀ c ∈ qs, c.1 ≠ t := fun c hc z => by
          have l := (List.pairwise_cons.mp cq.srt).1 c hc
          rw [← e1, ht, z, rkLt_irr] at l
          cases l
        rw [getP_no n1, getP_no n2]
      · have e := h t
        rw [getP_neg ht, getP_neg (fun z => ht (e1.trans z))] at e
        exact e
    obtain ⟨a, b⟩ := p
    obtain ⟨c, d⟩ := q
    simp only at e1 e2
    rw [e1, e2, e3]
/-- terms, sorted, with what g says of them, no 0 -/
def mkP (ts : List Term) (g : Term → Int) : Prs := (ts.map fun t => (t, g t)).filter fun p => decide (p.2 ≠ 0)
theorem mkP_canon {ts : List Term} {g : Term → Int} (hs : ts.Pairwise fun t u => rkLt t u = true) (ok : ∀ t ∈ ts, TermOk t) : Canon (mkP ts g) := by
  refine ⟨List.Pairwise.filter _ (List.pairwise_map.mpr hs), fun p hp => ?_, fun p hp => ?_⟩
  · exact of_decide_eq_true (List.mem_filter.mp hp).2
  · obtain ⟨t, ht, rfl⟩ := List.mem_map.mp (List.mem_filter.mp hp).1
    exact ok t ht
theorem mkP_get {ts : List Term} {g : Term → Int} (nd : ts.Nodup) (h0 : ∀ t, t ∉ ts → g t = 0) (t : Term) : getP (mkP ts g) t = g t := by
  have nd2 : ((mkP ts g).map (·.1)).Nodup := by
    unfold mkP
    have h1 : ((ts.map fun t => (t, g t)).filter fun p => decide (p.2 ≠ 0)).map (·.1) = ts.filter fun t => decide (g t ≠ 0) := by
      rw [List.filter_map, List.map_map]
      show ((ts.filter fun t => decide (g t ≠ 0)).map fun t => t) = _
      rw [List.map_id']
    rw [h1]
    exact nd.filter _
  by_cases hz : g t = 0
  · rw [hz]
    refine getP_no fun p hp z => ?_
    obtain ⟨h1, h2⟩ := List.mem_filter.mp hp
    obtain ⟨u, _, rfl⟩ := List.mem_map.mp h1
    have h3 := of_decide_eq_true h2
    have e : u = t := z
    rw [e] at h3
    exact h3 hz
  · have hm : t ∈ ts := Classical.byContradiction fun n => hz (h0 t n)
    have hp : (t, g t) ∈ mkP ts g := List.mem_filter.mpr ⟨List.mem_map.mpr ⟨t, hm, rfl⟩, decide_eq_true hz⟩
    exact getP_mem nd2 hp
theorem mkP_len (ts : List Term) (g : Term → Int) : (mkP ts g).length ≤ ts.length := by
  unfold mkP
  refine Nat.le_trans (List.length_filter_le _ _) ?_
  rw [List.length_map]
  exact Nat.le_refl _
/-! ### dicts by terms -/
def keyT (t : Term) : List Key := t.map Sum.inr
theorem keyT_kV (t : Term) : (keyT t).map kV = t.map V.str := by
  unfold keyT
  rw [List.map_map]
  rfl
theorem keyT_inj {t u : Term} (h : keyT t = keyT u) : t = u := by
  unfold keyT at h
  induction t generalizing u with
  | nil =>
    cases u with
    | nil => rfl
    | cons _ _ => cases h
  | cons a t ih =>
    cases u with
    | nil => cases h
    | cons b u =>
      rw [List.map_cons, List.map_cons] at h
      have h1 := List.cons.inj h
      rw [Sum.inr.inj h1.1, ih h1.2]
def dct (ps : Prs) : List (List Key × V) := ps.map fun p => (keyT p.1, V.int p.2)
theorem dct_len (ps : Prs) : (dct ps).length = ps.length := List.length_map ..
theorem dct_val (ps : Prs) (t : Term) : valV (dct ps) (keyT t) = (ps.find? fun p => decide (p.1 = t)).map fun p => V.int p.2 := by
  induction ps with
  | nil => rfl
  | cons p ps ih =>
    show valV ((keyT p.1, V.int p.2) :: dct ps) (keyT t) = _
    by_cases h : p.1 = t
    · rw [valV_pos (by show keyT p.1 = keyT t; rw [h]), List.find?_cons_of_pos (by simp [h])]
      rfl
    · rw [valV_neg (fun z => h (keyT_inj z)), List.find?_cons_of_neg (by simp [h]), ih]
theorem dct_getD (ps : Prs) (t : Term) : (valV (dct ps) (keyT t)).getD (V.int 0) = V.int (getP ps t) := by
  rw [dct_val]
  unfold getP
  cases ps.find? fun p => decide (p.1 = t) <;> rfl
theorem dct_some (ps : Prs) (t : Term) : (valV (dct ps) (keyT t)).isSome = decide (t ∈ ps.map (·.1)) := by
  rw [dct_val, Option.isSome_map]
  cases e : ps.find? fun p => decide (p.1 = t) with
  | none =>
    rw [List.find?_eq_none] at e
    symm
    refine decide_eq_false fun h => ?_
    obtain ⟨p, hp, hq⟩ := List.mem_map.mp h
    exact e p hp (by simp [hq])
  | some p =>
    symm
    have h1 := List.mem_of_find?_eq_some e
    have h2 := List.find?_some e
    exact decide_eq_true (List.mem_map.mpr ⟨p, h1, of_decide_eq_true h2⟩)
/-- put in its place, or at the end -/
def putP (ps : Prs) (t : Term) (i : Int) : Prs := if (ps.any fun p => decide (p.1 = t)) = true then ps.map (fun p => if p.1 = t then (p.1, i) else p) else ps ++ [(t, i)]
theorem dct_put (ps : Prs) (t : Term) (i : Int) : putK (dct ps) (keyT t) (.int i) = dct (putP ps t i) := by
  have e1 : (dct ps).any (fun kv => decide (kv.1 = keyT t)) = ps.any fun p => decide (p.1 = t) := by
    unfold dct
    rw [List.any_map]
    congr 1
    funext p
    show decide (keyT p.1 = keyT t) = decide (p.1 = t)
    by_cases h : p.1 = t
    · simp [h]
    · have h2 : ¬ keyT p.1 = keyT t := fun z => h (keyT_inj z)
      simp [h, h2]
  unfold putK putP
  rw [e1]
  split
  · unfold dct
    rw [List.map_map, List.map_map]
    refine List.map_congr_left fun p _ => ?_
    show (if keyT p.1 = keyT t then (keyT p.1, V.int i) else (keyT p.1, V.int p.2)) = _
    by_cases h : p.1 = t
    · rw [if_pos (by rw [h])]
      show _ = (fun p : Term × Int => (keyT p.1, V.int p.2)) (if p.1 = t then (p.1, i) else p)
      rw [if_pos h]
    · rw [if_neg (fun z => h (keyT_inj z))]
      show _ = (fun p : Term × Int => (keyT p.1, V.int p.2)) (if p.1 = t then (p.1, i) else p)
      rw [if_neg h]
  · unfold dct
    rw [List.map_append]
    rfl
theorem putP_new {ps : Prs} {t : Term} {i : Int} (h : t ∉ ps.map (·.1)) : putP ps t i = ps ++ [(t, i)] := by
  unfold putP
  rw [if_neg]
  rw [List.any_eq_true]
  rintro ⟨p, hp, hq⟩
  exact h (List.mem_map.mpr ⟨p, hp, of_decide_eq_true hq⟩)
theorem putP_len (ps : Prs) (t : Term) (i : Int) : (putP ps t i).length ≤ ps.length + 1 := by
  unfold putP
  split
  · rw [List.length_map]
    exact Nat.le_succ _
  · rw [List.length_append]
    exact Nat.le_refl _
end Mv
namespace Mv
open PySem PySem.Spec PyProof.Rows L2
theorem pairAtI {α β : Type} {R : α → β → Prop} {as : List α} {bs : List β} (h : Paired R as bs) : ∀ {i : Nat} {x : α}, as[i]? = some x → ∃ y, bs[i]? = some y ∧ R x y := by
  induction h with
  | nil => intro i x e; simp at e
  | @cons a b as bs h _ ih =>
    intro i x e
    cases i with
    | zero =>
      rw [List.getElem?_cons_zero] at e
      cases e
      exact ⟨b, rfl, h⟩
    | succ i =>
      rw [List.getElem?_cons_succ] at e ⊢
      exact ih e
theorem putP_keys (ps : Prs) (t : Term) (i : Int) : (putP ps t i).map (·.1) = if (ps.any fun p => decide (p.1 = t)) = true then ps.map (·.1) else ps.map (·.1) ++ [t] := by
  unfold putP
  split
  · rw [List.map_map]
    refine List.map_congr_left fun p _ => ?_
    show (if p.1 = t then (p.1, i) else p).1 = p.1
    split <;> rfl
  · rw [List.map_append]
    rfl
theorem any_mem {ps : Prs} {t : Term} : (ps.any fun p => decide (p.1 = t)) = true ↔ t ∈ ps.map (·.1) := by
  rw [List.any_eq_true, List.mem_map]
  constructor
  · rintro ⟨p, hp, e⟩
    exact ⟨p, hp, of_decide_eq_true e⟩
  · rintro ⟨p, hp, e⟩
    exact ⟨p, hp, decide_eq_true e⟩
theorem putP_nodup {ps : Prs} (h : (ps.map (·.1)).Nodup) (t : Term) (i : Int) : ((putP ps t i).map (·.1)).Nodup := by
  rw [putP_keys]
  split
  · exact h
  · rename_i hn
    rw [List.nodup_append]
    refine ⟨h, by simp, fun a ha b hb e => ?_⟩
    rw [List.mem_singleton.mp hb] at e
    exact hn (any_mem.mpr (e ▸ ha))
theorem getP_app (ps : Prs) (p : Term × Int) (t : Term) (h : ∀ q ∈ ps, q.1 ≠ p.1) : getP (ps ++ [p]) t = if p.1 = t then p.2 else getP ps t := by
  induction ps with
  | nil =>
    rw [List.nil_append]
    by_cases e : p.1 = t
    · rw [if_pos e, getP_pos e]
    · rw [if_neg e, getP_neg e]
  | cons q ps ih =>
    rw [List.cons_append]
    by_cases e : q.1 = t
    · have hn := h q List.mem_cons_self
      rw [getP_pos e, getP_pos e, if_neg (fun z => hn (e.trans z.symm))]
    · rw [getP_neg e, getP_neg e, ih fun q2 hq2 => h q2 (List.mem_cons_of_mem _ hq2)]
theorem getP_put (ps : Prs) (t : Term) (i : Int) (u : Term) : getP (putP ps t i) u = if t = u then i else getP ps u := by
  unfold putP
  split
  · rename_i hy
    have hm := any_mem.mp hy
    clear hy
    induction ps with
    | nil => simp at hm
    | cons p ps ih =>
      rw [List.map_cons]
      by_cases e : p.1 = u
      · by_cases e2 : p.1 = t
        · rw [if_pos e2, getP_pos (p := (p.1, i)) e, if_pos (e2.symm.trans e)]
        · rw [if_neg e2, getP_pos e, getP_pos e, if_neg (fun z => e2 (e.trans z.symm))]
      · have e3 : (if p.1 = t then (p.1, i) else p).1 = p.1 := by split <;> rfl
        rw [getP_neg (by rw [e3]; exact e), getP_neg e]
        by_cases e4 : t ∈ ps.map (·.1)
        · exact ih e4
        · have e5 : p.1 = t := by
            rcases List.mem_cons.mp hm with z | z
            · exact z.symm
            · exact absurd z e4
          have e6 : (ps.map fun p => if p.1 = t then (p.1, i) else p) = ps := by
            rw [← List.map_id ps, List.map_map]
            refine List.map_congr_left fun q hq => ?_
            show (if q.1 = t then (q.1, i) else q) = q
            rw [if_neg fun z => e4 (List.mem_map.mpr ⟨q, hq, z⟩)]
          rw [e6, if_neg (fun z => e (e5.trans z))]
  · rename_i hn
    rw [getP_app _ _ _ fun q hq z => hn (any_mem.mpr (List.mem_map.mpr ⟨q, hq, z⟩))]
theorem putP_mem {ps : Prs} {t : Term} {i : Int} {p : Term × Int} (h : p ∈ putP ps t i) : p.1 = t ∨ ∃ q ∈ ps, q.1 = p.1 := by
  have h2 : p.1 ∈ (putP ps t i).map (·.1) := List.mem_map.mpr ⟨p, h, rfl⟩
  rw [putP_keys] at h2
  split at h2
  · obtain ⟨q, hq, e⟩ := List.mem_map.mp h2
    exact .inr ⟨q, hq, e⟩
  · rcases List.mem_append.mp h2 with z | z
    · obtain ⟨q, hq, e⟩ := List.mem_map.mp z
      exact .inr ⟨q, hq, e⟩
    · exact .inl (List.mem_singleton.mp z)
end Mv
/-! dict(list of pairs), the keys tuples -/
namespace Mv
open PySem PySem.Spec PyProof.Rows L2
def mergeT (kvs : List (List Key × V)) : List (List Key × V) := kvs.foldl (fun acc kv => putK acc kv.1 kv.2) []
def rDictPT (K : PySem.W.Frag) : List V → Hp → VK → Prop := fun xs H Q => ∃ (a : Addr) (prs : List Addr) (kvs : List (List Key × V)), xs = [.ref a] ∧ SqL K H a (prs.map V.ref) ∧ Paired (fun p kv => ∃ b, SqT K H p [.ref b, kv.2] ∧ H b = some (.tup (kv.1.map kV))) prs kvs ∧
  ∀ D, H D = none → Q (.ref D) (upd H D (.dT (mergeT kvs)))
def rDictTT (K : PySem.W.Frag) : List V → Hp → VK → Prop := fun xs H Q => ∃ (a : Addr) (prs : List Addr) (kvs : List (List Key × V)), xs = [.ref a] ∧ TpN H a (prs.map V.ref) ∧ Paired (fun p kv => ∃ b, SqT K H p [.ref b, kv.2] ∧ H b = some (.tup (kv.1.map kV))) prs kvs ∧
  ∀ D, H D = none → Q (.ref D) (upd H D (.dT (mergeT kvs)))
theorem vals_refB : ∀ {prs : List Addr} {us : List Value}, Vals (prs.map V.ref) us → us = prs.map Value.ref
  | [], _, .nil => rfl
  | p :: prs, _, .cons (b := u) h r => by
    rw [vals_refB r]
    obtain rfl : u = Value.ref p := h
    rfl
section
variable {X : Cx} {pins : List (Addr × Obj)} {σ : L2.St} {H : Hp} {s : Shared}
theorem pairs_heap (I : Inv X pins σ H s) : ∀ {prs : List Addr} {kvs : List (List Key × V)}, Paired (fun p kv => ∃ b, SqT X.K H p [.ref b, kv.2] ∧ H b = some (.tup (kv.1.map kV))) prs kvs →
    ∃ qs : List (List Key × Addr × Value), Paired (fun p q => IsTup s.heap p #[.ref q.2.1, q.2.2]) prs qs ∧ KT H kvs qs
  | _, _, .nil => ⟨[], .nil, .nil⟩
  | _, _, .cons (a := p) (b := kv) h r => by
    obtain ⟨b, h1, h2⟩ := h
    obtain ⟨its, rv, ht, _⟩ := I.tuple h1
    obtain ⟨qs, pq, kt⟩ := pairs_heap I r
    cases rv with
    | cons ra rt =>
      cases rt with
      | cons rb rn =>
        cases rn
        cases ra
        exact ⟨(kv.1, b, _) :: qs, .cons ht pq, .cons ⟨rfl, h2, rb⟩ kt⟩
theorem kt_merge {H : Hp} {kvs : List (List Key × V)} {qs : List (List Key × Addr × Value)} (h : KT H kvs qs) : ∀ {acc : List (List Key × V)} {xs : List (List Key × Addr × Value)}, KT H acc xs → KT H (kvs.foldl (fun acc kv => putK acc kv.1 kv.2) acc) (qs.foldl (fun acc p => storedH acc p.1 p.2.1 p.2.2) xs) := by
  induction h with
  | nil => intro acc xs g; exact g
  | @cons kv q _ _ h r ih =>
    intro acc xs g
    obtain ⟨e1, e2, e3⟩ := h
    refine ih ?_
    have g2 := g.put kv.1 e2 e3
    rw [e1] at g2
    show KT H (putK acc kv.1 kv.2) (storedH xs q.1 q.2.1 q.2.2)
    rw [e1]
    exact g2
theorem merge_len : ∀ (kvs acc : List (List Key × V)), (kvs.foldl (fun acc kv => putK acc kv.1 kv.2) acc).length ≤ acc.length + kvs.length
  | [], acc => Nat.le_refl _
  | kv :: kvs, acc => by
    have h1 := merge_len kvs (putK acc kv.1 kv.2)
    have h2 := length_putK acc kv.1 kv.2
    rw [List.foldl_cons, List.length_cons]
    omega
theorem call_dictPT {k : Nat} (hc : X.calm = true) (hr : Room (k + 2) X.A) : CallR X (.type "dict") (rDictPT X.K) := by
  intro pins s σ H vs us Q I r h
  obtain ⟨a, prs, kvs, rfl, hs, pr, q⟩ := h
  obtain ⟨its, rv, hl, hz⟩ := I.list hs
  have ei := vals_refB rv
  subst ei
  obtain ⟨u, rfl, ru⟩ := vals1 r
  obtain rfl : u = Value.ref a := ru
  obtain ⟨qs, pq, kt⟩ := pairs_heap I pr
  have l1 : prs.length = qs.length := Paired.length pq
  have l2 : kvs.length = qs.length := Paired.length kt
  rw [List.length_map] at hz
  have hq : ∀ {j : Nat} {ky v : Value}, (qs.map fun q => (Value.ref q.2.1, q.2.2))[j]? = some (ky, v) → ∃ x, qs[j]? = some x ∧ ky = .ref x.2.1 ∧ v = x.2.2 := fun {j ky v} e => by
    rw [List.getElem?_map] at e
    obtain ⟨x, hx, e2⟩ := Option.map_eq_some_iff.mp e
    exact ⟨x, hx, (Prod.mk.inj e2).1.symm, (Prod.mk.inj e2).2.symm⟩
  refine call_dict_pairsH (knd := tupleKind (mixKind X.prog X.w)) (ps := qs) (PairArg.list (prog := X.prog) (w := X.w) a (prs.map Value.ref).toArray (fun j => prs.getD j 0) (qs.map fun q => (Value.ref q.2.1, q.2.2)))
    (I.ok.hd hc) (hr.in1.in1).units0 ⟨hl, ?_, ?_⟩ ⟨by rw [List.length_map], fun i ky v e => ?_⟩ ?_ (by rw [List.length_map]; omega) fun h' tk dd kp => ?_
  · rw [List.size_toArray, List.length_map, List.length_map, l1]
  · intro j ky v e
    obtain ⟨x, hx, rfl, rfl⟩ := hq e
    have hj : j < prs.length := by rw [l1]; exact (List.getElem?_eq_some_iff.mp hx).1
    obtain ⟨y, hy, ht⟩ := pairAtI pq (List.getElem?_eq_getElem hj)
    rw [hx] at hy
    cases hy
    have eg : prs.getD j 0 = prs[j] := by simp [List.getD, List.getElem?_eq_getElem hj]
    show _ = some (Value.ref (prs.getD j 0)) ∧ PySem.PairAt s.heap (prs.getD j 0) _ _
    rw [eg]
    refine ⟨by simp [hj], .inl ht⟩
  · obtain ⟨x, hx, rfl, rfl⟩ := hq e
    exact ⟨x.1, x.2.1, hx, rfl⟩
  · intro h' kp x hx
    obtain ⟨i, hi⟩ := List.getElem?_of_mem hx
    have hi2 : i < kvs.length := by rw [l2]; exact (List.getElem?_eq_some_iff.mp hi).1
    obtain ⟨y, hy, e1, e2, e3⟩ := pairAtI kt (List.getElem?_eq_getElem hi2)
    rw [hi] at hy
    cases hy
    obtain ⟨o, items, n, g1, g2⟩ := key_of I.hok e2
    rw [← e1]
    exact ⟨o, items, n, kp _ _ (Nat.ne_of_lt (Heap.lt_size g1)) (by simp) g1, g2⟩
  · have kn := kt_merge (acc := []) (xs := []) kt .nil
    have ml := merge_len kvs []
    obtain ⟨ob, es, ep, g1, g2, g3, g4, _, g5⟩ := dd
    have nD : H s.heap.objs.size = none := I.hok.fresh (Nat.le_refl _)
    refine ⟨.ref s.heap.objs.size, _, I.laid (a := s.heap.objs.size) (o := .dT (mergeT kvs)) (t' := tk) (fun b u e => kp b u (by simp) e) (Nat.le_refl _) ⟨?_, ?_, _, ?_, ob, es, ep, g1, g2, g3, g4, g5⟩, rfl, q _ nD⟩
    · unfold mergeT
      simp only [List.length_nil] at ml
      omega
    · have := I.big
      exact beq_eq_false_iff_ne.mpr (Ne.symm (Nat.ne_of_lt this))
    · exact L2.Paired.mapP kn fun _ _ ⟨e1, e2, e3⟩ => ⟨e1, by rw [upd_ne (fun z => by rw [z, nD] at e2; cases e2)]; exact e2, e3⟩
theorem inv_tupN {a : Addr} {xs : List V} (I : Inv X pins σ H s) (h : TpN H a xs) : ∃ its : List Value, Vals xs its ∧ PlainSeq "tuple" s.heap a its.toArray ∧ xs.length ≤ sizeLine := by
  obtain ⟨o, hn, e⟩ := h
  obtain ⟨ho, z, its, r, o2, ho2, hc, n, hd⟩ := (show ObjOk X.prog X.w H s.heap a (.frz o (.tup xs)) from I.hok a _ e)
  rw [ho] at ho2
  cases ho2
  exact ⟨its, r, ⟨o, n, ho, hc, hn, hd⟩, z⟩
theorem call_dictTT {k : Nat} (hc : X.calm = true) (hr : Room (k + 2) X.A) : CallR X (.type "dict") (rDictTT X.K) := by
  intro pins s σ H vs us Q I r h
  obtain ⟨a, prs, kvs, rfl, hs, pr, q⟩ := h
  obtain ⟨its, rv, hl, hz⟩ := inv_tupN I hs
  have ei := vals_refB rv
  subst ei
  obtain ⟨u, rfl, ru⟩ := vals1 r
  obtain rfl : u = Value.ref a := ru
  obtain ⟨qs, pq, kt⟩ := pairs_heap I pr
  have l1 : prs.length = qs.length := Paired.length pq
  have l2 : kvs.length = qs.length := Paired.length kt
  rw [List.length_map] at hz
  have hq : ∀ {j : Nat} {ky v : Value}, (qs.map fun q => (Value.ref q.2.1, q.2.2))[j]? = some (ky, v) → ∃ x, qs[j]? = some x ∧ ky = .ref x.2.1 ∧ v = x.2.2 := fun {j ky v} e => by
    rw [List.getElem?_map] at e
    obtain ⟨x, hx, e2⟩ := Option.map_eq_some_iff.mp e
    exact ⟨x, hx, (Prod.mk.inj e2).1.symm, (Prod.mk.inj e2).2.symm⟩
  refine call_dict_pairsH (knd := tupleKind (mixKind X.prog X.w)) (ps := qs) (PairArg.tuple (prog := X.prog) (w := X.w) a (prs.map Value.ref).toArray (fun j => prs.getD j 0) (qs.map fun q => (Value.ref q.2.1, q.2.2)))
    (I.ok.hd hc) (hr.in1.in1).units0 ⟨hl, ?_, ?_⟩ ⟨by rw [List.length_map], fun i ky v e => ?_⟩ ?_ (by rw [List.length_map]; omega) fun h' tk dd kp => ?_
  · rw [List.size_toArray, List.length_map, List.length_map, l1]
  · intro j ky v e
    obtain ⟨x, hx, rfl, rfl⟩ := hq e
    have hj : j < prs.length := by rw [l1]; exact (List.getElem?_eq_some_iff.mp hx).1
    obtain ⟨y, hy, ht⟩ := pairAtI pq (List.getElem?_eq_getElem hj)
    rw [hx] at hy
    cases hy
    have eg : prs.getD j 0 = prs[j] := by simp [List.getD, List.getElem?_eq_getElem hj]
    show _ = some (Value.ref (prs.getD j 0)) ∧ PySem.PairAt s.heap (prs.getD j 0) _ _
    rw [eg]
    refine ⟨by simp [hj], .inl ht⟩
  · obtain ⟨x, hx, rfl, rfl⟩ := hq e
    exact ⟨x.1, x.2.1, hx, rfl⟩
  · intro h' kp x hx
    obtain ⟨i, hi⟩ := List.getElem?_of_mem hx
    have hi2 : i < kvs.length := by rw [l2]; exact (List.getElem?_eq_some_iff.mp hi).1
    obtain ⟨y, hy, e1, e2, e3⟩ := pairAtI kt (List.getElem?_eq_getElem hi2)
    rw [hi] at hy
    cases hy
    obtain ⟨o, items, n, g1, g2⟩ := key_of I.hok e2
    rw [← e1]
    exact ⟨o, items, n, kp _ _ (Nat.ne_of_lt (Heap.lt_size g1)) (by simp) g1, g2⟩
  · have kn := kt_merge (acc := []) (xs := []) kt .nil
    have ml := merge_len kvs []
    obtain ⟨ob, es, ep, g1, g2, g3, g4, _, g5⟩ := dd
    have nD : H s.heap.objs.size = none := I.hok.fresh (Nat.le_refl _)
    refine ⟨.ref s.heap.objs.size, _, I.laid (a := s.heap.objs.size) (o := .dT (mergeT kvs)) (t' := tk) (fun b u e => kp b u (by simp) e) (Nat.le_refl _) ⟨?_, ?_, _, ?_, ob, es, ep, g1, g2, g3, g4, g5⟩, rfl, q _ nD⟩
    · unfold mergeT
      simp only [List.length_nil] at ml
      omega
    · have := I.big
      exact beq_eq_false_iff_ne.mpr (Ne.symm (Nat.ne_of_lt this))
    · exact L2.Paired.mapP kn fun _ _ ⟨e1, e2, e3⟩ => ⟨e1, by rw [upd_ne (fun z => by rw [z, nD] at e2; cases e2)]; exact e2, e3⟩
end
end Mv
/-! operators by an own class's methods -/
namespace Mv
open PySem PySem.Spec PySem.W PySem.Calls PyProof.Rows
section
variable {prog : Program} {w : World} {M : Model} {A : Around} {E : Value → Shared → Prop} {s : Shared} {K : Frag} {x C L f : Addr} {h₀ : Heap} {m : Str → Option Value} {ox : Obj} {od : Option Obj} {nm T : String}
/-- x op b by x's own method, b of a built-in type -/
theorem own_left {op : Operator} {b : Value} {fo ro rc : Option Value} {Q : Value → Shared → Prop} (F : Fr h₀ L s.heap m) (X₀ : K.In h₀) (I : InstAt s.heap x ox C od) (hb : Looks (model prog w) s.heap (typeOf b) (.type T)) (hc : selfFirst K C = true)
    (hs : findIn K (.ref C) (PySem.dunder op.info.2) = some (some (.ref f))) (hf : isFn K (.ref f) = true) (hr : findIn K (.ref C) (dunderR op.info.2) = some rc) (hp : rc = none ∨ ∃ g : Addr, rc = some (.ref g))
    (h1 : findIn K (.type T) (PySem.dunder op.info.2) = some fo) (h2 : findIn K (.type T) (dunderR op.info.2) = some ro) (hsub : subIn K (.type T) (.ref C) = some false)
    (h : wpAny (model prog w) A (call (.ref f) [.ref x, b]) (W.CmpBack Q) E s) : wpAny (model prog w) A (binaryOp op (.ref x) b) Q E s := by
  have X := X₀.keeps F.keep
  obtain ⟨cd, rest, ecd, hm⟩ := ksp_first hc
  rcases hi : op.info with ⟨sym, nn⟩
  rw [hi] at hs hr h1 h2
  dsimp only at hs hr h1 h2
  have one := ksp_try X I hs hf h
  obtain ⟨hp0, g, d, tt, os⟩ := s
  have u1 : Looks (model prog w) hp0 (typeOf (.ref x)) (.ref C) := I.type
  have u2 : Looks (model prog w) hp0 (typeOf b) (.type T) := hb
  have u3 : Looks (model prog w) hp0 (fillsNumberSlot (.ref C) nn) true := fills_K X ecd hm hs
  have u4 : Looks (model prog w) hp0 (fillsNumberSlot (.type T) nn) ((fo.isSome && !isSeqSlot fo) || (ro.isSome && !isSeqSlot ro)) := ksp_fillsT X h1 h2
  have u5 : Looks (model prog w) hp0 (isSubtype (.type T) (.ref C)) false := looks_subIn X hsub
  have u6 : Looks (model prog w) hp0 (numberSlotInPython (.ref C) nn) true := ksp_inPy X hs hr hp
  have u7 : Looks (model prog w) hp0 (numberSlotInPython (.type T) nn) false := Looks.of_pure rfl
  have u8 : Looks (model prog w) hp0 (typeLookup (.type T) (dunderR nn)) ro := looks_findIn X h2
  generalize ((fo.isSome && !isSeqSlot fo) || (ro.isSome && !isSeqSlot ro)) = right at u4
  have hne : (Value.ref C == Value.type T) = false := Bool.eq_false_iff.mpr fun q => by cases beq_iff_eq.mp q
  simp only [binaryOp, hi]
  refine wpAny_holding (wpAny_bind ?_)
  unfold binaryOp1
  refine wpAny_bind (u1.at (wpAny_bind (u2.at (wpAny_bind (u3.at ?_)))))
  simp only [hne, Bool.false_eq_true, if_false]
  cases right with
  | false =>
    ksp_lk
    refine wpAny_mono one (fun r s' hr' => ?_) fun _ _ e => e
    obtain ⟨v, rfl, hq⟩ := hr'
    ksp_lk
    exact hq
  | true =>
    ksp_lk
    refine wpAny_mono one (fun r s' hr' => ?_) fun _ _ e => e
    obtain ⟨v, rfl, hq⟩ := hr'
    ksp_lk
    exact hq
/-- b op x by x's own reflected method, b of a built-in type without such a number's slot -/
theorem own_rightS {op : Operator} {b : Value} {fo ro : Option Value} {f' : Addr} {Q : Value → Shared → Prop} (F : Fr h₀ L s.heap m) (X₀ : K.In h₀) (I : InstAt s.heap x ox C od) (hb : Looks (model prog w) s.heap (typeOf b) (.type T)) (hc : selfFirst K C = true)
    (hs : findIn K (.ref C) (PySem.dunder op.info.2) = some (some (.ref f'))) (hr : findIn K (.ref C) (dunderR op.info.2) = some (some (.ref f))) (hf : isFn K (.ref f) = true)
    (h1 : findIn K (.type T) (PySem.dunder op.info.2) = some fo) (h2 : findIn K (.type T) (dunderR op.info.2) = some ro) (hno : ((fo.isSome && !isSeqSlot fo) || (ro.isSome && !isSeqSlot ro)) = false)
    (h : wpAny (model prog w) A (call (.ref f) [.ref x, b]) (W.CmpBack Q) E s) : wpAny (model prog w) A (binaryOp op b (.ref x)) Q E s := by
  have X := X₀.keeps F.keep
  obtain ⟨cd, rest, ecd, hm⟩ := ksp_first hc
  rcases hi : op.info with ⟨sym, nn⟩
  rw [hi] at hs hr h1 h2
  dsimp only at hs hr h1 h2
  have one := ksp_try X I hr hf h
  obtain ⟨hp0, g, d, tt, os⟩ := s
  have u1 : Looks (model prog w) hp0 (typeOf (.ref x)) (.ref C) := I.type
  have u2 : Looks (model prog w) hp0 (typeOf b) (.type T) := hb
  have u3 : Looks (model prog w) hp0 (fillsNumberSlot (.ref C) nn) true := fills_K X ecd hm hs
  have u4 : Looks (model prog w) hp0 (fillsNumberSlot (.type T) nn) false := by
    have q := ksp_fillsT (M := model prog w) X h1 h2
    rw [hno] at q
    exact q
  have hne : (Value.type T == Value.ref C) = false := Bool.eq_false_iff.mpr fun q => by cases beq_iff_eq.mp q
  simp only [binaryOp, hi]
  refine wpAny_holding (wpAny_bind ?_)
  unfold binaryOp1
  refine wpAny_bind (u2.at (wpAny_bind (u1.at (wpAny_bind (u4.at ?_)))))
  simp only [hne, Bool.false_eq_true, if_false]
  ksp_lk
  refine wpAny_mono one (fun r s' hr' => ?_) fun _ _ e => e
  obtain ⟨v, rfl, hq⟩ := hr'
  ksp_lk
  exact hq
/-- b op x where b's own slot declines -/
theorem own_rightN {op : Operator} {b : Value} {fo ro : Option Value} {f' : Addr} {Q : Value → Shared → Prop} (F : Fr h₀ L s.heap m) (X₀ : K.In h₀) (I : InstAt s.heap x ox C od) (hb : Looks (model prog w) s.heap (typeOf b) (.type T)) (hc : selfFirst K C = true)
    (hs : findIn K (.ref C) (PySem.dunder op.info.2) = some (some (.ref f'))) (hr : findIn K (.ref C) (dunderR op.info.2) = some (some (.ref f))) (hf : isFn K (.ref f) = true)
    (h1 : findIn K (.type T) (PySem.dunder op.info.2) = some fo) (h2 : findIn K (.type T) (dunderR op.info.2) = some ro) (hyes : ((fo.isSome && !isSeqSlot fo) || (ro.isSome && !isSeqSlot ro)) = true) (hsub : subIn K (.ref C) (.type T) = some false)
    (hd : ∀ (Q' : Option Value → Shared → Prop), Q' none s → wpAny (model prog w) A (tryMethod b (PySem.dunder op.info.2) (.ref x)) Q' E s)
    (h : wpAny (model prog w) A (call (.ref f) [.ref x, b]) (W.CmpBack Q) E s) : wpAny (model prog w) A (binaryOp op b (.ref x)) Q E s := by
  have X := X₀.keeps F.keep
  obtain ⟨cd, rest, ecd, hm⟩ := ksp_first hc
  rcases hi : op.info with ⟨sym, nn⟩
  rw [hi] at hs hr h1 h2 hd
  dsimp only at hs hr h1 h2 hd
  have one := ksp_try X I hr hf h
  obtain ⟨hp0, g, d, tt, os⟩ := s
  have u1 : Looks (model prog w) hp0 (typeOf (.ref x)) (.ref C) := I.type
  have u2 : Looks (model prog w) hp0 (typeOf b) (.type T) := hb
  have u3 : Looks (model prog w) hp0 (fillsNumberSlot (.ref C) nn) true := fills_K X ecd hm hs
  have u4 : Looks (model prog w) hp0 (fillsNumberSlot (.type T) nn) true := by
    have q := ksp_fillsT (M := model prog w) X h1 h2
    rw [hyes] at q
    exact q
  have u5 : Looks (model prog w) hp0 (isSubtype (.ref C) (.type T)) false := looks_subIn X hsub
  have u7 : Looks (model prog w) hp0 (numberSlotInPython (.type T) nn) false := Looks.of_pure rfl
  have hne : (Value.type T == Value.ref C) = false := Bool.eq_false_iff.mpr fun q => by cases beq_iff_eq.mp q
  simp only [binaryOp, hi]
  refine wpAny_holding (wpAny_bind ?_)
  unfold binaryOp1
  refine wpAny_bind (u2.at (wpAny_bind (u1.at (wpAny_bind (u4.at ?_)))))
  simp only [hne, Bool.false_eq_true, if_false]
  ksp_lk
  refine hd _ ?_
  ksp_lk
  refine wpAny_mono one (fun r s' hr' => ?_) fun _ _ e => e
  obtain ⟨v, rfl, hq⟩ := hr'
  ksp_lk
  exact hq
end

section
variable {prog : Program} {w : World} {A : Around} {E : Value → Shared → Prop} {s : Shared} {x C dx : Addr}
theorem int_declines {op : Operator} {i : Int} {t : Tok} {id : String} {B : Builtin} {f : Int → Int → Sem PySem.Fin} {nm : String} {Q : Option Value → Shared → Prop} (hB : B = Builtin.Int.intBinary nm f) (slot : Slot "int" (PySem.dunder op.info.2) id) (entry : entryFor table id = some B) (args : argsOk id ⟨[.int i t, .ref x], []⟩)
    (hx : s.heap.get? x = some (instObj C dx)) (q : Q none s) : wpAny (model prog w) A (tryMethod (.int i t) (PySem.dunder op.info.2) (.ref x)) Q E s := by
  subst hB
  refine wpAny_tryMethod_declines (T := "int") (s := s) rfl slot (wpAny_call_entry slot rfl entry ?_ args)
  unfold Builtin.Int.intBinary
  wp_walk using wpAny_loadPart_at hx
  exact ⟨_, rfl, rfl, q⟩
theorem bool_declines {op : Operator} {b : Bool} {id : String} {B : Builtin} {f : Int → Int → Sem PySem.Fin} {nm : String} {Q : Option Value → Shared → Prop} (hB : B = Builtin.Int.intBinary nm f) (slot : Slot "bool" (PySem.dunder op.info.2) id) (entry : entryFor table id = some B) (args : argsOk id ⟨[.bool b, .ref x], []⟩)
    (hx : s.heap.get? x = some (instObj C dx)) (q : Q none s) : wpAny (model prog w) A (tryMethod (.bool b) (PySem.dunder op.info.2) (.ref x)) Q E s := by
  subst hB
  refine wpAny_tryMethod_declines (T := "bool") (s := s) rfl slot (wpAny_call_entry slot rfl entry ?_ args)
  unfold Builtin.Int.intBinary
  wp_walk using wpAny_loadPart_at hx
  exact ⟨_, rfl, rfl, q⟩
/-- + - * of ints -/
structure IntOp (op : Operator) : Prop where
  ex : ∃ (id : String) (B : Builtin) (f : Int → Int → Sem PySem.Fin) (nm : String), B = Builtin.Int.intBinary nm f ∧ Slot "int" (PySem.dunder op.info.2) id ∧ Slot "bool" (PySem.dunder op.info.2) id ∧ entryFor table id = some B ∧ ∀ a b : Value, argsOk id ⟨[a, b], []⟩
theorem intOp_add : IntOp .Add := ⟨_, _, _, _, rfl, PySem.F.slot_int_add, PySem.F.slot_bool_add, PySem.F.entry_int_add, fun a b => PySem.F.args_int_add_2 a b⟩
theorem intOp_sub : IntOp .Sub := ⟨_, _, _, _, rfl, PySem.F.slot_int_sub, PySem.F.slot_bool_sub, PySem.F.entry_int_sub, fun a b => PySem.F.args_int_sub_2 a b⟩
theorem intOp_mul : IntOp .Mult := ⟨_, _, _, _, rfl, PySem.F.slot_int_mul, PySem.F.slot_bool_mul, PySem.F.entry_int_mul, fun a b => PySem.F.args_int_mul_2 a b⟩
end
/-- the class at C does op by the method at f, turned about by the one at fr -/
structure OwnOp (K : Frag) (C : Addr) (op : Operator) (f fr : Addr) : Prop where
  first : selfFirst K C = true
  left : findIn K (.ref C) (PySem.dunder op.info.2) = some (some (.ref f))
  fn : isFn K (.ref f) = true
  right : findIn K (.ref C) (dunderR op.info.2) = some (some (.ref fr))
  fnr : isFn K (.ref fr) = true
/-- values of the type T beside it; num: it has a number's slot -/
structure OwnTy (K : Frag) (C : Addr) (op : Operator) (T : String) (num : Bool) : Prop where
  ex : ∃ fo ro, findIn K (.type T) (PySem.dunder op.info.2) = some fo ∧ findIn K (.type T) (dunderR op.info.2) = some ro ∧ ((fo.isSome && !isSeqSlot fo) || (ro.isSome && !isSeqSlot ro)) = num
  no : subIn K (.type T) (.ref C) = some false
  no2 : subIn K (.ref C) (.type T) = some false
theorem cmpBack_of {Q : Value → Shared → Prop} {v : Value} {s : Shared} (n : v ≠ .notImplemented) (q : Q v s) : W.CmpBack Q v s := by
  cases v <;> first | exact absurd rfl n | exact q
end Mv
namespace Mv
open PySem PySem.Spec PyProof.Rows L2
theorem rel_ni {v : V} {u : Value} (r : RelV v u) : u ≠ .notImplemented := by
  intro z
  subst z
  cases v <;> first | (obtain ⟨t, e⟩ := r; cases e) | cases r
/-- form op y -/
def OwnL (K : PySem.W.Frag) (C : Addr) (op : Operator) (sp : Sp) (E : XK) : R2 := fun x y H Q => ∃ (a dx : Addr) (fs : List (Str × V)), x = .ref a ∧ H a = some (.ins C dx fs) ∧
  ((∃ b dy gs, y = .ref b ∧ H b = some (.ins C dy gs)) ∨ ∃ T num, TyX K H y (.type T) ∧ OwnTy K C op T num) ∧ sp [x, y] H Q E
/-- y op form, y no form -/
def OwnR (K : PySem.W.Frag) (C : Addr) (op : Operator) (sp : Sp) (E : XK) : R2 := fun y x H Q => ∃ (a dx : Addr) (fs : List (Str × V)), x = .ref a ∧ H a = some (.ins C dx fs) ∧
  ((∃ T, TyX K H y (.type T) ∧ OwnTy K C op T false) ∨ (∃ i, y = .int i ∧ OwnTy K C op "int" true) ∨ (∃ b, y = .bl b ∧ OwnTy K C op "bool" true)) ∧ sp [x, y] H Q E
section
variable {X : Cx} {CX : CXT} {C f fr : Addr} {k : Nat} {fd : FuncData} {ps : List Str} {sp : Sp} {E : XK} {op : Operator}
theorem op_ownL (D : OwnOp X.K C op f fr) (G : FnOk X.prog X.w X.K X.mg X.base CX k f fd ps sp) (hb : Binds X.K fd ps []) (hr : Room k X.A) (hx : Passes CX X E) : OpR X (binaryOp op) (OwnL X.K C op sp E) := by
  intro pins s σ H x y v u Q I rx ry h
  obtain ⟨a, dx, fs, rfl, ha, hy, q⟩ := h
  cases rx
  obtain ⟨mA, J, _⟩ := ins_get I.hok ha
  obtain ⟨od, J, _⟩ := J.look
  obtain ⟨m, hF⟩ := I.fr
  have r2 : Vals [V.ref a, y] [Value.ref a, u] := .cons rfl (.cons ry .nil)
  have run : wpAny (model X.prog X.w) X.A (call (.ref f) [.ref a, u]) (PySem.W.CmpBack (EP X pins σ Q)) X.xe s :=
    wpAny_mono (run_fn G hr hb .nil hx I r2 q) (fun r s' z => cmpBack_of (by obtain ⟨v', _, _, rv, _⟩ := z; exact rel_ni rv) z) fun _ _ z => z
  rcases hy with ⟨b, dy, gs, rfl, hb2⟩ | ⟨T, num, ty, W⟩
  · cases ry
    obtain ⟨mB, JB, _⟩ := ins_get I.hok hb2
    obtain ⟨od2, JB, _⟩ := JB.look
    exact PySem.W.binop_K hF I.ok.mod.kin J JB.type D.first D.left D.fn run
  · obtain ⟨fo, ro, h1, h2, _⟩ := W.ex
    exact own_left hF I.ok.mod.kin J (looks_ty I ry ty) D.first D.left D.fn D.right (.inr ⟨_, rfl⟩) h1 h2 W.no run
theorem op_ownR (O : IntOp op) (D : OwnOp X.K C op f fr) (G : FnOk X.prog X.w X.K X.mg X.base CX k fr fd ps sp) (hb : Binds X.K fd ps []) (hr : Room k X.A) (hx : Passes CX X E) : OpR X (binaryOp op) (OwnR X.K C op sp E) := by
  intro pins s σ H y x u v Q I ry rx h
  obtain ⟨a, dx, fs, rfl, ha, hy, q⟩ := h
  cases rx
  obtain ⟨mA, J, _⟩ := ins_get I.hok ha
  have hob := J.obj
  obtain ⟨od, J, _⟩ := J.look
  obtain ⟨m, hF⟩ := I.fr
  have r2 : Vals [V.ref a, y] [Value.ref a, u] := .cons rfl (.cons ry .nil)
  have run : wpAny (model X.prog X.w) X.A (call (.ref fr) [.ref a, u]) (PySem.W.CmpBack (EP X pins σ Q)) X.xe s :=
    wpAny_mono (run_fn G hr hb .nil hx I r2 q) (fun r s' z => cmpBack_of (by obtain ⟨v', _, _, rv, _⟩ := z; exact rel_ni rv) z) fun _ _ z => z
  obtain ⟨id, B, ff, nm, hB, sl, slb, en, ar⟩ := O.ex
  rcases hy with ⟨T, ty, W⟩ | ⟨i, rfl, W⟩ | ⟨b, rfl, W⟩
  · obtain ⟨fo, ro, h1, h2, h3⟩ := W.ex
    exact own_rightS hF I.ok.mod.kin J (looks_ty I ry ty) D.first D.left D.right D.fnr h1 h2 h3 run
  · obtain ⟨fo, ro, h1, h2, h3⟩ := W.ex
    obtain ⟨t, rfl⟩ := ry
    exact own_rightN hF I.ok.mod.kin J (PySem.W.Looks.now) D.first D.left D.right D.fnr h1 h2 h3 W.no2 (fun Q' q' => int_declines hB sl en (ar _ _) hob q') run
  · obtain ⟨fo, ro, h1, h2, h3⟩ := W.ex
    cases ry
    exact own_rightN hF I.ok.mod.kin J (PySem.W.Looks.now) D.first D.left D.right D.fnr h1 h2 h3 W.no2 (fun Q' q' => bool_declines hB slb en (ar _ _) hob q') run
/-- - form -/
def OwnU (C : Addr) (sp : Sp) (E : XK) : V → Hp → VK → Prop := fun x H Q => ∃ (a dx : Addr) (fs : List (Str × V)), x = .ref a ∧ H a = some (.ins C dx fs) ∧ sp [x] H Q E
theorem un_ownNeg (hs : PySem.W.findIn X.K (.ref C) "__neg__" = some (some (.ref f))) (hf : PySem.W.isFn X.K (.ref f) = true) (G : FnOk X.prog X.w X.K X.mg X.base CX k f fd ps sp) (hb : Binds X.K fd ps []) (hr : Room k X.A) (hx : Passes CX X E) : UnR X (unaryOp .USub) (OwnU C sp E) := by
  intro pins s σ H x v Q I rx h
  obtain ⟨a, dx, fs, rfl, ha, q⟩ := h
  cases rx
  obtain ⟨mA, J, _⟩ := ins_get I.hok ha
  obtain ⟨od, J, _⟩ := J.look
  obtain ⟨m, hF⟩ := I.fr
  have r2 : Vals [V.ref a] [Value.ref a] := .cons rfl .nil
  exact PySem.W.ksp_neg hF I.ok.mod.kin J hs hf (run_fn G hr hb .nil hx I r2 q)
end
end Mv
/-! is_integer, _as_form, _rank -/
namespace Mv
open PySem PySem.Spec PyProof.Rows L2
abbrev sIsInt : Stmt := top 17
abbrev sAsForm : Stmt := top 31
abbrev sRank : Stmt := top 32
/-- whether it is an integer, and what isinstance is asked of it -/
inductive KnI (K : PySem.W.Frag) (H : Hp) : V → Bool → Prop where
  | int (i : Int) : KnI K H (.int i) true
  | no {x : V} {t : Value} (ty : TyX K H x t) (h : PySem.W.kitOne K t (.type "int") = some false) : KnI K H x false
  | bool {x : V} {t : Value} (ty : TyX K H x t) (h : PySem.W.kitOne K t (.type "int") = some true) (h2 : PySem.W.kitOne K t (.type "bool") = some true) : KnI K H x false
structure IT (mg : Str → Option Value) : Prop where
  isi : mg "isinstance" = none
  int : mg "int" = none
  bool : mg "bool" = none
def spIsInt (K : PySem.W.Frag) : Sp := fun vs H Q _ => ∃ x b, vs = [x] ∧ KnI K H x b ∧ Q (.bl b) H
section
variable {P : Program} {w : World} {K : PySem.W.Frag} {mg : Str → Option Value} {base : Heap} {C CB CF : Addr}
theorem scIi : FnScope ["thing"] ["thing"] (defScope sIsInt) := ⟨rfl, rfl, rfl, by decide +kernel, rfl, by decide +kernel, by decide +kernel⟩
theorem ok_isint {f : Addr} {fd : FuncData} (F : Fun K "is_integer" "is_integer" sIsInt f fd) (T : IT mg) : FnOk P w K mg base CX0 1 f fd ["thing"] (spIsInt K) := by
  refine F.ok scIi (fun vs H Q E h => ?_) (fun cdv A outer s H vs Q E hr h => ?_)
  · obtain ⟨x, b, rfl, _⟩ := h
    rfl
  · obtain ⟨x, b, rfl, hk, q⟩ := h
    refine ⟨_, pss_one (ps_ret (pe_and (pe_callB call_isi (by rfl) T.isi (by decide +kernel) (pa_cons (pv 0) (pa_cons (pe_bltn (v := .ty "int") (by rfl) T.int (by decide +kernel) rfl) pa_nil)))
      (pe_one (pe_not (pe_callB call_isi (by rfl) T.isi (by decide +kernel) (pa_cons (pv 0) (pa_cons (pe_bltn (v := .ty "bool") (by rfl) T.bool (by decide +kernel) rfl) pa_nil))))))), ?_⟩
    cases hk with
    | int i =>
      refine ⟨_, rfl, _, _, _, _, true, rfl, .ty "int", .base (.int i), kit_ty (by decide +kernel), true, rfl, ?_⟩
      refine iteT ?_
      exact ⟨_, rfl, _, _, _, _, false, rfl, .ty "bool", .base (.int i), kit_ty (by decide +kernel), false, rfl, q⟩
    | no ty h1 =>
      refine ⟨_, rfl, _, _, _, _, false, rfl, .ty "int", ty, h1, false, rfl, ?_⟩
      exact iteF q
    | bool ty h1 h2 =>
      refine ⟨_, rfl, _, _, _, _, true, rfl, .ty "int", ty, h1, true, rfl, ?_⟩
      refine iteT ?_
      exact ⟨_, rfl, _, _, _, _, true, rfl, .ty "bool", ty, h2, true, rfl, q⟩
/-- _as_form(thing) -/
def spAsForm (K : PySem.W.Frag) (C CF : Addr) : Sp := fun vs H Q E => ∃ y, vs = [y] ∧
  ((∃ p ps r, y = .ref p ∧ FormAt K C H p ps r ∧ Q y H) ∨
   (∃ i, y = .int i ∧ ∀ p H', Same H H' → H p = none → FormAt K C H' p [] i → Q (.ref p) H') ∨
   (∃ t, TyX K H y t ∧ PySem.W.kitOne K t (.ref C) = some false ∧ KnI K H y false ∧ ∀ d, H d = none → E (.ref CF) (some d) (upd H d (.xd [(("thing" : Str), y)]))))
theorem scAf : FnScope ["thing"] ["thing"] (defScope sAsForm) := ⟨rfl, rfl, rfl, by decide +kernel, rfl, by decide +kernel, by decide +kernel⟩
/-- Form(pairs, rest) from a list -/
theorem made_form {H : Hp} {l : Addr} {xs : List V} {r : Int} {x dx : Addr} {Q : VK} {E : XK} (hl : SqL K H l xs) (hx : H x = none) (hdx : H dx = none) (hne : dx ≠ x) (k : ∀ tp H', Same H H' → TpN H' tp xs → H' x = some (.ins C dx (flds tp r)) → Q (.ref x) H') :
    spFInit K C (.ref x :: [.ref l, .int r]) (upd (upd H dx (.own x)) x (.ins C dx [])) (fun v H3 => v = .non ∧ Q (.ref x) H3) E := by
  have hl2 : SqL K (upd (upd H dx (.own x)) x (.ins C dx [])) l xs := (show Same H (upd (upd H dx (.own x)) x (.ins C dx [])) from (same_new hdx).trans (same_new (by rw [upd_ne (Ne.symm hne)]; exact hx))).seq hl
  refine ⟨x, dx, l, xs, r, rfl, upd_same, hl2, fun tp H' ht hn h1 h2 keep => ⟨rfl, k tp H' (fun b o e => ?_) h2 h1⟩⟩
  have b1 : b ≠ x := ne_of_none e hx
  have b2 : b ≠ dx := ne_of_none e hdx
  exact keep b o (by rw [upd_ne b1, upd_ne b2]; exact e) b1
theorem ok_asform {f fI fi : Addr} {fd fdI fdi : FuncData} (F : Fun K "_as_form" "_as_form" sAsForm f fd) (T : FT K mg C) {fE : Addr} (U : FQ K mg C fE) (kint : PySem.W.kitOne K (.type "int") (.ref C) = some false) (M : Mk K C fI) (GI : FnOk P w K mg base CX0 1 fI fdI ["self", "pairs", "rest"] (spFInit K C)) (bI : Binds K fdI ["self", "pairs", "rest"] [])
    (gi : mg "is_integer" = some (.ref fi)) (ki : PySem.W.keepIn K (.ref fi) = true) (Gi : FnOk P w K mg base CX0 1 fi fdi ["thing"] (spIsInt K)) (bi : Binds K fdi ["thing"] []) (TF : Err P w K mg base "BadForm" CF "thing") : FnOk P w K mg base (L2.CX P w) 4 f fd ["thing"] (spAsForm K C CF) := by
  refine F.okX scAf (fun vs H Q E h => ?_) (fun cdv A outer s H vs Q E hr h => ?_)
  · obtain ⟨y, rfl, _⟩ := h
    rfl
  · obtain ⟨y, rfl, h⟩ := h
    refine ⟨_, pss_cons (ps_if (pt_val (pe_callB call_isi (by rfl) U.isi (by decide +kernel) (pa_cons (pv 0) (pa_cons (pe_glob (v := .ref C) rfl T.gF rfl) pa_nil)))) (pss_one (ps_ret (pv 0))) pss_nil)
      (pss_cons (ps_if (pt_not (pt_val (pe_call Gi (hr.mono (by decide)) rfl gi ki bi .nil pass0 (pa_cons (pv 0) pa_nil)))) (pss_one (ps_raiseErr rfl TF hr (takes_of rfl rfl rfl rfl) rfl (pv 0))) pss_nil)
      (pss_one (ps_ret (pe_make M GI (hr.mono (by decide)) (by rfl) T.gF bI .nil pass0 (pa_cons (pe_lst pa_nil) (pa_cons (pv 0) pa_nil)))))), ?_⟩
    rcases h with ⟨p, ps, r, rfl, hp, q⟩ | ⟨i, rfl, k⟩ | ⟨t, ty, hn, hi, k⟩
    · refine ⟨_, rfl, _, _, _, _, true, rfl, .own C, ty_form T U hp, U.kit, true, rfl, ?_⟩
      refine iteT ?_
      exact ⟨_, rfl, q⟩
    · refine ⟨_, rfl, _, _, _, _, false, rfl, .own C, .base (.int i), kint, false, rfl, ?_⟩
      refine iteF ?_
      refine ⟨_, rfl, _, true, rfl, .int i, _, rfl, ?_⟩
      refine iteF ?_
      refine ⟨(by show 0 ≤ sizeLine; decide), fun l hl => ⟨_, rfl, fun x dx hx hdx hne => ?_⟩⟩
      obtain ⟨nxl, hx0⟩ := upd_nn hx
      refine made_form (.inl (.inl upd_same)) hx hdx hne fun tp H' sm h1 h2 => ?_
      exact k x H' ((same_new hl).trans sm) hx0 ⟨dx, tp, [], h2, h1, .nil⟩
    · refine ⟨_, rfl, _, _, _, _, false, rfl, .own C, ty, hn, false, rfl, ?_⟩
      refine iteF ?_
      refine ⟨_, rfl, _, false, rfl, hi, _, rfl, ?_⟩
      refine iteT ?_
      exact ⟨_, rfl, fun d hd => k d hd⟩
end
end Mv
/-! _rank, _sum, _times -/
namespace Mv
open PySem PySem.Spec PyProof.Rows L2
abbrev sSum : Stmt := top 33
abbrev sTimes : Stmt := top 34
section
variable {P : Program} {w : World} {K : PySem.W.Frag} {mg : Str → Option Value} {base : Heap} {C CB CF : Addr}
def spRank (K : PySem.W.Frag) : Sp := fun vs H Q _ => ∃ b t, vs = [.ref b] ∧ TermAt K H b t ∧ TermOk t ∧ ∀ p, H p = none → Q (.ref p) (upd H p (.tup [.int (kIx (t.headD default)), .ref b]))
/-- the table of the kinds -/
structure KK (K : PySem.W.Frag) (w : World) (mg : Str → Option Value) : Prop where
  ex : ∃ aK, mg "KINDS" = some (.ref aK) ∧ ∀ h ∈ KINDL, KDct K w aK h (.int (kIx h))
theorem scRk : FnScope ["term"] ["term"] (defScope sRank) := ⟨rfl, rfl, rfl, by decide +kernel, rfl, by decide +kernel, by decide +kernel⟩
theorem ok_rank {f : Addr} {fd : FuncData} (F : Fun K "_rank" "_rank" sRank f fd) (T : KK K w mg) : FnOk P w K mg base CX0 1 f fd ["term"] (spRank K) := by
  obtain ⟨aK, gK, hK⟩ := T.ex
  refine F.ok scRk (fun vs H Q E h => ?_) (fun cdv A outer s H vs Q E hr h => ?_)
  · obtain ⟨b, t, rfl, _⟩ := h
    rfl
  · obtain ⟨b, t, rfl, hb, ⟨⟨h0, r, rfl, hm⟩, ok⟩, k⟩ := h
    refine ⟨_, pss_one (ps_ret (pe_tup (pa_cons (pe_ix ix_kdict (pe_glob (v := .ref aK) rfl gK rfl) (pe_ix ix_tup (pv 0) pe_int (fun _ _ => rfl)) (fun _ _ => rfl)) (pa_cons (pv 0) pa_nil)))), ?_⟩
    exact ⟨_, rfl, b, _, 0, _, rfl, rfl, .inl (.inl hb), atI_nat (j := 0) rfl, aK, h0, _, rfl, rfl, hK h0 hm, _, rfl, (by show 2 ≤ sizeLine; decide), fun p hp => k p hp⟩
def spSum (K : PySem.W.Frag) (C : Addr) : Sp := fun vs H Q _ => ∃ p q ps qs r r2, vs = [.ref p, .ref q] ∧ FormAt K C H p ps r ∧ FormAt K C H q qs r2 ∧ Canon ps ∧ Canon qs ∧ ps.length + qs.length ≤ 1000 ∧
  ∀ x H' rs, Same H H' → H x = none → FormAt K C H' x rs (r + r2) → Canon rs → (∀ t, getP rs t = getP ps t + getP qs t) → rs.length ≤ ps.length + qs.length → Q (.ref x) H'
abbrev nSum : List Str := ["one", "other", "rest", "integers", "term", "integer", "terms"]
theorem scSu : FnScope nSum ["one", "other"] (defScope sSum) := ⟨rfl, rfl, rfl, by decide +kernel, rfl, by decide +kernel, by decide +kernel⟩
def stAt (l : List Stmt) (i : Nat) : Stmt := l.getD i (.Pass ⟨0, 0, 0, 0⟩)
abbrev suB : List Stmt := defBody sSum
abbrev SX (P : Program) (w : World) (K : PySem.W.Frag) (mg : Str → Option Value) (base : Heap) (f : Addr) (cdv : Value) (A : Around) (outer : List Env) (s : Shared) (H : Hp) (E : XK) : Cx := (cxOf CX0 P w K mg base nSum "_sum" (defScope sSum) f cdv A outer s H E).nox
variable {f : Addr} {cdv : Value} {A : Around} {outer : List Env} {s : Shared} {H0 : Hp} {E0 : XK}
end
end Mv
namespace Mv
open PySem PySem.Spec PyProof.Rows L2 StX
section
variable {P : Program} {w : World} {K : PySem.W.Frag} {mg : Str → Option Value} {base : Heap} {C CB CF : Addr}
variable {f : Addr} {cdv : Value} {A : Around} {outer : List Env} {s : Shared} {H0 : Hp} {E0 : XK} {fR : Addr} {fdR : FuncData}
def TV (H : Hp) (x : V) (t : Term) : Prop := ∃ b, x = .ref b ∧ H b = some (.tup (t.map V.str))
def strOf : V → Str
  | .str z => z
  | _ => default
def tOf (H : Hp) : V → Term
  | .ref b => match H b with
    | some (.tup l) => l.map strOf
    | _ => []
  | _ => []
theorem map_strOf (t : Term) : (t.map V.str).map strOf = t := by
  rw [List.map_map]
  exact List.map_id'' (fun _ => rfl) t
theorem tOf_of {H : Hp} {x : V} {t : Term} (h : TV H x t) : tOf H x = t := by
  obtain ⟨b, rfl, e⟩ := h
  show (match H b with | some (.tup l) => l.map strOf | _ => []) = t
  rw [e]
  exact map_strOf t
theorem TV.same {H H' : Hp} {x : V} {t : Term} (s : Same H H') (h : TV H x t) : TV H' x t := let ⟨b, e, q⟩ := h; ⟨b, e, s _ _ q⟩
theorem tv_all {H : Hp} : ∀ {xs : List V} {ts : List Term}, Paired (TV H) xs ts → (∀ x ∈ xs, TV H x (tOf H x)) ∧ xs.map (tOf H) = ts
  | _, _, .nil => ⟨fun _ h => by simp at h, rfl⟩
  | _, _, .cons (b := t) h r => by
    have e := tOf_of h
    obtain ⟨h1, h2⟩ := tv_all r
    refine ⟨fun x hx => ?_, by rw [List.map_cons, e, h2]⟩
    rcases List.mem_cons.mp hx with rfl | hx
    · rw [e]; exact h
    · exact h1 x hx
theorem tv_pair {H : Hp} : ∀ {xs : List V}, (∀ x ∈ xs, TV H x (tOf H x)) → Paired (TV H) xs (xs.map (tOf H))
  | [], _ => .nil
  | x :: xs, h => .cons (h x List.mem_cons_self) (tv_pair fun y hy => h y (List.mem_cons_of_mem _ hy))
theorem tv_app {H : Hp} : ∀ {xs ys : List V} {ts us : List Term}, Paired (TV H) xs ts → Paired (TV H) ys us → Paired (TV H) (xs ++ ys) (ts ++ us)
  | _, _, _, _, .nil, g => g
  | _, _, _, _, .cons h r, g => .cons h (tv_app r g)
theorem paired_n {α β : Type} {R : α → β → Prop} {as : List α} {bs : List β} (h : Paired R as bs) : as.length = bs.length := Paired.length h
theorem tv_keys {H : Hp} : ∀ {ps : Prs} {bs : List Addr}, IsKeys H (dct ps) bs → Paired (TV H) (bs.map V.ref) (ps.map (·.1))
  | [], _, .nil => .nil
  | p :: ps, _, .cons (b := b) h r => by
    refine .cons ⟨b, rfl, ?_⟩ (tv_keys r)
    rw [← keyT_kV]
    exact h
theorem tv_pairF {H : Hp} {g : V → Term} : ∀ {xs : List V}, (∀ x ∈ xs, TV H x (g x)) → Paired (TV H) xs (xs.map g)
  | [], _ => .nil
  | x :: xs, h => .cons (h x List.mem_cons_self) (tv_pairF fun y hy => h y (List.mem_cons_of_mem _ hy))
theorem tv_same {H H' : Hp} {xs : List V} {ts : List Term} (s : Same H H') (h : Paired (TV H) xs ts) : Paired (TV H') xs ts := L2.Paired.mapP h fun _ _ q => q.same s
def PR (K : PySem.W.Frag) (H : Hp) (x : V) (p : Term × Int) : Prop := ∃ a, x = .ref a ∧ PairAt K H a p
theorem PR.same {H H' : Hp} {x : V} {p : Term × Int} (s : Same H H') (h : PR K H x p) : PR K H' x p := let ⟨a, e, q⟩ := h; ⟨a, e, q.same s⟩
theorem pr_same {H H' : Hp} {xs : List V} {ps : Prs} (s : Same H H') (h : Paired (PR K H) xs ps) : Paired (PR K H') xs ps := L2.Paired.mapP h fun _ _ q => q.same s
theorem pr_app {H : Hp} : ∀ {xs ys : List V} {ps qs : Prs}, Paired (PR K H) xs ps → Paired (PR K H) ys qs → Paired (PR K H) (xs ++ ys) (ps ++ qs)
  | _, _, _, _, .nil, g => g
  | _, _, _, _, .cons h r, g => .cons h (pr_app r g)
theorem pr_refs {H : Hp} : ∀ {xs : List V} {ps : Prs}, Paired (PR K H) xs ps → ∃ as : List Addr, xs = as.map V.ref ∧ Paired (PairAt K H) as ps
  | _, _, .nil => ⟨[], rfl, .nil⟩
  | _, _, .cons (a := x) ⟨a, e, h⟩ r => by
    obtain ⟨as, e2, p⟩ := pr_refs r
    exact ⟨a :: as, by rw [e, e2]; rfl, .cons h p⟩
/-- adding to a new list keeps what is said of others -/
theorem same_add {H H' : Hp} {R : Addr} {vs : List V} {x : V} (hn : H R = none) (s : Same H H') : Same H (upd H' R (.lst (vs ++ [x]))) := same_put s hn
theorem sqT_put {H : Hp} {R a : Addr} {l xs : List V} {o : HO} (hR : H R = some (.lst l)) (h : SqT K H a xs) : SqT K (upd H R o) a xs := by
  rcases h with (e | ⟨o2, e⟩) | h
  · exact .inl (.inl (by rw [upd_ne (fun z => by rw [z, hR] at e; cases e)]; exact e))
  · exact .inl (.inr ⟨o2, by rw [upd_ne (fun z => by rw [z, hR] at e; cases e)]; exact e⟩)
  · exact .inr h
theorem tm_put {H : Hp} {R a : Addr} {l : List V} {t : Term} {o : HO} (hR : H R = some (.lst l)) (h : TermAt K H a t) : TermAt K (upd H R o) a t := by
  have e : H a = some (.tup (t.map V.str)) := h
  show upd H R o a = _
  rw [upd_ne (fun z => by rw [z, hR] at e; cases e)]
  exact e
theorem pr_put {H : Hp} {R : Addr} {l xs : List V} {ps : Prs} {o : HO} (hR : H R = some (.lst l)) (h : Paired (PR K H) xs ps) : Paired (PR K (upd H R o)) xs ps :=
  L2.Paired.mapP h fun _ _ ⟨a, e, b, g1, g2⟩ => ⟨a, e, b, sqT_put hR g1, tm_put hR g2⟩
abbrev nz (p : Term × Int) : Bool := decide (p.2 ≠ 0)
theorem seq_asg {te : TE} {g : TG} {u : TS} {D : Ends} {σ : L2.St} {H : Hp} (h : te σ H fun x H1 => g x σ H1 fun σ' H' => u D σ' H') : tSeq (tAsg te g) u D σ H := h
theorem merge_app : ∀ {ps acc : Prs}, ((acc ++ ps).map (·.1)).Nodup → (dct ps).foldl (fun acc kv => putK acc kv.1 kv.2) (dct acc) = dct (acc ++ ps)
  | [], acc, _ => by rw [List.append_nil]; rfl
  | p :: ps, acc, h => by
    show (dct ps).foldl (fun acc kv => putK acc kv.1 kv.2) (putK (dct acc) (keyT p.1) (V.int p.2)) = _
    have hn : p.1 ∉ acc.map (·.1) := fun hm => by
      rw [List.map_append, List.nodup_append] at h
      exact h.2.2 _ hm _ (List.mem_map.mpr ⟨p, List.mem_cons_self, rfl⟩) rfl
    have e : acc ++ p :: ps = (acc ++ [(p.1, p.2)]) ++ ps := by rw [List.append_assoc]; rfl
    rw [dct_put, putP_new hn, merge_app (by rw [← e]; exact h), ← e]
theorem merge_dct {ps : Prs} (h : (ps.map (·.1)).Nodup) : mergeT (dct ps) = dct ps := merge_app (ps := ps) (acc := []) h
/-- what the dict holds behind so many of the other's pairs -/
structure Su (ps qs : Prs) (i : Nat) (rs : Prs) : Prop where
  nd : (rs.map (·.1)).Nodup
  get : ∀ t, getP rs t = getP ps t + getP (qs.take i) t
  ok : ∀ p ∈ rs, TermOk p.1
  len : rs.length ≤ ps.length + i
theorem Su.zero {ps qs : Prs} (c : Canon ps) : Su ps qs 0 ps := ⟨c.nodup, fun t => by rw [List.take_zero, getP_nil, Int.add_zero], c.ok, Nat.le_refl _⟩
theorem getP_take {qs : Prs} (nd : (qs.map (·.1)).Nodup) {i : Nat} {t : Term} {n : Int} (h : qs[i]? = some (t, n)) (u : Term) : getP (qs.take (i + 1)) u = getP (qs.take i) u + if t = u then n else 0 := by
  rw [List.take_add_one, h]
  show getP (qs.take i ++ [(t, n)]) u = _
  have hn : ∀ q ∈ qs.take i, q.1 ≠ t := fun q hq z => by
    obtain ⟨m, hm2, e3⟩ := List.mem_take_iff_getElem.mp hq
    have h4 : qs[m]? = some q := by rw [← e3]; exact List.getElem?_eq_getElem _
    have h5 : (qs.map (·.1))[m]? = (qs.map (·.1))[i]? := by
      rw [List.getElem?_map, List.getElem?_map, h4, h]
      show some q.1 = some t
      rw [z]
    have h6 : m < (qs.map (·.1)).length := by rw [List.length_map]; omega
    have h7 := (List.getElem?_inj h6 nd).mp h5
    omega
  rw [getP_app _ _ _ hn]
  by_cases e : t = u
  · rw [if_pos e, if_pos e]
    have : getP (qs.take i) u = 0 := getP_no (e ▸ hn)
    rw [this, Int.zero_add]
  · rw [if_neg e, if_neg e, Int.add_zero]
theorem Su.step {ps qs rs : Prs} {i : Nat} {t : Term} {n : Int} (cq : Canon qs) (h : qs[i]? = some (t, n)) (s : Su ps qs i rs) : Su ps qs (i + 1) (putP rs t (getP rs t + n)) := by
  refine ⟨putP_nodup s.nd _ _, fun u => ?_, fun p hp => ?_, ?_⟩
  · rw [getP_put, getP_take cq.nodup h]
    by_cases e : t = u
    · subst e
      rw [if_pos rfl, if_pos rfl, s.get]
      omega
    · rw [if_neg e, if_neg e, s.get]
      omega
  · rcases putP_mem hp with e | ⟨q, hq, e⟩
    · rw [e]
      exact cq.ok (t, n) (List.mem_of_getElem? h)
    · rw [← e]
      exact s.ok q hq
  · have := putP_len rs t (getP rs t + n)
    have := s.len
    omega
abbrev gP2 (K : PySem.W.Frag) : TG := gTup K 2 (gCons (gName 4) (gCons (gName 5) gNil))
theorem su_for (hr : Room 3 (SX P w K mg base f cdv A outer s H0 E0).A) (hp : PassesOwn (model (SX P w K mg base f cdv A outer s H0 E0).prog (SX P w K mg base f cdv A outer s H0 E0).w) (SX P w K mg base f cdv A outer s H0 E0).A (SX P w K mg base f cdv A outer s H0 E0).env (SX P w K mg base f cdv A outer s H0 E0).xe) : ∃ t, PS (SX P w K mg base f cdv A outer s H0 E0) (stAt suB 3) t ∧ ∀ {x4 x5 x6 : Option V} {p q D : Addr} {ps qs : Prs} {r r2 rr : Int} {H : Hp} {En : Ends}, FT K mg C → FormAt K C H q qs r2 → Canon ps → Canon qs → ps.length + qs.length ≤ 1000 →
      H D = some (.dT (dct ps)) → (∀ y4 y5 H' rs, Su ps qs qs.length rs → H' D = some (.dT (dct rs)) → (∀ c o, c ≠ D → H c = some o → H' c = some o) → En.nx [some (.ref p), some (.ref q), some (.int rr), some (.ref D), y4, y5, x6] H') →
      t En [some (.ref p), some (.ref q), some (.int rr), some (.ref D), x4, x5, x6] H := by
  refine ⟨_, ps_for hp rfl (pi_tup (pe_fld (pv 1) rfl)) (pg_tup rfl (pgs_cons (pg_name (i := 4) scSu.nd rfl (Or.inl rfl)) (pgs_cons (pg_name (i := 5) scSu.nd rfl (Or.inl rfl)) pgs_nil)))
    (pss_one (ps_dput (by exact hu_of hr) (pv 3) (pv 4) (pe_op op_add (pe_dget2 (by exact hu_of hr) (pv 3) (pv 4) pe_int ⟨rfl, rfl, rfl, rfl⟩) (pv 5)) rfl)), ?_⟩
  intro x4 x5 x6 p q D ps qs r r2 rr H En T hq cp cq hl hD k
  obtain ⟨dx, tp, as, ho, ht, pr⟩ := hq.ob
  refine ⟨_, rfl, q, C, dx, _, _, rfl, ho, T.cl, T.nP, flds_pairs _ _, tp, rfl, ⟨_, ht⟩, ?_⟩
  have ln := Paired.length pr
  have nD : ∀ {c : Addr} {l : List V} {H' : Hp} {l2 : List (List Key × V)}, H' D = some (.dT l2) → H' c = some (.tup l) → c ≠ D := fun e1 e2 z => by rw [z, e1] at e2; cases e2
  have kpT : ∀ {a : Addr} {xs : List V} {H' : Hp}, (∀ c o, c ≠ D → H c = some o → H' c = some o) → SqT K H a xs → SqT K H' a xs := fun {a xs H'} kp h => by
    rcases h with (e | ⟨o2, e⟩) | h
    · exact .inl (.inl (kp _ _ (fun z => by rw [z, hD] at e; cases e) e))
    · exact .inl (.inr ⟨o2, kp _ _ (fun z => by rw [z, hD] at e; cases e) e⟩)
    · exact .inr h
  refine for_it (walk_tup (xs := as.map V.ref)) (fun i σ' H' => ∃ y4 y5 rs, σ' = [some (.ref p), some (.ref q), some (.int rr), some (.ref D), y4, y5, x6] ∧ Su ps qs i rs ∧ H' D = some (.dT (dct rs)) ∧ (∀ c o, c ≠ D → H c = some o → H' c = some o)) ⟨_, _, ps, rfl, Su.zero cp, hD, fun _ _ _ e => e⟩
    (fun i σ' H' _ ⟨_, _, _, _, _, _, kp⟩ => kpT kp ht) ?_ ?_
  · rintro i x σ' Hi0 Hi hi ⟨y4, y5, rs, rfl, su, hd, kp⟩ y
    obtain ⟨rfl, hx⟩ := y
    rw [List.getElem?_map] at hx
    obtain ⟨a, ha, rfl⟩ := Option.map_eq_some_iff.mp hx
    obtain ⟨⟨t, n⟩, ht2, b, h1, h2⟩ := pairAtI pr ha
    refine ⟨a, _, rfl, kpT kp h1, rfl, _, _, rfl, _, _, rfl, rfl, ?_⟩
    have hb : Hi b = some (.tup ((keyT t).map kV)) := by
      rw [keyT_kV]
      exact kp _ _ (nD (H' := H) hD h2) h2
    refine ⟨_, rfl, D, rfl, .inr ⟨_, .inl hd⟩, _, rfl, _, DGet.t hd hb, _, rfl, ?_⟩
    refine ⟨_, _, dct_getD _ _, rfl, ?_⟩
    refine ⟨_, rfl, _, rfl, D, _, rfl, DPut.t hd hb ?_, ?_⟩
    · rw [dct_len]
      have := su.len
      rw [List.length_map] at hi
      refine small1000 ?_
      omega
    · refine ⟨_, _, putP rs t (getP rs t + n), rfl, su.step cq ht2, ?_, fun c o hc e => ?_⟩
      · rw [upd_same, dct_put]
      · rw [upd_ne hc]
        exact kp c o hc e
  · rintro σ' H' ⟨y4, y5, rs, rfl, su, hd, kp⟩
    rw [List.length_map, ln] at su
    exact k y4 y5 H' rs su hd kp
theorem dct_hit {rs : Prs} {t : Term} (h : t ∈ rs.map (·.1)) : valV (dct rs) (keyT t) = some (V.int (getP rs t)) := by
  have e := dct_getD rs t
  have s := dct_some rs t
  rw [decide_eq_true h] at s
  cases q : valV (dct rs) (keyT t) with
  | none => rw [q] at s; cases s
  | some v =>
    rw [q] at e
    exact congrArg some e
theorem getP_in {rs : Prs} {t : Term} (h : getP rs t ≠ 0) : t ∈ rs.map (·.1) := Classical.byContradiction fun n => h (getP_no fun p hp e => n (List.mem_map.mpr ⟨p, hp, e⟩))
abbrev nzT (rs : Prs) (i : Nat) : List Term := ((rs.map (·.1)).take i).filter fun t => decide (getP rs t ≠ 0)
theorem su_terms (hr : Room 3 (SX P w K mg base f cdv A outer s H0 E0).A) (gs : mg "sorted" = none) (gR : mg "_rank" = some (.ref fR)) (GR : FnOk P w K mg base CX0 1 fR fdR ["term"] (spRank K)) (bR : Binds K fdR ["term"] []) :
    ∃ t, PS (SX P w K mg base f cdv A outer s H0 E0) (stAt suB 4) t ∧ ∀ {x0 x1 x2 x4 x5 x6 : Option V} {D : Addr} {rs : Prs} {H : Hp} {En : Ends}, H D = some (.dT (dct rs)) → (rs.map (·.1)).Nodup → (∀ p ∈ rs, TermOk p.1) → rs.length ≤ 1000 →
      (∀ l H' vs ts, Same H H' → H l = none → H' l = some (.lst vs) → Paired (TV H') vs ts → ts.Pairwise (fun t u => rkLt t u = true) → (∀ t, t ∈ ts ↔ getP rs t ≠ 0) → ts.length ≤ rs.length → En.nx [x0, x1, x2, some (.ref D), x4, x5, some (.ref l)] H') →
      t En [x0, x1, x2, some (.ref D), x4, x5, x6] H := by
  refine ⟨_, ps_set (i := 6) scSu.nd rfl (.inl rfl) (pe_callBK (cr_sortedKeyD (X := SX P w K mg base f cdv A outer s H0 E0) GR bR hr) (by rfl) gs (by decide +kernel)
    (pa_cons (pe_lock (pe_lc (own := [("term", 4)]) (g := gName 4) rfl scSu.nd (pi_keys (pv 3)) (blkOk_by (N := nSum) (sc := defScope sSum) (by decide +kernel)) (fun _ _ _ _ _ => pg_name (i := 4) scSu.nd rfl (Or.inl rfl)) (fun _ _ _ _ _ => pts_one (pt_cmp (pc_neI (pe_dget (by exact hu_of hr) (pv 3) (pv 4) (fun _ _ => rfl)) pe_int))) (fun _ _ _ _ _ => pv 4))) pa_nil)
    (pk_cons (pe_glob (v := .ref fR) rfl gR rfl) pk_nil)), ?_⟩
  intro x0 x1 x2 x4 x5 x6 D rs H En hD nd0 ok hl k
  refine ⟨D, _, hD, True.intro, fun od => ?_⟩
  refine ⟨_, rfl, D, od, rfl, .inr ⟨_, upd_same, fun R hR => ?_⟩⟩
  obtain ⟨neR, hR0⟩ := upd_nn hR
  refine lc_it walk_keysT (fun i H' => Same (upd H D (.frz od (.dT (dct rs)))) H' ∧ ∃ vs, H' R = some (.lst vs) ∧ Paired (TV H') vs (nzT rs i)) ⟨same_new hR, [], upd_same, .nil⟩ (fun i H' _ q => q.1 _ _ upd_same) ?_ ?_
  · rintro i x Hi0 Hi hi ⟨sm, vs, hv, pr⟩ ⟨rfl, ky, v, q, hk, rfl, hq⟩
    refine ⟨rfl, ?_⟩
    have hk2 : ∃ p : Term × Int, rs[i]? = some p ∧ ky = keyT p.1 := by
      unfold dct at hk
      rw [List.getElem?_map] at hk
      obtain ⟨p, hp, e⟩ := Option.map_eq_some_iff.mp hk
      exact ⟨p, hp, (Prod.mk.inj e).1.symm⟩
    obtain ⟨p, hp, rfl⟩ := hk2
    have hm : p.1 ∈ rs.map (·.1) := List.mem_map.mpr ⟨p, List.mem_of_getElem? hp, rfl⟩
    have step : nzT rs (i + 1) = nzT rs i ++ (if decide (getP rs p.1 ≠ 0) = true then [p.1] else []) := by
      unfold nzT
      rw [List.take_add_one, List.getElem?_map, hp, List.filter_append]
      congr 1
      show List.filter _ [p.1] = _
      rw [List.filter_cons]
      rfl
    refine ⟨_, rfl, _, rfl, D, _, rfl, .inr ⟨_, _, q, .inr ⟨od, sm _ _ upd_same⟩, rfl, hq, (dct_hit hm).symm⟩, _, 0, rfl, rfl, _, rfl, ?_⟩
    by_cases z : getP rs p.1 = 0
    · refine ifF (by simp [z]) ?_
      refine ⟨sm, vs, hv, ?_⟩
      rw [step, if_neg (by simp [z]), List.append_nil]
      exact pr
    · refine ifT (by simp [z]) ?_
      refine ⟨_, rfl, vs, hv, ?_, same_put sm hR, vs ++ [.ref q], upd_same, ?_⟩
      · have e := paired_n pr
        rw [e]
        refine small1000 ?_
        have := List.length_filter_le (fun t => decide (getP rs t ≠ 0)) ((rs.map (·.1)).take i)
        have h3 := List.length_take_le i (rs.map (·.1))
        have hi2 : i < rs.length := by rw [dct_len] at hi; exact hi
        show (nzT rs i).length ≤ 1000
        unfold nzT
        omega
      · have kp : ∀ c o, Hi c = some o → c ≠ R → upd Hi R (.lst (vs ++ [.ref q])) c = some o := fun c o e n => by rw [upd_ne n]; exact e
        have nR : ∀ c l, Hi c = some (.tup l) → c ≠ R := fun c l e z => by rw [z, hv] at e; cases e
        rw [step, if_pos (by simp [z])]
        refine tv_app (L2.Paired.mapP pr fun _ _ ⟨b, e, g⟩ => ⟨b, e, kp _ _ g (nR _ _ g)⟩) (.cons ⟨q, rfl, ?_⟩ .nil)
        rw [← keyT_kV]
        exact kp _ _ hq (nR _ _ hq)
  · rintro H2 ⟨sm, xs, hv, pr⟩
    refine ⟨sm _ _ upd_same, ?_⟩
    have nR2 : R ≠ D := neR
    have sG : Same H (upd H2 D (.dT (dct rs))) := fun c o e => by
      by_cases z : c = D
      · rw [z, hD] at e
        cases e
        rw [z, upd_same]
      · rw [upd_ne z]
        exact sm c o (by rw [upd_ne z]; exact e)
    have hL : upd H2 D (.dT (dct rs)) R = some (.lst xs) := by rw [upd_ne nR2]; exact hv
    have paG : Paired (TV (upd H2 D (.dT (dct rs)))) xs (nzT rs rs.length) := by
      rw [dct_len] at pr
      refine L2.Paired.mapP pr fun _ _ ⟨b, e, g⟩ => ⟨b, e, ?_⟩
      rw [upd_ne]
      · exact g
      · intro z
        have e2 := sm _ _ (upd_same (a := D) (o := .frz od (.dT (dct rs))) (H := H))
        rw [z, e2] at g
        cases g
    generalize upd H2 D (.dT (dct rs)) = G at sG hL paG ⊢
    obtain ⟨ts0, ets⟩ : ∃ ts0, ts0 = nzT rs rs.length := ⟨_, rfl⟩
    have eall : nzT rs rs.length = (rs.map (·.1)).filter fun t => decide (getP rs t ≠ 0) := by
      unfold nzT
      rw [List.take_of_length_le (by rw [List.length_map]; exact Nat.le_refl _)]
    have nd : ts0.Nodup := by rw [ets, eall]; exact nd0.filter _
    have okm : ∀ t, t ∈ ts0 ↔ getP rs t ≠ 0 := fun t => by
      rw [ets, eall, List.mem_filter]
      exact ⟨fun h => of_decide_eq_true h.2, fun h => ⟨getP_in h, decide_eq_true h⟩⟩
    have okT2 : ∀ t, t ∈ ts0 → TermOk t := fun t ht => by
      obtain ⟨p, hp, rfl⟩ := List.mem_map.mp (getP_in ((okm t).mp ht))
      exact ok p hp
    have ln2 : ts0.length ≤ rs.length := by
      rw [ets, eall]
      refine Nat.le_trans (List.length_filter_le _ _) ?_
      rw [List.length_map]
      exact Nat.le_refl _
    rw [← ets] at paG
    obtain ⟨tv, et⟩ := tv_all paG
    have mem : ∀ x ∈ xs, tOf G x ∈ ts0 := fun x hx => by rw [← et]; exact List.mem_map.mpr ⟨x, hx, rfl⟩
    refine ⟨R, xs, fun x => rk (tOf G x), [2], rfl, rfl, SqL.of hL, fun x hx => ?_, fun x hx => rfl, fun x hx H' sm Q' k3 => ?_, fun ys p H' sm srt stb hp hp0 => ?_⟩
    · obtain ⟨b, e, _⟩ := tv x hx
      exact ⟨b, e⟩
    · obtain ⟨b, e, g⟩ := tv x hx
      refine ⟨b, tOf G x, by rw [e], sm _ _ g, okT2 _ (mem x hx), fun p hp => k3 (.ref p) _ (same_new hp) ?_⟩
      exact ⟨p, _, rfl, .inl (.inl upd_same), .cons rfl (.cons ⟨b, rfl, .inl (.inl (same_new hp _ _ (sm _ _ g)))⟩ .nil)⟩
    · have sm2 : Same G (upd H' p (.lst ys)) := sm.trans (same_new hp)
      refine k p _ ys (ys.map (tOf G)) (sG.trans sm2) ?_ upd_same (tv_pairF fun y hy => ((tv y (stb.perm.mem_iff.mp hy)).same sm2)) ?_ ?_ ?_
      · cases e : H p with
        | none => rfl
        | some o =>
          have := sG _ _ e
          rw [hp0] at this
          cases this
      · have nd2 : (ys.map (tOf G)).Nodup := by
          refine ((stb.perm.map (tOf G)).nodup_iff).mpr ?_
          rw [et]
          exact nd
        rw [List.pairwise_map]
        have nd3 : ys.Pairwise fun x y => tOf G x ≠ tOf G y := List.pairwise_map.mp nd2
        refine (srt.and nd3).imp ?_
        rintro a b ⟨g1, g2⟩
        rcases rkLt_tri g2 with h | h
        · exact h
        · have g3 : rkLt (tOf G b) (tOf G a) = false := g1
          rw [g3] at h
          cases h
      · intro t
        rw [← okm t, ← et]
        exact (stb.perm.map (tOf G)).mem_iff
      · rw [List.length_map, stb.perm.length_eq]
        rw [← et, List.length_map] at ln2
        exact ln2
theorem su_ret {fI : Addr} {fdI : FuncData} (hr : Room 3 (SX P w K mg base f cdv A outer s H0 E0).A) (T : FT K mg C) (M : Mk K C fI) (GI : FnOk P w K mg base CX0 1 fI fdI ["self", "pairs", "rest"] (spFInit K C)) (bI : Binds K fdI ["self", "pairs", "rest"] []) :
    ∃ t, PS (SX P w K mg base f cdv A outer s H0 E0) (stAt suB 5) t ∧ ∀ {x0 x1 x4 x5 : Option V} {D l : Addr} {rr : Int} {rs : Prs} {ts : List Term} {vs : List V} {H : Hp} {En : Ends}, H D = some (.dT (dct rs)) → H l = some (.lst vs) → Paired (TV H) vs ts → ts.length ≤ 1000 → (∀ t ∈ ts, t ∈ rs.map (·.1)) →
      (∀ x H', Same H H' → H x = none → FormAt K C H' x (ts.map fun t => (t, getP rs t)) rr → En.rt (.ref x) H') → t En [x0, x1, some (.int rr), some (.ref D), x4, x5, some (.ref l)] H := by
  refine ⟨_, ps_ret (pe_make M GI (hr.mono (by decide)) (by rfl) T.gF bI .nil pass0 (pa_cons (pe_lc (own := [("term", 4)]) (g := gName 4) (tt := tYes) rfl scSu.nd (pi_list (pv 6)) (blkOk_by (N := nSum) (sc := defScope sSum) (by decide +kernel)) (fun _ _ _ _ _ => pg_name (i := 4) scSu.nd rfl (Or.inl rfl)) (fun _ _ _ _ _ => pts_nil)
    (fun _ _ _ _ _ => pe_tup (pa_cons (pv 4) (pa_cons (pe_dget (by exact hu_of hr) (pv 3) (pv 4) (fun _ _ => rfl)) pa_nil)))) (pa_cons (pv 2) pa_nil))), ?_⟩
  intro x0 x1 x4 x5 D l rr rs ts vs H En hD hL pt hl hin k
  refine ⟨_, rfl, l, rfl, ⟨vs, SqL.of hL⟩, fun R hR => ?_⟩
  have ln := paired_n pt
  refine lc_it (walk_list (xs := vs)) (fun i H' => Same H H' ∧ ∃ xs, H' R = some (.lst xs) ∧ Paired (PR K H') xs ((ts.take i).map fun t => (t, getP rs t))) ⟨same_new hR, [], upd_same, .nil⟩ (fun i H' _ q => SqL.of (q.1 _ _ hL)) ?_ ?_
  · rintro i x Hi0 Hi hi ⟨sm, xs, hv, pr⟩ ⟨rfl, hx⟩
    obtain ⟨t, ht, b, rfl, hb⟩ := pairAtI pt hx
    refine ⟨rfl, ?_⟩
    unfold tYes
    refine iteT ?_
    have hb2 : Hi b = some (.tup ((keyT t).map kV)) := by rw [keyT_kV]; exact sm _ _ hb
    refine ⟨_, rfl, _, rfl, _, rfl, D, _, rfl, .inr ⟨_, _, b, .inl (sm _ _ hD), rfl, hb2, (dct_hit (hin t (List.mem_of_getElem? ht))).symm⟩, ?_⟩
    refine ⟨(by show 2 ≤ sizeLine; decide), fun q hq => ?_⟩
    have nq : R ≠ q := ne_of_none hv hq
    have hv2 : upd Hi q (.tup [V.ref b, V.int (getP rs t)]) R = some (.lst xs) := by rw [upd_ne nq]; exact hv
    have sm2 := same_new (o := .tup [V.ref b, V.int (getP rs t)]) hq
    refine ⟨xs, hv2, ?_, same_put (sm.trans sm2) hR, _, upd_same, ?_⟩
    · have e := paired_n pr
      rw [List.length_map] at e
      have := List.length_take_le' i ts
      exact small1000 (by omega)
    · rw [List.take_add_one, ht, List.map_append]
      refine pr_app (pr_put hv2 (pr_same sm2 pr)) (.cons ⟨q, rfl, b, sqT_put hv2 (.inl (.inl upd_same)), tm_put hv2 ?_⟩ .nil)
      exact (sm.trans sm2) _ _ hb
  · rintro H2 ⟨sm, xs, hv, pr⟩
    rw [ln, List.take_length] at pr
    refine ⟨_, rfl, ?_⟩
    intro x dx3 hx hdx hne
    obtain ⟨as3, e3, p3⟩ := pr_refs pr
    refine made_form (SqL.of hv) hx hdx hne fun tp3 H3 s3 h1 h2 => k x H3 (sm.trans s3) (sm.free hx) ⟨dx3, tp3, as3, h2, by rw [← e3]; exact h1, L2.Paired.mapP p3 fun _ _ g => g.same s3⟩
theorem sort_mkP (ts : List Term) (g : Term → Int) (h : ∀ t ∈ ts, g t ≠ 0) : mkP ts g = ts.map fun t => (t, g t) := by
  unfold mkP
  rw [List.filter_eq_self]
  intro p hp
  obtain ⟨t, ht, rfl⟩ := List.mem_map.mp hp
  exact decide_eq_true (h t ht)
/-- Form(tuple, rest) -/
theorem made_formT {H : Hp} {l : Addr} {xs : List V} {r : Int} {x dx : Addr} {Q : VK} {E : XK} (hl : SqT K H l xs) (hx : H x = none) (hdx : H dx = none) (hne : dx ≠ x) (k : ∀ H', Same H H' → H' x = some (.ins C dx (flds l r)) → Q (.ref x) H') :
    spFInitT K C (.ref x :: [.ref l, .int r]) (upd (upd H dx (.own x)) x (.ins C dx [])) (fun v H3 => v = .non ∧ Q (.ref x) H3) E := by
  have hl2 : SqT K (upd (upd H dx (.own x)) x (.ins C dx [])) l xs := same_sqT (show Same H (upd (upd H dx (.own x)) x (.ins C dx [])) from (same_new hdx).trans (same_new (by rw [upd_ne (Ne.symm hne)]; exact hx))) hl
  refine ⟨x, dx, l, xs, r, rfl, upd_same, hl2, fun H' h1 keep => ⟨rfl, k H' (fun b o e => ?_) h1⟩⟩
  have b1 : b ≠ x := ne_of_none e hx
  have b2 : b ≠ dx := ne_of_none e hdx
  exact keep b o (by rw [upd_ne b1, upd_ne b2]; exact e) b1
theorem su_if {fI : Addr} {fdI : FuncData} (hr : Room 3 (SX P w K mg base f cdv A outer s H0 E0).A) (T : FT K mg C) (M : Mk K C fI) (GT : FnOk P w K mg base CX0 1 fI fdI ["self", "pairs", "rest"] (spFInitT K C)) (bI : Binds K fdI ["self", "pairs", "rest"] []) :
    ∃ t, PS (SX P w K mg base f cdv A outer s H0 E0) (stAt suB 1) t ∧ ∀ {p q : Addr} {ps qs : Prs} {r r2 rr : Int} {H : Hp} {En : Ends}, FormAt K C H p ps r → FormAt K C H q qs r2 →
      ((ps ≠ [] → qs ≠ [] → En.nx [some (.ref p), some (.ref q), some (.int rr), none, none, none, none] H) ∧ ∀ zs, (ps = [] ∧ zs = qs ∨ qs = [] ∧ zs = ps) → ∀ x H', Same H H' → H x = none → FormAt K C H' x zs rr → En.rt (.ref x) H') →
      t En [some (.ref p), some (.ref q), some (.int rr), none, none, none, none] H := by
  refine ⟨_, ps_if (PW.pt (pw_or (pt_not (pt_truth (pe_fld (pv 0) rfl) (by intro _; rfl))) (pw_or1 (pt_not (pt_truth (pe_fld (pv 1) rfl) (by intro _; rfl))))))
    (pss_one (ps_ret (pe_make M GT (hr.mono (by decide)) (by rfl) T.gF bI .nil pass0 (pa_cons (pe_orT (pe_fld (pv 0) rfl) (pe_one (pe_fld (pv 1) rfl))) (pa_cons (pv 2) pa_nil))))) pss_nil, ?_⟩
  intro p q ps qs r r2 rr H En hp hq ⟨kn, kr⟩
  obtain ⟨dx, tp, as, ho, ht0, pr⟩ := hp.ob0
  have ht : SqT K H tp (as.map V.ref) := ht0.sq
  obtain ⟨dy, tq, bs, go, gt0, qr⟩ := hq.ob0
  have gt : SqT K H tq (bs.map V.ref) := gt0.sq
  have la := paired_n pr
  have lb := paired_n qr
  have out : ∀ {zs : Prs} {tz : Addr} {cs : List Addr}, (ps = [] ∧ zs = qs ∨ qs = [] ∧ zs = ps) → TpN H tz (cs.map V.ref) → Paired (PairAt K H) cs zs → ∀ x dx3 : Addr, H x = none → H dx3 = none → dx3 ≠ x →
      spFInitT K C (.ref x :: [.ref tz, .int rr]) (upd (upd H dx3 (.own x)) x (.ins C dx3 [])) (fun v H3 => v = .non ∧ En.rt (.ref x) H3) E0 := fun {zs tz cs} hz hs pz x dx3 hx hdx hne =>
    made_formT hs.sq hx hdx hne fun H3 s3 h2 => kr zs hz x H3 s3 hx ⟨dx3, tz, cs, h2, hs.same s3, L2.Paired.mapP pz fun _ _ g => g.same s3⟩
  refine ⟨_, rfl, p, C, dx, _, _, rfl, ho, T.cl, T.nP, flds_pairs _ _, !(as.map V.ref).isEmpty, .inr (.inl ⟨_, ht, rfl⟩), ?_⟩
  by_cases hne : ps = []
  · have ea : as = [] := List.length_eq_zero_iff.mp (by rw [la, hne]; rfl)
    subst ea
    refine iteT ?_
    refine iteT ?_
    refine ⟨_, rfl, p, C, dx, _, _, rfl, ho, T.cl, T.nP, flds_pairs _ _, false, .inr (.inl ⟨_, ht, rfl⟩), ?_⟩
    refine iteF ?_
    refine ⟨_, rfl, q, C, dy, _, _, rfl, go, T.cl, T.nP, flds_pairs _ _, _, rfl, ?_⟩
    exact fun x dx3 hx hdx hne2 => out (.inl ⟨hne, rfl⟩) gt0 qr x dx3 hx hdx hne2
  · have ea : (as.map V.ref).isEmpty = false := by
      cases as with
      | nil => exact absurd (List.length_eq_zero_iff.mp la.symm) hne
      | cons _ _ => rfl
    refine ifF (by rw [ea]; rfl) ?_
    refine ⟨_, rfl, q, C, dy, _, _, rfl, go, T.cl, T.nP, flds_pairs _ _, !(bs.map V.ref).isEmpty, .inr (.inl ⟨_, gt, rfl⟩), ?_⟩
    by_cases hnf : qs = []
    · have eb : bs = [] := List.length_eq_zero_iff.mp (by rw [lb, hnf]; rfl)
      subst eb
      refine iteT ?_
      refine ⟨_, rfl, p, C, dx, _, _, rfl, ho, T.cl, T.nP, flds_pairs _ _, !(as.map V.ref).isEmpty, .inr (.inl ⟨_, ht, rfl⟩), ?_⟩
      refine ifT (by rw [ea]; rfl) ?_
      refine ⟨_, rfl, ?_⟩
      exact fun x dx3 hx hdx hne2 => out (.inr ⟨hnf, rfl⟩) ht0 pr x dx3 hx hdx hne2
    · have eb : (bs.map V.ref).isEmpty = false := by
        cases bs with
        | nil => exact absurd (List.length_eq_zero_iff.mp lb.symm) hnf
        | cons _ _ => rfl
      refine ifF (by rw [eb]; rfl) ?_
      exact kn hne hnf
theorem suB_eq : suB = [stAt suB 0, stAt suB 1, stAt suB 2, stAt suB 3, stAt suB 4, stAt suB 5] := rfl
theorem dct_prs {K : PySem.W.Frag} {H : Hp} : ∀ {as : List Addr} {ps : Prs}, Paired (PairAt K H) as ps → Paired (fun p kv => ∃ b, SqT K H p [.ref b, kv.2] ∧ H b = some (.tup (kv.1.map kV))) as (dct ps)
  | _, _, .nil => .nil
  | _, _, .cons (b := p) ⟨b, h1, h2⟩ r => .cons ⟨b, h1, by rw [keyT_kV]; exact h2⟩ (dct_prs r)
theorem ok_sum {fI : Addr} {fd fdI : FuncData} (F : Fun K "_sum" "_sum" sSum f fd) (T : FT K mg C) (M : Mk K C fI) (GI : FnOk P w K mg base CX0 1 fI fdI ["self", "pairs", "rest"] (spFInit K C)) (bI : Binds K fdI ["self", "pairs", "rest"] [])
    (GT : FnOk P w K mg base CX0 1 fI fdI ["self", "pairs", "rest"] (spFInitT K C)) (gd : mg "dict" = none) (gs : mg "sorted" = none) (gR : mg "_rank" = some (.ref fR)) (GR : FnOk P w K mg base CX0 1 fR fdR ["term"] (spRank K)) (bR : Binds K fdR ["term"] []) : FnOk P w K mg base CX0 4 f fd ["one", "other"] (spSum K C) := by
  refine F.ok scSu (fun vs H Q E h => ?_) (fun cdv A outer s H vs Q E hr h => ?_)
  · obtain ⟨p, q, ps, qs, r, r2, rfl, _⟩ := h
    rfl
  · obtain ⟨p, q, ps, qs, r, r2, rfl, hp, hq, cp, cq, hl, k⟩ := h
    have hr3 : Room 3 (SX P w K mg base f cdv A outer s H E).A := hr
    obtain ⟨t1, p1, k1⟩ := su_if (cdv := cdv) (outer := outer) (s := s) (H0 := H) (E0 := E) hr3 T M GT bI
    obtain ⟨t3, p3, k3⟩ := su_for (C := C) (cdv := cdv) (outer := outer) (s := s) (H0 := H) (E0 := E) hr3 PassesOwn.never
    obtain ⟨t4, p4, k4⟩ := su_terms (cdv := cdv) (outer := outer) (s := s) (H0 := H) (E0 := E) hr3 gs gR GR bR
    obtain ⟨t5, p5, k5⟩ := su_ret (cdv := cdv) (outer := outer) (s := s) (H0 := H) (E0 := E) hr3 T M GI bI
    have p0 : PS (SX P w K mg base f cdv A outer s H E) (stAt suB 0) _ := ps_set (i := 2) scSu.nd rfl (.inl rfl) (pe_op op_add (pe_fld (pv 0) rfl) (pe_fld (pv 1) rfl))
    have p2 : PS (SX P w K mg base f cdv A outer s H E) (stAt suB 2) _ := ps_set (i := 3) scSu.nd rfl (.inr rfl) (pe_callTy (call_dictTT (k := 1) rfl hr3) (by rfl) gd (by decide +kernel) (pa_cons (pe_fld (pv 0) rfl) pa_nil))
    refine ⟨_, by rw [show defBody sSum = suB from rfl, suB_eq]; exact pss_cons p0 (pss_cons p1 (pss_cons p2 (pss_cons p3 (pss_cons p4 (pss_one p5))))), ?_⟩
    obtain ⟨dx, tp, as, ho, ht, pr⟩ := hp.ob0
    obtain ⟨dy, tq, bs, go, gt, qr⟩ := hq.ob
    refine ⟨_, rfl, p, C, dx, _, _, rfl, ho, T.cl, T.nR, flds_rest _ _, _, rfl, q, C, dy, _, _, rfl, go, T.cl, T.nR, flds_rest _ _, _, _, rfl, rfl, ?_⟩
    refine k1 (rr := r + r2) hp hq ⟨fun n1 n2 => ?_, fun zs hz x H' sm nx hf => ?_⟩
    rotate_left
    · refine k x H' zs sm nx hf ?_ ?_ ?_
      · rcases hz with ⟨_, e⟩ | ⟨_, e⟩
        · rw [e]; exact cq
        · rw [e]; exact cp
      · intro t
        rcases hz with ⟨e0, e⟩ | ⟨e0, e⟩
        · rw [e, e0, getP_nil, Int.zero_add]
        · rw [e, e0, getP_nil, Int.add_zero]
      · rcases hz with ⟨_, e⟩ | ⟨_, e⟩ <;> rw [e] <;> omega
    refine ⟨_, rfl, p, C, dx, _, _, rfl, ho, T.cl, T.nP, flds_pairs _ _, tp, as, dct ps, rfl, ht, dct_prs pr, fun D hD => ?_⟩
    rw [merge_dct cp.nodup]
    have s1 := same_new (o := .dT (dct ps)) hD
    refine k3 (r := 0) T (hq.same s1) cp cq hl upd_same fun y4 y5 H2 rs su hd kp => ?_
    have s2 : Same H H2 := fun c o e => kp c o (fun z => by rw [z, hD] at e; cases e) (s1 c o e)
    have lrs := su.len
    refine k4 hd su.nd su.ok (by omega) fun l H3 vs ts s3 n3 hL pt srt hm hz => ?_
    have nzt : ∀ t ∈ ts, getP rs t ≠ 0 := fun t h => (hm t).mp h
    refine k5 (s3 _ _ hd) hL pt (by omega) (fun t h => getP_in (nzt t h)) fun x H4 s4 n4 hf => ?_
    have nd : ts.Nodup := srt.imp fun {a b} h e => by rw [e, rkLt_irr] at h; cases h
    rw [← sort_mkP ts _ nzt] at hf
    have eq : ∀ t, getP rs t = getP ps t + getP qs t := fun t => by
      have := su.get t
      rwa [List.take_length] at this
    refine k x H4 _ (s2.trans (s3.trans s4)) (s2.free (s3.free n4)) hf (mkP_canon srt fun t ht => ?_) (fun t => ?_) (Nat.le_trans (mkP_len _ _) (by omega))
    · obtain ⟨p2, hp2, rfl⟩ := List.mem_map.mp (getP_in (nzt t ht))
      exact su.ok p2 hp2
    · rw [mkP_get nd (fun u hu => Classical.byContradiction fun z => hu ((hm u).mpr z)) t]
      exact eq t
end
end Mv
/-! _times -/
namespace Mv
open PySem PySem.Spec PyProof.Rows L2
def tmP (ps : Prs) (f : Int) : Prs := (ps.filter fun _ => decide (f ≠ 0)).map fun p => (p.1, p.2 * f)
theorem tmP_app (ps qs : Prs) (f : Int) : tmP (ps ++ qs) f = tmP ps f ++ tmP qs f := by
  unfold tmP
  rw [List.filter_append, List.map_append]
theorem tmP_zero (ps : Prs) : tmP ps 0 = [] := by
  unfold tmP
  rw [List.filter_eq_nil_iff.mpr]
  · rfl
  · intro a _ h
    simp at h
theorem tmP_nz (ps : Prs) {f : Int} (h : f ≠ 0) : tmP ps f = ps.map fun p => (p.1, p.2 * f) := by
  unfold tmP
  rw [List.filter_eq_self.mpr]
  intro a _
  exact decide_eq_true h
theorem tmP_len (ps : Prs) (f : Int) : (tmP ps f).length ≤ ps.length := by
  unfold tmP
  rw [List.length_map]
  exact List.length_filter_le _ _
theorem tmP_canon {ps : Prs} (c : Canon ps) (f : Int) : Canon (tmP ps f) := by
  by_cases h : f = 0
  · rw [h, tmP_zero]
    exact Canon.nil
  · rw [tmP_nz ps h]
    refine ⟨List.pairwise_map.mpr (c.srt.imp fun {a b} z => z), fun p hp => ?_, fun p hp => ?_⟩
    · obtain ⟨q, hq, rfl⟩ := List.mem_map.mp hp
      exact Int.mul_ne_zero (c.nz q hq) h
    · obtain ⟨q, hq, rfl⟩ := List.mem_map.mp hp
      exact c.ok q hq
theorem getP_map (ps : Prs) (f : Int) (t : Term) : getP (ps.map fun p => (p.1, p.2 * f)) t = getP ps t * f := by
  induction ps with
  | nil => rw [List.map_nil, getP_nil, Int.zero_mul]
  | cons p ps ih =>
    rw [List.map_cons]
    by_cases h : p.1 = t
    · rw [getP_pos (p := (p.1, p.2 * f)) h, getP_pos h]
    · rw [getP_neg (p := (p.1, p.2 * f)) h, getP_neg h, ih]
theorem tmP_get (ps : Prs) (f : Int) (t : Term) : getP (tmP ps f) t = getP ps t * f := by
  by_cases h : f = 0
  · rw [h, tmP_zero, getP_nil, Int.mul_zero]
  · rw [tmP_nz ps h, getP_map]
def spTimes (K : PySem.W.Frag) (C CF : Addr) : Sp := fun vs H Q E => ∃ p ps r x, vs = [.ref p, x] ∧ FormAt K C H p ps r ∧ ps.length ≤ 1000 ∧
  ((∃ f, x = .int f ∧ (∀ q ∈ ps, CMul q.2 f) ∧ CMul r f ∧ ∀ y H', Same H H' → H y = none → FormAt K C H' y (tmP ps f) (r * f) → Q (.ref y) H') ∨
   (KnI K H x false ∧ ∀ d, H d = none → E (.ref CF) (some d) (upd H d (.xd [(("thing" : Str), x)]))))
abbrev nTm : List Str := ["form", "factor", "pairs", "term", "integer"]
theorem scTm : FnScope nTm ["form", "factor"] (defScope sTimes) := ⟨rfl, rfl, rfl, by decide +kernel, rfl, by decide +kernel, by decide +kernel⟩
section
variable {P : Program} {w : World} {K : PySem.W.Frag} {mg : Str → Option Value} {base : Heap} {C CB CF : Addr}
theorem ok_times {f fI fi : Addr} {fd fdI fdi : FuncData} (F : Fun K "_times" "_times" sTimes f fd) (T : FT K mg C) (M : Mk K C fI) (GI : FnOk P w K mg base CX0 1 fI fdI ["self", "pairs", "rest"] (spFInit K C)) (bI : Binds K fdI ["self", "pairs", "rest"] [])
    (gi : mg "is_integer" = some (.ref fi)) (ki : PySem.W.keepIn K (.ref fi) = true) (Gi : FnOk P w K mg base CX0 1 fi fdi ["thing"] (spIsInt K)) (bi : Binds K fdi ["thing"] []) (TF : Err P w K mg base "BadForm" CF "thing") : FnOk P w K mg base (L2.CX P w) 4 f fd ["form", "factor"] (spTimes K C CF) := by
  refine F.okX scTm (fun vs H Q E h => ?_) (fun cdv A outer s H vs Q E hr h => ?_)
  · obtain ⟨p, ps, r, x, rfl, _⟩ := h
    rfl
  · obtain ⟨p, ps, r, x, rfl, hp, hl, h⟩ := h
    refine ⟨_, pss_cons (ps_if (pt_not (pt_val (pe_call Gi (hr.mono (by decide)) rfl gi ki bi .nil pass0 (pa_cons (pv 1) pa_nil)))) (pss_one (ps_raiseErr rfl TF hr (takes_of rfl rfl rfl rfl) rfl (pv 1))) pss_nil)
      (pss_cons (ps_setLc (i := 2) (own := [("term", 3), ("integer", 4)]) (g := gTup K 2 (gCons (gName 3) (gCons (gName 4) gNil))) rfl scTm.nd rfl rfl rfl (pi_tup (pe_fld (pv 0) rfl)) (blkOk_by (N := nTm) (sc := defScope sTimes) (by decide +kernel))
        (fun _ _ _ _ _ => pg_tup rfl (pgs_cons (pg_name (i := 3) scTm.nd rfl (Or.inl rfl)) (pgs_cons (pg_name (i := 4) scTm.nd rfl (Or.inl rfl)) pgs_nil))) (fun _ _ _ _ _ => pts_one (pt_cmp (pc_neI (pv 1) pe_int)))
        (fun _ _ _ _ _ => pe_tup (pa_cons (pv 3) (pa_cons (pe_op op_mul (pv 4) (pv 1)) pa_nil))))
      (pss_one (ps_ret (pe_make M GI (hr.mono (by decide)) (by rfl) T.gF bI .nil pass0 (pa_cons (pv 2) (pa_cons (pe_op op_mul (pe_fld (pv 0) rfl) (pv 1)) pa_nil)))))), ?_⟩
    rcases h with ⟨f, rfl, cm, cr, k⟩ | ⟨hi, k⟩
    · refine ⟨_, rfl, _, true, rfl, .int f, _, rfl, ?_⟩
      refine iteF ?_
      obtain ⟨dx, tp, as, ho, ht, pr⟩ := hp.ob
      refine ⟨_, rfl, p, C, dx, _, _, rfl, ho, T.cl, T.nP, flds_pairs _ _, tp, rfl, ⟨_, ht⟩, fun R hR => ?_⟩
      have lens : as.length = ps.length := paired_n pr
      refine lc_it (walk_tup (xs := as.map V.ref)) (fun i H' => Same H H' ∧ ∃ xs, H' R = some (.lst xs) ∧ Paired (PR K H') xs (tmP (ps.take i) f)) ⟨same_new hR, [], upd_same, .nil⟩ (fun i H' _ q => same_sqT q.1 ht) ?_ ?_
      · rintro i x Hi0 Hi hi ⟨sm, xs, hv, pz⟩ ⟨rfl, hx⟩
        rw [List.getElem?_map] at hx
        obtain ⟨a, ha, rfl⟩ := Option.map_eq_some_iff.mp hx
        obtain ⟨⟨t, n⟩, ht2, b, h1, h2⟩ := pairAtI pr ha
        refine ⟨a, _, rfl, same_sqT sm h1, rfl, _, _, rfl, _, _, rfl, rfl, rfl, ?_⟩
        have st : tmP (ps.take (i + 1)) f = tmP (ps.take i) f ++ tmP [(t, n)] f := by
          rw [List.take_add_one, ht2, tmP_app]
          rfl
        refine ⟨_, rfl, f, 0, rfl, rfl, _, rfl, ?_⟩
        by_cases z : f = 0
        · refine ifF (by simp [z]) ?_
          refine ⟨sm, xs, hv, ?_⟩
          rw [st, z, tmP_zero [(t, n)], List.append_nil, ← z]
          exact pz
        · refine ifT (by simp [z]) ?_
          refine ⟨_, rfl, _, rfl, _, rfl, n, f, rfl, rfl, cm _ (List.mem_of_getElem? ht2), ?_⟩
          refine ⟨(by show 2 ≤ sizeLine; decide), fun q hq => ?_⟩
          have nq : R ≠ q := ne_of_none hv hq
          have hv2 : upd Hi q (.tup [V.ref b, V.int (n * f)]) R = some (.lst xs) := by rw [upd_ne nq]; exact hv
          have sm2 := same_new (o := .tup [V.ref b, V.int (n * f)]) hq
          refine ⟨xs, hv2, ?_, same_put (sm.trans sm2) hR, _, upd_same, ?_⟩
          · have e := paired_n pz
            have h3 := tmP_len (ps.take i) f
            have h4 := List.length_take_le' i ps
            exact small1000 (by omega)
          · rw [st, tmP_nz [(t, n)] z]
            exact pr_app (pr_put hv2 (pr_same sm2 pz)) (.cons ⟨q, rfl, b, sqT_put hv2 (.inl (.inl upd_same)), tm_put hv2 ((sm.trans sm2) _ _ h2)⟩ .nil)
      · rintro H2 ⟨sm, xs, hv, pz⟩
        rw [List.length_map, lens, List.take_length] at pz
        have ho2 := sm _ _ ho
        refine ⟨_, rfl, _, rfl, p, C, dx, _, _, rfl, ho2, T.cl, T.nR, flds_rest _ _, _, rfl, _, _, rfl, rfl, cr, ?_⟩
        intro x dx3 hx hdx hne
        obtain ⟨as3, e3, p3⟩ := pr_refs pz
        refine made_form (SqL.of hv) hx hdx hne fun tp3 H3 s3 h1 h2 => k x H3 (sm.trans s3) (sm.free hx) ⟨dx3, tp3, as3, h2, by rw [← e3]; exact h1, L2.Paired.mapP p3 fun _ _ g => g.same s3⟩
    · refine ⟨_, rfl, _, false, rfl, hi, _, rfl, ?_⟩
      refine iteT ?_
      exact ⟨_, rfl, fun d hd => k d hd⟩
end
end Mv
/-! Form's own operators -/
namespace Mv
open PySem PySem.Spec PyProof.Rows L2
abbrev sFAdd : Stmt := inClass (top 23) 3
abbrev sFRadd : Stmt := inClass (top 23) 4
abbrev sFSub : Stmt := inClass (top 23) 5
abbrev sFRsub : Stmt := inClass (top 23) 6
abbrev sFMul : Stmt := inClass (top 23) 7
abbrev sFRmul : Stmt := inClass (top 23) 8
abbrev sFNeg : Stmt := inClass (top 23) 9
/-- what a form or an integer holds -/
def AsF (K : PySem.W.Frag) (C : Addr) (H : Hp) (y : V) (qs : Prs) (r : Int) : Prop := (∃ p, y = .ref p ∧ FormAt K C H p qs r) ∨ (y = .int r ∧ qs = [])
def BadF (K : PySem.W.Frag) (C : Addr) (H : Hp) (y : V) : Prop := ∃ t, TyX K H y t ∧ PySem.W.kitOne K t (.ref C) = some false ∧ KnI K H y false
def Raised (H : Hp) (CF : Addr) (y : V) (E : XK) : Prop := ∀ d H', Same H H' → H' d = none → E (.ref CF) (some d) (upd H' d (.xd [(("thing" : Str), y)]))
def Lin (K : PySem.W.Frag) (C : Addr) (H : Hp) (ps qs : Prs) (r r2 a b : Int) (Q : VK) : Prop := ∀ x H' rs, Same H H' → H x = none → FormAt K C H' x rs (a * r + b * r2) → Canon rs → (∀ t, getP rs t = a * getP ps t + b * getP qs t) → rs.length ≤ ps.length + qs.length → Q (.ref x) H'
def spLin (K : PySem.W.Frag) (C CF : Addr) (a b : Int) : Sp := fun vs H Q E => ∃ p y ps r, vs = [.ref p, y] ∧ FormAt K C H p ps r ∧ Canon ps ∧ ps.length ≤ 1000 ∧
  ((∃ qs r2, AsF K C H y qs r2 ∧ Canon qs ∧ ps.length + qs.length ≤ 1000 ∧ Lin K C H ps qs r r2 a b Q) ∨ (BadF K C H y ∧ Raised H CF y E))
def spNeg (K : PySem.W.Frag) (C : Addr) : Sp := fun vs H Q _ => ∃ p ps r, vs = [.ref p] ∧ FormAt K C H p ps r ∧ ps.length ≤ 1000 ∧ ∀ y H', Same H H' → H y = none → FormAt K C H' y (tmP ps (-1)) (r * -1) → Q (.ref y) H'
theorem cmul1 (i : Int) : CMul i (-1) := .inr ⟨by decide, by decide⟩
section
variable {P : Program} {w : World} {K : PySem.W.Frag} {mg : Str → Option Value} {base : Heap} {C CB CF : Addr}
/-- what the operators call -/
structure OT (P : Program) (w : World) (K : PySem.W.Frag) (mg : Str → Option Value) (base : Heap) (C CF : Addr) : Prop where
  asf : ∃ f fd, mg "_as_form" = some (.ref f) ∧ PySem.W.keepIn K (.ref f) = true ∧ FnOk P w K mg base (L2.CX P w) 4 f fd ["thing"] (spAsForm K C CF) ∧ Binds K fd ["thing"] []
  sum : ∃ f fd, mg "_sum" = some (.ref f) ∧ PySem.W.keepIn K (.ref f) = true ∧ FnOk P w K mg base CX0 4 f fd ["one", "other"] (spSum K C) ∧ Binds K fd ["one", "other"] []
  times : ∃ f fd, mg "_times" = some (.ref f) ∧ PySem.W.keepIn K (.ref f) = true ∧ FnOk P w K mg base (L2.CX P w) 4 f fd ["form", "factor"] (spTimes K C CF) ∧ Binds K fd ["form", "factor"] []
theorem scFAdd : FnScope ["self", "other"] ["self", "other"] (defScope sFAdd) := ⟨rfl, rfl, rfl, by decide +kernel, rfl, by decide +kernel, by decide +kernel⟩
theorem scFRadd : FnScope ["self", "other"] ["self", "other"] (defScope sFRadd) := ⟨rfl, rfl, rfl, by decide +kernel, rfl, by decide +kernel, by decide +kernel⟩
theorem scFSub : FnScope ["self", "other"] ["self", "other"] (defScope sFSub) := ⟨rfl, rfl, rfl, by decide +kernel, rfl, by decide +kernel, by decide +kernel⟩
theorem scFRsub : FnScope ["self", "other"] ["self", "other"] (defScope sFRsub) := ⟨rfl, rfl, rfl, by decide +kernel, rfl, by decide +kernel, by decide +kernel⟩
theorem scFMul : FnScope ["self", "other"] ["self", "other"] (defScope sFMul) := ⟨rfl, rfl, rfl, by decide +kernel, rfl, by decide +kernel, by decide +kernel⟩
theorem scFRmul : FnScope ["self", "other"] ["self", "other"] (defScope sFRmul) := ⟨rfl, rfl, rfl, by decide +kernel, rfl, by decide +kernel, by decide +kernel⟩
theorem scFNeg : FnScope ["self"] ["self"] (defScope sFNeg) := ⟨rfl, rfl, rfl, by decide +kernel, rfl, by decide +kernel, by decide +kernel⟩
/-- _as_form of what has a form's content -/
theorem asf_of {H : Hp} {y : V} {qs : Prs} {r : Int} {Q : VK} {E : XK} (h : AsF K C H y qs r) (k : ∀ p H', Same H H' → FormAt K C H' p qs r → Q (.ref p) H') : spAsForm K C CF [y] H Q E := by
  refine ⟨y, rfl, ?_⟩
  rcases h with ⟨p, rfl, hp⟩ | ⟨rfl, rfl⟩
  · exact .inl ⟨p, qs, r, rfl, hp, k p H (Same.refl H) hp⟩
  · exact .inr (.inl ⟨r, rfl, fun p H' sm _ hf => k p H' sm hf⟩)
theorem asf_bad {H H0 : Hp} {y : V} {Q : VK} {E : XK} (s : Same H0 H) (h : BadF K C H y) (k : Raised H0 CF y E) : spAsForm K C CF [y] H Q E := by
  obtain ⟨t, h1, h2, h3⟩ := h
  exact ⟨y, rfl, .inr (.inr ⟨t, h1, h2, h3, fun d hd => k d H s hd⟩)⟩
theorem ok_fadd {f : Addr} {fd : FuncData} (F : Fun K "__add__" "Form.__add__" sFAdd f fd) (T : OT P w K mg base C CF) : FnOk P w K mg base (L2.CX P w) 5 f fd ["self", "other"] (spLin K C CF 1 1) := by
  obtain ⟨fa, fda, ga, ka, Ga, ba⟩ := T.asf
  obtain ⟨fs, fds, gs, ks, Gs, bs⟩ := T.sum
  refine F.okX scFAdd (fun vs H Q E h => ?_) (fun cdv A outer s H vs Q E hr h => ?_)
  · obtain ⟨p, y, ps, r, rfl, _⟩ := h
    rfl
  · obtain ⟨p, y, ps, r, rfl, hp, cp, hl0, h⟩ := h
    refine ⟨_, pss_one (ps_ret (pe_call Gs (hr.mono (by decide)) rfl gs ks bs .nil pass0 (pa_cons (pv 0) (pa_cons (pe_call (E := E) Ga (hr.mono (by decide)) rfl ga ka ba .nil (passes_call (takes_of rfl rfl rfl rfl) (fun _ _ _ _ q => q)) (pa_cons (pv 1) pa_nil)) pa_nil)))), ?_⟩
    refine ⟨_, rfl, _, rfl, ?_⟩
    rcases h with ⟨qs, r2, hy, cq, hl, k⟩ | ⟨hb, k⟩
    · refine asf_of hy fun q H1 s1 hq => ?_
      refine ⟨p, q, ps, qs, r, r2, rfl, hp.same s1, hq, cp, cq, hl, fun x H2 rs s2 n2 fx cx gx lx => k x H2 rs (s1.trans s2) (s1.free n2) ?_ cx (fun t => ?_) lx⟩
      · rw [Int.one_mul, Int.one_mul]; exact fx
      · rw [Int.one_mul, Int.one_mul]; exact gx t
    · exact asf_bad (Same.refl H) hb k
theorem nilA {σ : L2.St} {H : Hp} {y : V} {sp : Sp} {ds : List V} {Q : VK} {E : XK} (h : sp (y :: ds) H Q E) : tNil σ H fun xs H2 => (fun vs H1 => sp (vs ++ ds) H1 Q E) (y :: xs) H2 := h
theorem ok_fradd {f : Addr} {fd : FuncData} (F : Fun K "__radd__" "Form.__radd__" sFRadd f fd) (T : OT P w K mg base C CF) : FnOk P w K mg base (L2.CX P w) 5 f fd ["self", "other"] (spLin K C CF 1 1) := by
  obtain ⟨fa, fda, ga, ka, Ga, ba⟩ := T.asf
  obtain ⟨fs, fds, gs, ks, Gs, bs⟩ := T.sum
  refine F.okX scFRadd (fun vs H Q E h => ?_) (fun cdv A outer s H vs Q E hr h => ?_)
  · obtain ⟨p, y, ps, r, rfl, _⟩ := h
    rfl
  · obtain ⟨p, y, ps, r, rfl, hp, cp, hl0, h⟩ := h
    refine ⟨_, pss_one (ps_ret (pe_call Gs (hr.mono (by decide)) rfl gs ks bs .nil pass0 (pa_cons (pe_call (E := E) Ga (hr.mono (by decide)) rfl ga ka ba .nil (passes_call (takes_of rfl rfl rfl rfl) (fun _ _ _ _ q => q)) (pa_cons (pv 1) pa_nil)) (pa_cons (pv 0) pa_nil)))), ?_⟩
    refine ⟨_, rfl, ?_⟩
    refine nilA ?_
    rcases h with ⟨qs, r2, hy, cq, hl, k⟩ | ⟨hb, k⟩
    · refine asf_of hy fun q H1 s1 hq => ?_
      refine ⟨_, rfl, q, p, qs, ps, r2, r, rfl, hq, hp.same s1, cq, cp, by omega, fun x H2 rs s2 n2 fx cx gx lx => k x H2 rs (s1.trans s2) (s1.free n2) ?_ cx (fun t => ?_) (by omega)⟩
      · rw [Int.one_mul, Int.one_mul, Int.add_comm]; exact fx
      · rw [Int.one_mul, Int.one_mul, Int.add_comm]; exact gx t
    · exact asf_bad (Same.refl H) hb k
theorem ok_fsub {f : Addr} {fd : FuncData} (F : Fun K "__sub__" "Form.__sub__" sFSub f fd) (T : OT P w K mg base C CF) : FnOk P w K mg base (L2.CX P w) 5 f fd ["self", "other"] (spLin K C CF 1 (-1)) := by
  obtain ⟨fa, fda, ga, ka, Ga, ba⟩ := T.asf
  obtain ⟨fs, fds, gs, ks, Gs, bs⟩ := T.sum
  obtain ⟨ft, fdt, gt, kt, Gt, bt⟩ := T.times
  refine F.okX scFSub (fun vs H Q E h => ?_) (fun cdv A outer s H vs Q E hr h => ?_)
  · obtain ⟨p, y, ps, r, rfl, _⟩ := h
    rfl
  · obtain ⟨p, y, ps, r, rfl, hp, cp, hl0, h⟩ := h
    refine ⟨_, pss_one (ps_ret (pe_call Gs (hr.mono (by decide)) rfl gs ks bs .nil pass0 (pa_cons (pv 0) (pa_cons (pe_call (E := E) Gt (hr.mono (by decide)) rfl gt kt bt .nil (passes_call (takes_of rfl rfl rfl rfl) (fun _ _ _ _ q => q)) (pa_cons (pe_call (E := E) Ga (hr.mono (by decide)) rfl ga ka ba .nil (passes_call (takes_of rfl rfl rfl rfl) (fun _ _ _ _ q => q)) (pa_cons (pv 1) pa_nil)) (pa_cons (pe_un un_neg pe_int) pa_nil))) pa_nil)))), ?_⟩
    refine ⟨_, rfl, _, rfl, ?_⟩
    refine nilA ?_
    rcases h with ⟨qs, r2, hy, cq, hl, k⟩ | ⟨hb, k⟩
    · refine asf_of hy fun q H1 s1 hq => ?_
      refine ⟨1, rfl, q, qs, r2, _, rfl, hq, by omega, .inl ⟨-1, rfl, fun z _ => cmul1 _, cmul1 _, fun q2 H2 s2 n2 hq2 => ?_⟩⟩
      have ll := tmP_len qs (-1)
      refine ⟨p, q2, ps, tmP qs (-1), r, r2 * -1, rfl, hp.same (s1.trans s2), hq2, cp, tmP_canon cq _, by omega, fun x H3 rs s3 n3 fx cx gx lx => k x H3 rs (s1.trans (s2.trans s3)) (s1.free (s2.free n3)) ?_ cx (fun t => ?_) (by omega)⟩
      · rw [Int.one_mul, Int.mul_comm (-1)]; exact fx
      · rw [Int.one_mul, Int.mul_comm (-1), ← tmP_get]; exact gx t
    · exact asf_bad (Same.refl H) hb k
theorem ok_frsub {f : Addr} {fd : FuncData} (F : Fun K "__rsub__" "Form.__rsub__" sFRsub f fd) (T : OT P w K mg base C CF) : FnOk P w K mg base (L2.CX P w) 5 f fd ["self", "other"] (spLin K C CF (-1) 1) := by
  obtain ⟨fa, fda, ga, ka, Ga, ba⟩ := T.asf
  obtain ⟨fs, fds, gs, ks, Gs, bs⟩ := T.sum
  obtain ⟨ft, fdt, gt, kt, Gt, bt⟩ := T.times
  refine F.okX scFRsub (fun vs H Q E h => ?_) (fun cdv A outer s H vs Q E hr h => ?_)
  · obtain ⟨p, y, ps, r, rfl, _⟩ := h
    rfl
  · obtain ⟨p, y, ps, r, rfl, hp, cp, hl0, h⟩ := h
    refine ⟨_, pss_one (ps_ret (pe_call Gs (hr.mono (by decide)) rfl gs ks bs .nil pass0 (pa_cons (pe_call (E := E) Ga (hr.mono (by decide)) rfl ga ka ba .nil (passes_call (takes_of rfl rfl rfl rfl) (fun _ _ _ _ q => q)) (pa_cons (pv 1) pa_nil)) (pa_cons (pe_call (E := E) Gt (hr.mono (by decide)) rfl gt kt bt .nil (passes_call (takes_of rfl rfl rfl rfl) (fun _ _ _ _ q => q)) (pa_cons (pv 0) (pa_cons (pe_un un_neg pe_int) pa_nil))) pa_nil)))), ?_⟩
    refine ⟨_, rfl, ?_⟩
    refine nilA ?_
    rcases h with ⟨qs, r2, hy, cq, hl, k⟩ | ⟨hb, k⟩
    · refine asf_of hy fun q H1 s1 hq => ?_
      refine ⟨_, rfl, 1, rfl, p, ps, r, _, rfl, hp.same s1, hl0, .inl ⟨-1, rfl, fun z _ => cmul1 _, cmul1 _, fun q2 H2 s2 n2 hq2 => ?_⟩⟩
      have ll := tmP_len ps (-1)
      refine ⟨q, q2, qs, tmP ps (-1), r2, r * -1, rfl, hq.same s2, hq2, cq, tmP_canon cp _, by omega, fun x H3 rs s3 n3 fx cx gx lx => k x H3 rs (s1.trans (s2.trans s3)) (s1.free (s2.free n3)) ?_ cx (fun t => ?_) (by omega)⟩
      · rw [Int.one_mul, Int.mul_comm (-1), Int.add_comm]; exact fx
      · rw [Int.one_mul, Int.mul_comm (-1), ← tmP_get, Int.add_comm]; exact gx t
    · exact asf_bad (Same.refl H) hb k
theorem ok_fmul {f : Addr} {fd : FuncData} (F : Fun K "__mul__" "Form.__mul__" sFMul f fd) (T : OT P w K mg base C CF) : FnOk P w K mg base (L2.CX P w) 5 f fd ["self", "other"] (spTimes K C CF) := by
  obtain ⟨ft, fdt, gt, kt, Gt, bt⟩ := T.times
  refine F.okX scFMul (fun vs H Q E h => ?_) (fun cdv A outer s H vs Q E hr h => ?_)
  · obtain ⟨p, ps, r, x, rfl, _⟩ := h
    rfl
  · obtain ⟨p, ps, r, x, rfl, h⟩ := h
    refine ⟨_, pss_one (ps_ret (pe_call (E := E) Gt (hr.mono (by decide)) rfl gt kt bt .nil (passes_call (takes_of rfl rfl rfl rfl) (fun _ _ _ _ q => q)) (pa_cons (pv 0) (pa_cons (pv 1) pa_nil)))), ?_⟩
    exact ⟨_, rfl, _, rfl, p, ps, r, x, rfl, h⟩
theorem ok_frmul {f : Addr} {fd : FuncData} (F : Fun K "__rmul__" "Form.__rmul__" sFRmul f fd) (T : OT P w K mg base C CF) : FnOk P w K mg base (L2.CX P w) 5 f fd ["self", "other"] (spTimes K C CF) := by
  obtain ⟨ft, fdt, gt, kt, Gt, bt⟩ := T.times
  refine F.okX scFRmul (fun vs H Q E h => ?_) (fun cdv A outer s H vs Q E hr h => ?_)
  · obtain ⟨p, ps, r, x, rfl, _⟩ := h
    rfl
  · obtain ⟨p, ps, r, x, rfl, h⟩ := h
    refine ⟨_, pss_one (ps_ret (pe_call (E := E) Gt (hr.mono (by decide)) rfl gt kt bt .nil (passes_call (takes_of rfl rfl rfl rfl) (fun _ _ _ _ q => q)) (pa_cons (pv 0) (pa_cons (pv 1) pa_nil)))), ?_⟩
    exact ⟨_, rfl, _, rfl, p, ps, r, x, rfl, h⟩
theorem ok_fneg {f : Addr} {fd : FuncData} (F : Fun K "__neg__" "Form.__neg__" sFNeg f fd) (T : OT P w K mg base C CF) : FnOk P w K mg base (L2.CX P w) 5 f fd ["self"] (spNeg K C) := by
  obtain ⟨ft, fdt, gt, kt, Gt, bt⟩ := T.times
  refine F.okX scFNeg (fun vs H Q E h => ?_) (fun cdv A outer s H vs Q E hr h => ?_)
  · obtain ⟨p, ps, r, rfl, _⟩ := h
    rfl
  · obtain ⟨p, ps, r, rfl, hp, hl, k⟩ := h
    refine ⟨_, pss_one (ps_ret (pe_call (E := E) Gt (hr.mono (by decide)) rfl gt kt bt .nil (passes_call (takes_of rfl rfl rfl rfl) (fun _ _ _ _ q => q)) (pa_cons (pv 0) (pa_cons (pe_un un_neg pe_int) pa_nil)))), ?_⟩
    exact ⟨_, rfl, 1, rfl, p, ps, r, _, rfl, hp, hl, .inl ⟨-1, rfl, fun z _ => cmul1 _, cmul1 _, k⟩⟩
end
end Mv
namespace Mv
end Mv
namespace Mv
open PySem PySem.Spec PyProof.Rows L2 RZ L2
abbrev sSame : Stmt := top 54
/-! ### isinstance with several classes -/
def kitsB (a : String) : List String → Option Bool
  | [] => some false
  | b :: bs => match kitB a b with
    | some true => some true
    | some false => kitsB a bs
    | none => none
theorem kit_any {K : PySem.W.Frag} {a : String} : ∀ {bs : List String} {r : Bool}, kitsB a bs = some r → PySem.W.kitAny K (.type a) (bs.map Value.type) = some r
  | [], r, h => by
    cases h
    exact kitAny_nil
  | b :: bs, r, h => by
    unfold kitsB at h
    cases e : kitB a b with
    | none =>
      rw [e] at h
      cases h
    | some k =>
      rw [e] at h
      cases k with
      | true =>
        cases h
        exact kitAny_cons (kit_ty e) (fun q => by cases q) fun _ => rfl
      | false => exact kitAny_cons (kit_ty e) (fun _ => kit_any h) fun q => by cases q
theorem cls_tys : ∀ (bs : List String), Paired ClsV (bs.map V.ty) (bs.map Value.type)
  | [] => .nil
  | b :: bs => .cons (.ty b) (cls_tys bs)
theorem ty_lst {K : PySem.W.Frag} {H : Hp} {a : Addr} {xs : List V} (h : SqL K H a xs) : TyX K H (.ref a) (.type "list") := by
  rcases h with h | ⟨o, its, n, hk, hc, _⟩
  · rcases h with h | ⟨o, h⟩
    · exact .base (.lst h)
    · exact .base (.frz h)
  · exact .kList hk hc
theorem ty_tup {K : PySem.W.Frag} {H : Hp} {a : Addr} {xs : List V} (h : SqT K H a xs) : TyX K H (.ref a) (.type "tuple") := by
  rcases h with h | ⟨o, its, n, hk, hc, _⟩
  · rcases h with h | ⟨o, h⟩
    · exact .base (.tup h)
    · exact .fTuple h
  · exact .kTuple hk hc
theorem same_ty {K : PySem.W.Frag} {H H' : Hp} {x : V} {n : String} (s : Same H H') (h : TyX K H x (.type n)) : TyX K H' x (.type n) := by
  cases h with
  | base b =>
    refine .base ?_
    cases b with
    | non => exact .non
    | bl x => exact .bl x
    | int i => exact .int i
    | str z => exact .str z
    | flt z => exact .flt z
    | lst e => exact .lst (s _ _ e)
    | frz e => exact .frz (s _ _ e)
    | tup e => exact .tup (s _ _ e)
    | dK e => exact .dK (s _ _ e)
    | dT e => exact .dT (s _ _ e)
  | byt b => exact .byt b
  | set e => exact .set (s _ _ e)
  | kList e c => exact .kList e c
  | kTuple e c => exact .kTuple e c
  | kDict e c => exact .kDict e c
  | fTuple e => exact .fTuple (s _ _ e)
  | fDict e => exact .fDict (s _ _ e)
theorem walk_zipT {K : PySem.W.Frag} {a b : Addr} {xs ys : List V} (hl : xs.length = ys.length) : Walk (ItzT K a b) xs.length (fun H => SqT K H a xs ∧ SqT K H b ys) (YPair (fun i => xs[i]?) (fun i => ys[i]?)) := by
  refine ⟨fun i _ hi q => ?_, fun _ q => ⟨xs, ys, q.1, q.2, .inl (Nat.le_refl _)⟩, fun i H v H' _ q y => ?_⟩
  · exact ⟨xs, ys, xs[i], ys[i]'(hl ▸ hi), q.1, q.2, by simp [hi], by simp [hl ▸ hi]⟩
  · obtain ⟨T, x, z, h1, h2, h3, h4, h5⟩ := y
    exact ⟨T, x, z, h1, h2, h3, h4 xs q.1, h5 ys q.2⟩
theorem opR_or {X : Cx} {f : Value → Value → Sem Value} {r r' : R2} (h : OpR X f r) (h' : OpR X f r') : OpR X f (fun x y H Q => r x y H Q ∨ r' x y H Q) := fun pins s σ H x y v u Q I rx ry q =>
  q.elim (h pins s σ H x y v u Q I rx ry) (h' pins s σ H x y v u Q I rx ry)
/-! ### alike data -/
/-- found and due are alike, to the depth n -/
inductive SmD (K : PySem.W.Frag) (H : Hp) : Nat → V → V → Prop where
  | int (n : Nat) (i : Int) : SmD K H n (.int i) (.int i)
  | bl (n : Nat) (b : Bool) : SmD K H n (.bl b) (.bl b)
  | non (n : Nat) : SmD K H n .non .non
  | str (n : Nat) (z : Str) : SmD K H n (.str z) (.str z)
  | dic (n : Nat) {a : Addr} (h : H a = some (.dK [])) : SmD K H n (.ref a) (.ref a)
  | lst {n : Nat} {a b : Addr} {xs ys : List V} (h1 : SqL K H a xs) (h2 : SqL K H b ys) (hl : xs.length = ys.length) (hz : xs.length ≤ 1000) (h : ∀ (i : Nat) (x y : V), xs[i]? = some x → ys[i]? = some y → SmD K H n x y) : SmD K H (n + 1) (.ref a) (.ref b)
  | tup {n : Nat} {a b : Addr} {xs ys : List V} (h1 : SqT K H a xs) (h2 : SqT K H b ys) (hl : xs.length = ys.length) (hz : xs.length ≤ 1000) (h : ∀ (i : Nat) (x y : V), xs[i]? = some x → ys[i]? = some y → SmD K H n x y) : SmD K H (n + 1) (.ref a) (.ref b)
theorem SmD.same {K : PySem.W.Frag} {H H' : Hp} {n : Nat} {x y : V} (s : Same H H') (h : SmD K H n x y) : SmD K H' n x y := by
  induction h with
  | int n i => exact .int n i
  | bl n b => exact .bl n b
  | non n => exact .non n
  | str n z => exact .str n z
  | dic n h => exact .dic n (s _ _ h)
  | lst h1 h2 hl hz _ ih => exact .lst (s.seq h1) (s.seq h2) hl hz ih
  | tup h1 h2 hl hz _ ih => exact .tup (same_sqT s h1) (same_sqT s h2) hl hz ih
def spSame (K : PySem.W.Frag) (n : Nat) : Sp := fun vs H Q _ => ∃ x y, vs = [x, y] ∧ SmD K H n x y ∧ ∀ H', Same H H' → Q (.bl true) H'
def spPrev (K : PySem.W.Frag) : Nat → Sp
  | 0 => fun _ _ _ _ => False
  | n + 1 => spSame K n
/-- the type that both have -/
theorem SmD.ty {K : PySem.W.Frag} {H : Hp} {n : Nat} {x y : V} (h : SmD K H n x y) : ∃ t, t ∈ ["int", "bool", "NoneType", "str", "dict", "list", "tuple"] ∧ TyX K H x (.type t) ∧ TyX K H y (.type t) := by
  cases h with
  | int n i => exact ⟨"int", by simp, .base (.int _), .base (.int _)⟩
  | bl n b => exact ⟨"bool", by simp, .base (.bl _), .base (.bl _)⟩
  | non n => exact ⟨"NoneType", by simp, .base .non, .base .non⟩
  | str n z => exact ⟨"str", by simp, .base (.str _), .base (.str _)⟩
  | dic n h => exact ⟨"dict", by simp, .base (.dK h), .base (.dK h)⟩
  | lst h1 h2 hl hz h => exact ⟨"list", by simp, ty_lst h1, ty_lst h2⟩
  | tup h1 h2 hl hz h => exact ⟨"tuple", by simp, ty_tup h1, ty_tup h2⟩
structure ST (mg : Str → Option Value) (f : Addr) : Prop where
  isi : mg "isinstance" = none
  list : mg "list" = none
  tuple : mg "tuple" = none
  len : mg "len" = none
  all : mg "all" = none
  zip : mg "zip" = none
  bool : mg "bool" = none
  int : mg "int" = none
  self : mg "_law_same" = some (.ref f)
section
variable {P : Program} {w : World} {K : PySem.W.Frag} {mg : Str → Option Value} {base : Heap}
theorem scSm : FnScope ["_law_found", "_law_due", "_law_left", "_law_right"] ["_law_found", "_law_due"] (defScope sSame) := ⟨rfl, rfl, rfl, by decide +kernel, rfl, by decide +kernel, by decide +kernel⟩
theorem same_step {f : Addr} {fd : FuncData} {n k : Nat} (F : Fun K "_law_same" "_law_same" sSame f fd) (T : ST mg f) (b : Binds K fd ["_law_found", "_law_due"] []) (G : FnOk P w K mg base CX0 k f fd ["_law_found", "_law_due"] (spPrev K n)) : FnOk P w K mg base CX0 (k + 1) f fd ["_law_found", "_law_due"] (spSame K n) := by
  refine F.ok scSm (fun vs H Q E h => ?_) (fun cdv A outer s H vs Q E hr h => ?_)
  · obtain ⟨x, y, rfl, _⟩ := h
    rfl
  · obtain ⟨x, y, rfl, hd, kq⟩ := h
    have hkF := F.kp
    refine ⟨_, pss_cons (ps_if (pt_val (pe_callB call_isiT (by rfl) T.isi (by decide +kernel) (pa_cons (pv 1) (pa_cons (pe_tup (pa_cons (pe_bltn (v := .ty "list") (by rfl) T.list (by decide +kernel) rfl) (pa_cons (pe_bltn (v := .ty "tuple") (by rfl) T.tuple (by decide +kernel) rfl) pa_nil))) pa_nil))))
        (pss_cons (ps_if (PW.pt (pw_or (pt_cmpR op_ne (pe_callB call_isi (by rfl) T.isi (by decide +kernel) (pa_cons (pv 0) (pa_cons (pe_bltn (v := .ty "list") (by rfl) T.list (by decide +kernel) rfl) pa_nil))) (pe_callB call_isi (by rfl) T.isi (by decide +kernel) (pa_cons (pv 1) (pa_cons (pe_bltn (v := .ty "list") (by rfl) T.list (by decide +kernel) rfl) pa_nil))) (nomark _))
            (pw_or1 (pt_cmpR op_ne (pe_callB call_isi (by rfl) T.isi (by decide +kernel) (pa_cons (pv 0) (pa_cons (pe_bltn (v := .ty "tuple") (by rfl) T.tuple (by decide +kernel) rfl) pa_nil))) (pe_callB call_isi (by rfl) T.isi (by decide +kernel) (pa_cons (pv 1) (pa_cons (pe_bltn (v := .ty "tuple") (by rfl) T.tuple (by decide +kernel) rfl) pa_nil))) (nomark _))))) (pss_one (ps_ret pe_bl)) pss_nil)
          (pss_one (ps_ret (pe_and (pe_cmpR op_eq (pe_callB call_len_seq (by rfl) T.len PySem.boot_len (pa_cons (pv 0) pa_nil)) (pe_callB call_len_seq (by rfl) T.len PySem.boot_len (pa_cons (pv 1) pa_nil)) (nomark _))
            (pe_one (pe_callB (cr_all rfl) (by rfl) T.all (by decide +kernel) (pa_cons (pe_lc (own := [("_law_left", 2), ("_law_right", 3)]) (g := gTup _ 2 (gCons (gName 2) (gCons (gName 3) gNil))) (tt := tYes) rfl scSm.nd (pi_zipA (by rfl) T.zip (pa_cons (pv 0) (pa_cons (pv 1) pa_nil)))
              (blkOk_by (N := ["_law_found", "_law_due", "_law_left", "_law_right"]) (sc := defScope sSame) (by decide +kernel))
              (fun _ _ _ _ _ => pg_tup rfl (pgs_cons (pg_name (i := 2) scSm.nd rfl (Or.inl rfl)) (pgs_cons (pg_name (i := 3) scSm.nd rfl (Or.inl rfl)) pgs_nil))) (fun _ _ _ _ _ => pts_nil)
              (fun _ _ _ _ _ => pe_call G hr rfl T.self hkF b .nil pass0 (pa_cons (pv 2) (pa_cons (pv 3) pa_nil)))) pa_nil)))))))
        pss_nil)
      (pss_cons (ps_if (pt_val (pe_callB call_isiT (by rfl) T.isi (by decide +kernel) (pa_cons (pv 1) (pa_cons (pe_tup (pa_cons (pe_bltn (v := .ty "bool") (by rfl) T.bool (by decide +kernel) rfl) (pa_cons (pe_bltn (v := .ty "int") (by rfl) T.int (by decide +kernel) rfl) pa_nil))) pa_nil))))
        (pss_one (ps_ret (pe_and (pe_callB call_isi (by rfl) T.isi (by decide +kernel) (pa_cons (pv 0) (pa_cons (pe_bltn (v := .ty "int") (by rfl) T.int (by decide +kernel) rfl) pa_nil)))
          (pe_and (pe_cmpR op_eq (pe_callB call_isi (by rfl) T.isi (by decide +kernel) (pa_cons (pv 0) (pa_cons (pe_bltn (v := .ty "bool") (by rfl) T.bool (by decide +kernel) rfl) pa_nil))) (pe_callB call_isi (by rfl) T.isi (by decide +kernel) (pa_cons (pv 1) (pa_cons (pe_bltn (v := .ty "bool") (by rfl) T.bool (by decide +kernel) rfl) pa_nil))) (nomark _))
            (pe_one (pe_cmpR op_eq (pv 0) (pv 1) (nomark _))))))) pss_nil)
      (pss_one (ps_ret (pe_and (pe_not (pe_callB call_isiT (by rfl) T.isi (by decide +kernel) (pa_cons (pv 0) (pa_cons (pe_tup (pa_cons (pe_bltn (v := .ty "bool") (by rfl) T.bool (by decide +kernel) rfl) (pa_cons (pe_bltn (v := .ty "int") (by rfl) T.int (by decide +kernel) rfl) (pa_cons (pe_bltn (v := .ty "list") (by rfl) T.list (by decide +kernel) rfl) (pa_cons (pe_bltn (v := .ty "tuple") (by rfl) T.tuple (by decide +kernel) rfl) pa_nil))))) pa_nil))))
        (pe_one (pe_cmpR (opR_or op_eq (op_eq_dictA hr.units0)) (pv 0) (pv 1) (nomark _))))))), ?_⟩
    cases hd with
    | int n i =>
      refine ⟨_, rfl, (by show 2 ≤ sizeLine; decide), fun tp ht => ?_⟩
      refine ⟨_, tp, [.ty "list", .ty "tuple"], _, _, false, rfl, upd_same, cls_tys ["list", "tuple"], .base (.int i), kit_any (bs := ["list", "tuple"]) (by decide +kernel), false, rfl, ?_⟩
      refine iteF ?_
      refine ⟨_, rfl, (by show 2 ≤ sizeLine; decide), fun tq hq => ?_⟩
      have sm := (same_new (o := .tup [.ty "list", .ty "tuple"]) ht).trans (same_new (o := .tup [.ty "bool", .ty "int"]) hq)
      refine ⟨_, tq, [.ty "bool", .ty "int"], _, _, true, rfl, upd_same, cls_tys ["bool", "int"], .base (.int i), kit_any (bs := ["bool", "int"]) (by decide +kernel), true, rfl, ?_⟩
      refine iteT ?_
      refine ⟨_, rfl, _, _, _, _, true, rfl, .ty "int", .base (.int i), kit_ty (by decide +kernel), true, rfl, ?_⟩
      refine iteT ?_
      refine ⟨_, rfl, _, _, _, _, false, rfl, .ty "bool", .base (.int i), kit_ty (by decide +kernel), _, rfl, _, _, _, _, false, rfl, .ty "bool", .base (.int i), kit_ty (by decide +kernel), rfl, _, rfl, ?_⟩
      refine iteT ?_
      refine ⟨_, rfl, _, rfl, rfl, ?_⟩
      rw [decide_eq_true rfl]
      exact kq _ sm
    | bl n i =>
      refine ⟨_, rfl, (by show 2 ≤ sizeLine; decide), fun tp ht => ?_⟩
      refine ⟨_, tp, [.ty "list", .ty "tuple"], _, _, false, rfl, upd_same, cls_tys ["list", "tuple"], .base (.bl i), kit_any (bs := ["list", "tuple"]) (by decide +kernel), false, rfl, ?_⟩
      refine iteF ?_
      refine ⟨_, rfl, (by show 2 ≤ sizeLine; decide), fun tq hq => ?_⟩
      have sm := (same_new (o := .tup [.ty "list", .ty "tuple"]) ht).trans (same_new (o := .tup [.ty "bool", .ty "int"]) hq)
      refine ⟨_, tq, [.ty "bool", .ty "int"], _, _, true, rfl, upd_same, cls_tys ["bool", "int"], .base (.bl i), kit_any (bs := ["bool", "int"]) (by decide +kernel), true, rfl, ?_⟩
      refine iteT ?_
      refine ⟨_, rfl, _, _, _, _, true, rfl, .ty "int", .base (.bl i), kit_ty (by decide +kernel), true, rfl, ?_⟩
      refine iteT ?_
      refine ⟨_, rfl, _, _, _, _, true, rfl, .ty "bool", .base (.bl i), kit_ty (by decide +kernel), _, rfl, _, _, _, _, true, rfl, .ty "bool", .base (.bl i), kit_ty (by decide +kernel), rfl, _, rfl, ?_⟩
      refine iteT ?_
      refine ⟨_, rfl, _, rfl, rfl, ?_⟩
      rw [decide_eq_true rfl]
      exact kq _ sm
    | non n =>
      have ty0 : TyX K H _ (.type _) := .base .non
      refine ⟨_, rfl, (by show 2 ≤ sizeLine; decide), fun tp ht => ?_⟩
      have sm1 := same_new (o := .tup [.ty "list", .ty "tuple"]) ht
      refine ⟨_, tp, [.ty "list", .ty "tuple"], _, _, false, rfl, upd_same, cls_tys ["list", "tuple"], same_ty sm1 ty0, kit_any (bs := ["list", "tuple"]) (by decide +kernel), false, rfl, ?_⟩
      refine iteF ?_
      refine ⟨_, rfl, (by show 2 ≤ sizeLine; decide), fun tq hq => ?_⟩
      have sm2 := sm1.trans (same_new (o := .tup [.ty "bool", .ty "int"]) hq)
      refine ⟨_, tq, [.ty "bool", .ty "int"], _, _, false, rfl, upd_same, cls_tys ["bool", "int"], same_ty sm2 ty0, kit_any (bs := ["bool", "int"]) (by decide +kernel), false, rfl, ?_⟩
      refine iteF ?_
      refine ⟨_, rfl, (by show 4 ≤ sizeLine; decide), fun tr hr3 => ?_⟩
      have sm3 := sm2.trans (same_new (o := .tup [.ty "bool", .ty "int", .ty "list", .ty "tuple"]) hr3)
      refine ⟨_, tr, [.ty "bool", .ty "int", .ty "list", .ty "tuple"], _, _, false, rfl, upd_same, cls_tys ["bool", "int", "list", "tuple"], same_ty sm3 ty0, kit_any (bs := ["bool", "int", "list", "tuple"]) (by decide +kernel), ?_⟩
      refine ⟨_, rfl, true, rfl, ?_⟩
      refine iteT ?_
      refine ⟨_, rfl, _, rfl, .inl ⟨rfl, by rw [decide_eq_true rfl]; exact kq _ sm3⟩⟩
    | str n z =>
      have ty0 : TyX K H _ (.type _) := .base (.str z)
      refine ⟨_, rfl, (by show 2 ≤ sizeLine; decide), fun tp ht => ?_⟩
      have sm1 := same_new (o := .tup [.ty "list", .ty "tuple"]) ht
      refine ⟨_, tp, [.ty "list", .ty "tuple"], _, _, false, rfl, upd_same, cls_tys ["list", "tuple"], same_ty sm1 ty0, kit_any (bs := ["list", "tuple"]) (by decide +kernel), false, rfl, ?_⟩
      refine iteF ?_
      refine ⟨_, rfl, (by show 2 ≤ sizeLine; decide), fun tq hq => ?_⟩
      have sm2 := sm1.trans (same_new (o := .tup [.ty "bool", .ty "int"]) hq)
      refine ⟨_, tq, [.ty "bool", .ty "int"], _, _, false, rfl, upd_same, cls_tys ["bool", "int"], same_ty sm2 ty0, kit_any (bs := ["bool", "int"]) (by decide +kernel), false, rfl, ?_⟩
      refine iteF ?_
      refine ⟨_, rfl, (by show 4 ≤ sizeLine; decide), fun tr hr3 => ?_⟩
      have sm3 := sm2.trans (same_new (o := .tup [.ty "bool", .ty "int", .ty "list", .ty "tuple"]) hr3)
      refine ⟨_, tr, [.ty "bool", .ty "int", .ty "list", .ty "tuple"], _, _, false, rfl, upd_same, cls_tys ["bool", "int", "list", "tuple"], same_ty sm3 ty0, kit_any (bs := ["bool", "int", "list", "tuple"]) (by decide +kernel), ?_⟩
      refine ⟨_, rfl, true, rfl, ?_⟩
      refine iteT ?_
      refine ⟨_, rfl, _, rfl, .inl ⟨rfl, by rw [decide_eq_true rfl]; exact kq _ sm3⟩⟩
    | @dic n a hda =>
      have ty0 : TyX K H _ (.type _) := .base (.dK hda)
      refine ⟨_, rfl, (by show 2 ≤ sizeLine; decide), fun tp ht => ?_⟩
      have sm1 := same_new (o := .tup [.ty "list", .ty "tuple"]) ht
      refine ⟨_, tp, [.ty "list", .ty "tuple"], _, _, false, rfl, upd_same, cls_tys ["list", "tuple"], same_ty sm1 ty0, kit_any (bs := ["list", "tuple"]) (by decide +kernel), false, rfl, ?_⟩
      refine iteF ?_
      refine ⟨_, rfl, (by show 2 ≤ sizeLine; decide), fun tq hq => ?_⟩
      have sm2 := sm1.trans (same_new (o := .tup [.ty "bool", .ty "int"]) hq)
      refine ⟨_, tq, [.ty "bool", .ty "int"], _, _, false, rfl, upd_same, cls_tys ["bool", "int"], same_ty sm2 ty0, kit_any (bs := ["bool", "int"]) (by decide +kernel), false, rfl, ?_⟩
      refine iteF ?_
      refine ⟨_, rfl, (by show 4 ≤ sizeLine; decide), fun tr hr3 => ?_⟩
      have sm3 := sm2.trans (same_new (o := .tup [.ty "bool", .ty "int", .ty "list", .ty "tuple"]) hr3)
      refine ⟨_, tr, [.ty "bool", .ty "int", .ty "list", .ty "tuple"], _, _, false, rfl, upd_same, cls_tys ["bool", "int", "list", "tuple"], same_ty sm3 ty0, kit_any (bs := ["bool", "int", "list", "tuple"]) (by decide +kernel), ?_⟩
      refine ⟨_, rfl, true, rfl, ?_⟩
      refine iteT ?_
      refine ⟨_, rfl, _, rfl, .inr ⟨a, a, [], [], rfl, rfl, sm3 _ _ hda, sm3 _ _ hda, rfl, (fun p hp => nomatch hp), kq _ sm3⟩⟩
    | @lst n a b xs ys h1 h2 hl hz hh =>
      refine ⟨_, rfl, (by show 2 ≤ sizeLine; decide), fun tp ht => ?_⟩
      have sm1 := same_new (o := .tup [.ty "list", .ty "tuple"]) ht
      have g1 := Same.seq sm1 h1
      have g2 := Same.seq sm1 h2
      refine ⟨_, tp, [.ty "list", .ty "tuple"], _, _, true, rfl, upd_same, cls_tys ["list", "tuple"], ty_lst g2, kit_any (bs := ["list", "tuple"]) (by decide +kernel), true, rfl, ?_⟩
      refine iteT ?_
      refine ⟨_, rfl, _, _, _, _, true, rfl, .ty "list", ty_lst g1, kit_ty (by decide +kernel), _, rfl, _, _, _, _, true, rfl, .ty "list", ty_lst g2, kit_ty (by decide +kernel), rfl, _, rfl, ?_⟩
      refine ifF (by simp) ?_
      refine ⟨_, rfl, _, _, _, _, false, rfl, .ty "tuple", ty_lst g1, kit_ty (by decide +kernel), _, rfl, _, _, _, _, false, rfl, .ty "tuple", ty_lst g2, kit_ty (by decide +kernel), rfl, _, rfl, ?_⟩
      refine ifF (by simp) ?_
      refine ⟨_, rfl, a, xs, rfl, .inl g1, _, rfl, b, ys, rfl, .inl g2, rfl, _, rfl, ?_⟩
      refine ifT (by simp [hl]) ?_
      refine ⟨_, rfl, _, rfl, a, b, xs, ys, rfl, .inl ⟨g1, g2, fun D hD => ?_⟩⟩
      refine lc_it (walk_zip (n := xs.length) (by rw [← hl]; simp)) (fun i H' => Same (upd H tp (.tup [.ty "list", .ty "tuple"])) H' ∧ H' D = some (.lst ((List.replicate i true).map V.bl))) ⟨same_new hD, upd_same⟩ (fun i H' _ p => ⟨Same.seq p.1 g1, Same.seq p.1 g2⟩) ?_ ?_
      · rintro i x Hi Hi' hi ⟨sm, hd⟩ ⟨Tp, u, v, rfl, nT, rfl, hu, hv⟩
        refine ⟨Tp, [u, v], rfl, .inl (.inl upd_same), rfl, u, [v], rfl, ?_⟩
        refine ⟨v, [], rfl, rfl, ?_⟩
        refine ⟨rfl, ?_⟩
        unfold tYes
        refine iteT ?_
        have sm2 := sm.trans (same_new (o := .tup [u, v]) nT)
        refine ⟨_, rfl, _, rfl, u, v, rfl, ((hh i u v hu hv).same sm1).same sm2, fun H2 s2 => ?_⟩
        have e : H2 D = some (.lst ((List.replicate i true).map V.bl)) := s2 _ _ (by rw [upd_ne (ne_of_none hd nT)]; exact hd)
        refine ⟨_, e, ?_, same_put (sm2.trans s2) hD, ?_⟩
        · rw [List.length_map, List.length_replicate]
          exact small1000 (by omega)
        · rw [upd_same, List.replicate_succ', List.map_append]
          rfl
      · rintro H2 ⟨sm, hd⟩
        refine ⟨D, List.replicate xs.length true, rfl, SqL.of hd, ?_⟩
        have e : (List.replicate xs.length true).all id = true := by simp
        rw [e]
        exact kq _ (sm1.trans sm)
    | @tup n a b xs ys h1 h2 hl hz hh =>
      refine ⟨_, rfl, (by show 2 ≤ sizeLine; decide), fun tp ht => ?_⟩
      have sm1 := same_new (o := .tup [.ty "list", .ty "tuple"]) ht
      have g1 := same_sqT sm1 h1
      have g2 := same_sqT sm1 h2
      refine ⟨_, tp, [.ty "list", .ty "tuple"], _, _, true, rfl, upd_same, cls_tys ["list", "tuple"], ty_tup g2, kit_any (bs := ["list", "tuple"]) (by decide +kernel), true, rfl, ?_⟩
      refine iteT ?_
      refine ⟨_, rfl, _, _, _, _, false, rfl, .ty "list", ty_tup g1, kit_ty (by decide +kernel), _, rfl, _, _, _, _, false, rfl, .ty "list", ty_tup g2, kit_ty (by decide +kernel), rfl, _, rfl, ?_⟩
      refine ifF (by simp) ?_
      refine ⟨_, rfl, _, _, _, _, true, rfl, .ty "tuple", ty_tup g1, kit_ty (by decide +kernel), _, rfl, _, _, _, _, true, rfl, .ty "tuple", ty_tup g2, kit_ty (by decide +kernel), rfl, _, rfl, ?_⟩
      refine ifF (by simp) ?_
      refine ⟨_, rfl, a, xs, rfl, .inr g1, _, rfl, b, ys, rfl, .inr g2, rfl, _, rfl, ?_⟩
      refine ifT (by simp [hl]) ?_
      refine ⟨_, rfl, _, rfl, a, b, xs, ys, rfl, .inr ⟨g1, g2, fun D hD => ?_⟩⟩
      refine lc_it (walk_zipT hl) (fun i H' => Same (upd H tp (.tup [.ty "list", .ty "tuple"])) H' ∧ H' D = some (.lst ((List.replicate i true).map V.bl))) ⟨same_new hD, upd_same⟩ (fun i H' _ p => ⟨same_sqT p.1 g1, same_sqT p.1 g2⟩) ?_ ?_
      · rintro i x Hi Hi' hi ⟨sm, hd⟩ ⟨Tp, u, v, rfl, nT, rfl, hu, hv⟩
        refine ⟨Tp, [u, v], rfl, .inl (.inl upd_same), rfl, u, [v], rfl, ?_⟩
        refine ⟨v, [], rfl, rfl, ?_⟩
        refine ⟨rfl, ?_⟩
        unfold tYes
        refine iteT ?_
        have sm2 := sm.trans (same_new (o := .tup [u, v]) nT)
        refine ⟨_, rfl, _, rfl, u, v, rfl, ((hh i u v hu hv).same sm1).same sm2, fun H2 s2 => ?_⟩
        have e : H2 D = some (.lst ((List.replicate i true).map V.bl)) := s2 _ _ (by rw [upd_ne (ne_of_none hd nT)]; exact hd)
        refine ⟨_, e, ?_, same_put (sm2.trans s2) hD, ?_⟩
        · rw [List.length_map, List.length_replicate]
          exact small1000 (by omega)
        · rw [upd_same, List.replicate_succ', List.map_append]
          rfl
      · rintro H2 ⟨sm, hd⟩
        refine ⟨D, List.replicate xs.length true, rfl, SqL.of hd, ?_⟩
        have e : (List.replicate xs.length true).all id = true := by simp
        rw [e]
        exact kq _ (sm1.trans sm)
/-- to every depth, by so many levels -/
theorem ok_same {f : Addr} {fd : FuncData} (F : Fun K "_law_same" "_law_same" sSame f fd) (T : ST mg f) (b : Binds K fd ["_law_found", "_law_due"] []) : ∀ n, FnOk P w K mg base CX0 (n + 1) f fd ["_law_found", "_law_due"] (spSame K n)
  | 0 => same_step (k := 0) F T b ⟨fun _ _ _ _ z => z.elim, fun _ _ _ _ _ _ _ _ _ _ _ _ _ z => z.elim⟩
  | n + 1 => same_step F T b (ok_same F T b n)
end
end Mv
namespace Mv
open PySem PySem.Spec PyProof.Rows L2
abbrev sSource : Stmt := top 51
abbrev sDraw : Stmt := top 52
abbrev sPick : Stmt := top 53
def dr (x y z : Int) : HO := .lst [.int x, .int y, .int z]
def spSource (K : PySem.W.Frag) : Sp := fun vs H Q _ => ∃ (a : Addr) (ns : List Int) (i : Nat), vs = [.ref a, .int i] ∧ SqL K H a (ns.map V.int) ∧ i ≤ 1000 ∧ ∀ l x y, H l = none → Q (.ref l) (upd H l (dr x y 0))
def spDraw : Sp := fun vs H Q _ => ∃ (d : Addr) (m x y z : Int), vs = [.ref d, .int m] ∧ H d = some (dr x y z) ∧ 0 < m ∧ m < 1000 ∧ ∀ r x' y' z', 0 ≤ r → r < m → Q (.int r) (upd H d (dr x' y' z'))
structure DT (mg : Str → Option Value) : Prop where
  len : mg "len" = none
  int : mg "int" = none
section
variable {P : Program} {w : World} {K : PySem.W.Frag} {mg : Str → Option Value} {base : Heap}
theorem scSo : FnScope ["_law_script", "_law_place", "_law_cell"] ["_law_script", "_law_place"] (defScope sSource) := ⟨rfl, rfl, rfl, by decide +kernel, rfl, by decide +kernel, by decide +kernel⟩
theorem ok_source {f : Addr} {fd : FuncData} (F : Fun K "_law_source" "_law_source" sSource f fd) (T : DT mg) : FnOk P w K mg base CX0 1 f fd ["_law_script", "_law_place"] (spSource K) := by
  refine F.ok scSo (fun vs H Q E h => ?_) (fun cdv A outer s H vs Q E hr h => ?_)
  · obtain ⟨a, ns, i, rfl, _⟩ := h
    rfl
  · obtain ⟨a, ns, i, rfl, hS, hi, k⟩ := h
    refine ⟨_, pss_cons (ps_set (i := 2) scSo.nd rfl (.inl rfl) (pe_ifExp (pt_cmpR op_lt (pv 1) (pe_callB call_len_seq (by rfl) T.len PySem.boot_len (pa_cons (pv 0) pa_nil)) (nomark _)) (pe_ix ix_list (pv 0) (pv 1) (fun _ _ => rfl)) (pe_op op_add (pe_op op_mul pe_int (pv 1)) pe_int)))
      (pss_one (ps_ret (pe_lst (pa_cons (pe_ifExp (pt_cmpR op_ge (pv 2) (pe_op op_pow pe_int pe_int) (nomark _)) (pv 2) pe_int) (pa_cons (pe_op op_modN (pe_callTy call_int1 (by rfl) T.int (by decide +kernel) (pa_cons (pv 2) pa_nil)) pe_int) (pa_cons pe_int pa_nil)))))), ?_⟩
    refine ⟨_, rfl, _, rfl, a, _, rfl, .inl hS, _, _, rfl, rfl, _, rfl, ?_⟩
    by_cases hlt : (i : Int) < (ns.map V.int).length
    · refine ifT (decide_eq_true hlt) ?_
      have hl2 : i < ns.length := by
        rw [List.length_map] at hlt
        omega
      have hat : (ns.map V.int)[i]? = some (.int ns[i]) := by rw [List.getElem?_map, List.getElem?_eq_getElem hl2]; rfl
      refine ⟨_, rfl, _, rfl, a, _, _, _, rfl, rfl, hS, atI_nat hat, ?_⟩
      refine ⟨_, rfl, _, _, rfl, rfl, ⟨by decide, by decide, by decide⟩, _, _, rfl, rfl, _, rfl, ?_⟩
      refine ite2 (fun _ => ?_) (fun _ => ?_)
      · refine ⟨_, rfl, _, rfl, .inl ⟨_, rfl, _, _, rfl, rfl, (show (2147483629 : Int) ≠ 0 by decide), ?_⟩⟩
        exact ⟨(by show 3 ≤ sizeLine; decide), fun l hl => k l _ _ hl⟩
      · refine ⟨_, rfl, .inl ⟨_, rfl, _, _, rfl, rfl, (show (2147483629 : Int) ≠ 0 by decide), ?_⟩⟩
        exact ⟨(by show 3 ≤ sizeLine; decide), fun l hl => k l _ _ hl⟩
    · refine ifF (decide_eq_false hlt) ?_
      refine ⟨_, rfl, _, _, rfl, rfl, .inl ⟨by decide, by decide⟩, _, _, rfl, rfl, ?_⟩
      refine ⟨_, rfl, _, _, rfl, rfl, ⟨by decide, by decide, by decide⟩, _, _, rfl, rfl, _, rfl, ?_⟩
      refine ite2 (fun _ => ?_) (fun _ => ?_)
      · refine ⟨_, rfl, _, rfl, .inl ⟨_, rfl, _, _, rfl, rfl, (show (2147483629 : Int) ≠ 0 by decide), ?_⟩⟩
        exact ⟨(by show 3 ≤ sizeLine; decide), fun l hl => k l _ _ hl⟩
      · refine ⟨_, rfl, .inl ⟨_, rfl, _, _, rfl, rfl, (show (2147483629 : Int) ≠ 0 by decide), ?_⟩⟩
        exact ⟨(by show 3 ≤ sizeLine; decide), fun l hl => k l _ _ hl⟩
theorem scDw : FnScope ["_law_draws", "_law_many", "_law_found"] ["_law_draws", "_law_many"] (defScope sDraw) := ⟨rfl, rfl, rfl, by decide +kernel, rfl, by decide +kernel, by decide +kernel⟩
theorem fmod_lo {a m : Int} (h : 0 < m) : 0 ≤ a.fmod m := by
  rw [Int.fmod_eq_emod_of_nonneg _ (Int.le_of_lt h)]
  exact Int.emod_nonneg _ (by omega)
theorem fmod_hi {a m : Int} (h : 0 < m) : a.fmod m < m := by
  rw [Int.fmod_eq_emod_of_nonneg _ (Int.le_of_lt h)]
  exact Int.emod_lt_of_pos _ h
theorem ok_draw {f : Addr} {fd : FuncData} (F : Fun K "_law_draw" "_law_draw" sDraw f fd) (T : DT mg) : FnOk P w K mg base CX0 1 f fd ["_law_draws", "_law_many"] spDraw := by
  refine F.ok scDw (fun vs H Q E h => ?_) (fun cdv A outer s H vs Q E hr h => ?_)
  · obtain ⟨d, m, x, y, z, rfl, _⟩ := h
    rfl
  · obtain ⟨d, m, x, y, z, rfl, hd, m0, m1, k⟩ := h
    refine ⟨_, pss_cons (ps_if (pt_cmpR op_gt (pe_ix ix_list (pv 0) pe_int (fun _ _ => rfl)) pe_int (nomark _))
        (pss_cons (ps_set (i := 2) scDw.nd rfl (.inl rfl) (pe_op op_modN (pe_callTy call_int1 (by rfl) T.int (by decide +kernel) (pa_cons (pe_ix ix_list (pv 0) pe_int (fun _ _ => rfl)) pa_nil)) (pv 1)))
        (pss_cons (ps_asg (pe_op op_fdivN (pe_ix ix_list (pv 0) pe_int (fun _ _ => rfl)) (pv 1)) (pg_sub (pv 0) pe_int set_list)) (pss_one (ps_ret (pv 2))))) pss_nil)
      (pss_cons (ps_asg (pe_op op_add (pe_ix ix_list (pv 0) pe_int (fun _ _ => rfl)) pe_int) (pg_sub (pv 0) pe_int set_list))
      (pss_cons (ps_asg (pe_op op_modN (pe_callTy call_int1 (by rfl) T.int (by decide +kernel) (pa_cons (pe_op op_add (pe_op op_add (pe_op op_mul (pe_ix ix_list (pv 0) pe_int (fun _ _ => rfl)) pe_int) (pe_op op_mul (pe_ix ix_list (pv 0) pe_int (fun _ _ => rfl)) pe_int)) pe_int) pa_nil)) pe_int) (pg_sub (pv 0) pe_int set_list))
      (pss_one (ps_ret (pe_op op_modN (pe_callTy call_int1 (by rfl) T.int (by decide +kernel) (pa_cons (pe_op op_add (pe_op op_fdivN (pe_ix ix_list (pv 0) pe_int (fun _ _ => rfl)) pe_int) (pe_ix ix_list (pv 0) pe_int (fun _ _ => rfl))) pa_nil)) (pv 1)))))), ?_⟩
    have mne : m ≠ 0 := by omega
    refine ⟨_, rfl, d, _, 0, _, rfl, rfl, .inl (.inl hd), rfl, _, _, rfl, rfl, _, rfl, ?_⟩
    by_cases hx : 0 < x
    · refine ifT (decide_eq_true hx) ?_
      refine ⟨_, rfl, d, _, 0, _, rfl, rfl, .inl (.inl hd), rfl, .inl ⟨_, rfl, _, rfl, _, _, rfl, rfl, mne, ?_⟩⟩
      refine ⟨_, rfl, d, _, 0, _, rfl, rfl, .inl (.inl hd), rfl, _, rfl, _, _, rfl, rfl, ⟨mne, by omega⟩, ?_⟩
      refine ⟨_, rfl, d, _, 0, 0, rfl, rfl, hd, rfl, ?_⟩
      exact ⟨_, rfl, k _ _ y z (fmod_lo m0) (fmod_hi m0)⟩
    · refine ifF (decide_eq_false hx) ?_
      refine ⟨_, rfl, d, _, 2, _, rfl, rfl, .inl (.inl hd), rfl, _, _, rfl, rfl, ?_⟩
      refine ⟨_, rfl, d, _, 2, 2, rfl, rfl, hd, rfl, ?_⟩
      obtain ⟨H1, e1⟩ : ∃ H1, H1 = upd H d (dr x y (z + 1)) := ⟨_, rfl⟩
      have h1 : H1 d = some (dr x y (z + 1)) := by rw [e1, upd_same]
      show tSeq _ _ _ _ (upd H d (dr x y (z + 1)))
      rw [← e1]
      refine ⟨_, rfl, d, _, 1, _, rfl, rfl, .inl (.inl h1), rfl, _, _, rfl, rfl, .inr ⟨by decide, by decide⟩, ?_⟩
      refine ⟨_, rfl, d, _, 2, _, rfl, rfl, .inl (.inl h1), rfl, _, _, rfl, rfl, .inr ⟨by decide, by decide⟩, ?_⟩
      refine ⟨_, _, rfl, rfl, _, _, rfl, rfl, .inl ⟨_, rfl, _, _, rfl, rfl, (show (2147483629 : Int) ≠ 0 by decide), ?_⟩⟩
      refine ⟨_, rfl, d, _, 1, 1, rfl, rfl, h1, rfl, ?_⟩
      refine ⟨_, rfl, d, _, 1, _, rfl, rfl, .inl (.inl upd_same), rfl, _, _, rfl, rfl, (show (32768 : Int) ≠ 0 ∧ (32768 : Int).natAbs < 1073741824 by decide), ?_⟩
      refine ⟨_, rfl, d, _, 1, _, rfl, rfl, .inl (.inl upd_same), rfl, _, _, rfl, rfl, .inl ⟨_, rfl, _, rfl, _, _, rfl, rfl, mne, ?_⟩⟩
      rw [e1, upd_upd]
      exact k _ x _ (z + 1) (fmod_lo m0) (fmod_hi m0)
end
end Mv
namespace Mv
open PySem PySem.Spec PyProof.Rows L2
theorem sq_upd {K : PySem.W.Frag} {H : Hp} {l d : Addr} {o : HO} {xs : List V} (h : SqL K H l xs) (n : l ≠ d) : SqL K (upd H d o) l xs := by
  rcases h with h | h
  · rcases h with h | ⟨u, h⟩
    · exact .inl (.inl (by rw [upd_ne n]; exact h))
    · exact .inl (.inr ⟨u, by rw [upd_ne n]; exact h⟩)
  · exact .inr h
def spPick (K : PySem.W.Frag) : Sp := fun vs H Q _ => ∃ (d l : Addr) (x y z : Int) (xs : List V), vs = [.ref d, .ref l] ∧ H d = some (dr x y z) ∧ l ≠ d ∧ SqL K H l xs ∧ 0 < xs.length ∧ xs.length < 1000 ∧ ∀ (i : Nat) (v : V) (x' y' z' : Int), xs[i]? = some v → Q v (upd H d (dr x' y' z'))
/-- the heap but for d -/
def But (d : Addr) (H H' : Hp) : Prop := ∀ b o, H b = some o → b ≠ d → H' b = some o
theorem But.refl (d : Addr) (H : Hp) : But d H H := fun _ _ h _ => h
theorem But.trans {d : Addr} {H H1 H2 : Hp} (a : But d H H1) (b : But d H1 H2) : But d H H2 := fun c o h n => b c o (a c o h n) n
theorem But.of {d : Addr} {H H1 : Hp} (a : Same H H1) : But d H H1 := fun c o h _ => a c o h
theorem But.upd {d : Addr} {H : Hp} {o : HO} : But d H (upd H d o) := fun c u h n => by
  rw [upd_ne n]
  exact h
section
variable {P : Program} {w : World} {K : PySem.W.Frag} {mg : Str → Option Value} {base : Heap}
theorem scPk : FnScope ["_law_draws", "_law_xs"] ["_law_draws", "_law_xs"] (defScope sPick) := ⟨rfl, rfl, rfl, by decide +kernel, rfl, by decide +kernel, by decide +kernel⟩
theorem ok_pick {f fD : Addr} {fd fdD : FuncData} (F : Fun K "_law_pick" "_law_pick" sPick f fd) (T : DT mg) (gD : mg "_law_draw" = some (.ref fD)) (kD : PySem.W.keepIn K (.ref fD) = true) (GD : FnOk P w K mg base CX0 1 fD fdD ["_law_draws", "_law_many"] spDraw) (bD : Binds K fdD ["_law_draws", "_law_many"] []) :
    FnOk P w K mg base CX0 2 f fd ["_law_draws", "_law_xs"] (spPick K) := by
  refine F.ok scPk (fun vs H Q E h => ?_) (fun cdv A outer s H vs Q E hr h => ?_)
  · obtain ⟨d, l, x, y, z, xs, rfl, _⟩ := h
    rfl
  · obtain ⟨d, l, x, y, z, xs, rfl, hd, nl, hl, l0, l1, k⟩ := h
    refine ⟨_, pss_one (ps_ret (pe_ix ix_list (pv 1) (pe_call GD hr rfl gD kD bD .nil pass0 (pa_cons (pv 0) (pa_cons (pe_callB call_len_seq (by rfl) T.len PySem.boot_len (pa_cons (pv 1) pa_nil)) pa_nil))) (fun _ _ => rfl))), ?_⟩
    refine ⟨_, rfl, _, rfl, _, rfl, l, xs, rfl, .inl hl, d, _, x, y, z, rfl, hd, by omega, by omega, fun r x' y' z' r0 r1 => ?_⟩
    have hi : r.toNat < xs.length := by omega
    have er : ((r.toNat : Nat) : Int) = r := Int.toNat_of_nonneg r0
    have hat := List.getElem?_eq_getElem hi
    refine ⟨l, xs, r, xs[r.toNat], rfl, rfl, sq_upd hl nl, ?_, k _ _ x' y' z' hat⟩
    have q := atI_nat hat
    rw [er] at q
    exact q
end
end Mv
namespace Mv
open PySem PySem.Spec PyProof.Rows L2 LamX
/-! ### what stays through the law: all but the draws' list and the tables -/
def Fr (d : Addr) (H H' : Hp) : Prop := ∀ b o, H b = some o → b ≠ d → (∀ ps, o ≠ .tbl ps) → H' b = some o
theorem Fr.refl (d : Addr) (H : Hp) : Fr d H H := fun _ _ h _ _ => h
theorem Fr.trans {d : Addr} {H H1 H2 : Hp} (a : Fr d H H1) (b : Fr d H1 H2) : Fr d H H2 := fun c o h n t => b c o (a c o h n t) n t
theorem Fr.same {d : Addr} {H H1 : Hp} (a : Same H H1) : Fr d H H1 := fun c o h _ _ => a c o h
theorem Fr.but {d : Addr} {H H1 : Hp} (a : But d H H1) : Fr d H H1 := fun c o h n _ => a c o h n
theorem Fr.ext {d : Addr} {H H1 : Hp} (a : ExtN H H1) : Fr d H H1 := fun c o h _ t => a c o h t
/-- a list that stays -/
def SqS (K : PySem.W.Frag) (H : Hp) (a d : Addr) (xs : List V) : Prop := ∀ H', Fr d H H' → SqL K H' a xs
theorem SqS.fr {K : PySem.W.Frag} {H H' : Hp} {a d : Addr} {xs : List V} (h : SqS K H a d xs) (f : Fr d H H') : SqS K H' a d xs := fun H2 f2 => h H2 (f.trans f2)
theorem SqS.now {K : PySem.W.Frag} {H : Hp} {a d : Addr} {xs : List V} (h : SqS K H a d xs) : SqL K H a xs := h H (Fr.refl d H)
theorem SqS.of {K : PySem.W.Frag} {H : Hp} {a d : Addr} {xs : List V} (h : SqL K H a xs) (n : H d = none) : SqS K H a d xs := by
  intro H' f
  rcases h with h | h
  · rcases h with h | ⟨u, h⟩
    · exact .inl (.inl (f _ _ h (ne_of_none h n) (fun ps z => by cases z)))
    · exact .inl (.inr ⟨u, f _ _ h (ne_of_none h n) (fun ps z => by cases z)⟩)
  · exact .inr h
/-- the tables stay by what changes but d -/
theorem tabs_but {T : List (Addr × Str)} {H H' : Hp} {d : Addr} {x y z : Int} (t : Tabs T H) (hd : H d = some (dr x y z)) (f : But d H H') : Tabs T H' := by
  intro p hp
  obtain ⟨ps, h1, h2, h3⟩ := t p hp
  have ne : ∀ {b : Addr} {o : HO}, H b = some o → o ≠ dr x y z → b ≠ d := fun {b o} e n z => by
    rw [z, hd] at e
    exact n (Option.some.inj e).symm
  refine ⟨ps, f _ _ h1 (ne h1 fun z => by cases z), h2, fun pos cv hc => ?_⟩
  obtain ⟨c, e1, e2⟩ := h3 pos cv hc
  exact ⟨c, e1, f _ _ e2 (ne e2 fun z => by unfold CodeO dr at z; cases z)⟩
theorem tabs_same {T : List (Addr × Str)} {H H' : Hp} (t : Tabs T H) (f : Same H H') : Tabs T H' := t.ext f
/-! ### defs by their names -/
structure Dn (P : Program) (w : World) (K : PySem.W.Frag) (mg : Str → Option Value) (base : Heap) (CX : CXT) (k : Nat) (x : Str) (ps : List Str) (sp : Sp) : Prop where
  ex : ∃ f fd, FnOk P w K mg base CX k f fd ps sp ∧ mg x = some (.ref f) ∧ PySem.W.keepIn K (.ref f) = true ∧ Binds K fd ps []
section
variable {X : Cx} {CX : CXT} {k j : Nat} {x : Str} {ps : List Str} {sp : Sp} {E : XK} {e : Expr} {es : List Expr} {t : TA} {tc : TE} {p pos : Pos}
theorem pe_d (D : Dn X.prog X.w X.K X.mg X.base CX k x ps sp) (hr : Room j X.A) (hk : k ≤ j) (hg : Gl X x) (hx : Passes CX X E) (ha : PA X (e :: es) t) (hdb : (x == ("__debug__" : Str)) = false := by decide)
    (he : starEach (e :: es) X.env = (false, eval e X.env) :: starEach es X.env := by rfl) (hpl : (backTo pos (starEach es X.env)).any (·.1) = false := by rfl) : PE X (.Call (.Name x p) (e :: es) [] pos) (tCall sp [] E t) := by
  obtain ⟨f, fd, F, hm, kp, b⟩ := D.ex
  exact pe_call F (hr.mono hk) hg hm kp b .nil hx ha hdb he hpl
theorem pe_d0 (D : Dn X.prog X.w X.K X.mg X.base CX k x ps sp) (hr : Room j X.A) (hk : k ≤ j) (hg : Gl X x) (hx : Passes CX X E) (hdb : (x == ("__debug__" : Str)) = false := by decide) : PE X (.Call (.Name x p) [] [] pos) (tCall sp [] E tNil) := by
  obtain ⟨f, fd, F, hm, kp, b⟩ := D.ex
  exact pe_call0 F (hr.mono hk) hg hm kp b .nil hx hdb
/-- a callee picked by an expression that is no name and no attribute: one of the defs that FF tells -/
def tCallP (FF : Addr → Sp → Prop) (E : XK) (tc : TE) (t : TA) : TE := fun σ H Q => tc σ H fun v H1 => ∃ f sp, v = .ref f ∧ FF f sp ∧ t σ H1 fun vs H2 => sp (vs ++ []) H2 Q E
theorem pe_callP {FF : Addr → Sp → Prop} {a b : Expr} (hF : ∀ f sp, FF f sp → ∃ fd ps, FnOk X.prog X.w X.K X.mg X.base CX k f fd ps sp ∧ PySem.W.keepIn X.K (.ref f) = true ∧ Binds X.K fd ps []) (hr : Room k X.A) (hc : PE X (.Subscript a b p) tc) (hx : Passes CX X E) (ha : PA X (e :: es) t)
    (he : starEach (e :: es) X.env = (false, eval e X.env) :: starEach es X.env := by rfl) (hpl : (backTo pos (starEach es X.env)).any (·.1) = false := by rfl) : PE X (.Call (.Subscript a b p) (e :: es) [] pos) (tCallP FF E tc t) := by
  refine ⟨fun pins s σ H Q I h => ?_⟩
  have arm : eval (.Call (.Subscript a b p) (e :: es) [] pos) X.env = (do
      callWith pos (← eval (.Subscript a b p) X.env) [] (backTo pos (starEach (e :: es) X.env)) (backToKw pos (keywordEach [] X.env))) := rfl
  rw [arm]
  refine wpAny_bind (thn (hc.run pins s σ H _ I h) fun u s1 ⟨v, H1, I1, rv, f, sp, ev, hf, ht⟩ => ?_)
  subst ev
  cases rv
  obtain ⟨fd, ps, F, kp, b⟩ := hF f sp hf
  refine PySem.W.callWith_K (h₀ := X.base) I1.ok.mod.kin kp (thn (ha.run pos pins s1 σ H1 _ I1 ht) fun us s2 ⟨vs, H2, I2, r, q⟩ => ⟨I2.kIn, ?_⟩) he hpl
  exact run_fn F hr b .nil hx I2 r q
end
section
variable {X : Cx} {CX : CXT} {k i : Nat} {f : Addr} {sp : Sp} {E : XK} {x : Str} {e : Expr} {es : List Expr} {t : TA} {p pos : Pos}
theorem pe_callR (F : FnR X.prog X.w X.K X.mg X.base CX k f sp) (hr : Room k X.A) (hk : PySem.W.keepIn X.K (.ref f) = true) (hg : Gl X x) (hm : X.mg x = some (.ref f)) (hx : Passes CX X E) (ha : PA X (e :: es) t) (hd : (x == ("__debug__" : Str)) = false := by decide)
    (he : starEach (e :: es) X.env = (false, eval e X.env) :: starEach es X.env := by rfl) (hpl : (backTo pos (starEach es X.env)).any (·.1) = false := by rfl) :
    PE X (.Call (.Name x p) (e :: es) [] pos) (fun σ H Q => t σ H fun vs H1 => sp vs H1 Q E) := by
  refine ⟨fun pins s σ H Q I h => wpAny_Call_Name_kw (ld_glob I hg hm ?_ hd)⟩
  refine PySem.W.callWith_K (h₀ := X.base) I.ok.mod.kin hk (thn (ha.run pos pins s σ H _ I h) fun us s1 ⟨vs, H1, I1, r, q⟩ => ⟨I1.kIn, ?_⟩) he hpl
  exact wpAny_call (run_fnR F hr hx I1 r q)
theorem pe_callR0 (F : FnR X.prog X.w X.K X.mg X.base CX k f sp) (hr : Room k X.A) (hk : PySem.W.keepIn X.K (.ref f) = true) (hg : Gl X x) (hm : X.mg x = some (.ref f)) (hx : Passes CX X E) (hd : (x == ("__debug__" : Str)) = false := by decide) :
    PE X (.Call (.Name x p) [] [] pos) (fun _ H Q => sp [] H Q E) :=
  ⟨fun pins s σ H Q I h => wpAny_Call_Name_kw (ld_glob I hg hm (PySem.W.callWith_K0 I.kIn hk (wpAny_call (run_fnR (us := []) F hr hx I .nil h))) hd)⟩
end
/-- a callee that may raise, where it doesn't -/
theorem passX {X : Cx} : Passes (L2.CX X.prog X.w) X E0 := passes_call (E := fun _ _ _ => False) L2.takes0 (fun _ _ _ _ q => q)
/-! ### statements told by what holds ahead of and behind them -/
def Ho (X : Cx) (st : Stmt) (pre post : L2.St → Hp → Prop) : Prop := ∃ t, PS X st t ∧ ∀ D σ H, pre σ H → (∀ σ' H', post σ' H' → D.nx σ' H') → t D σ H
def Hos (X : Cx) (sts : List Stmt) (pre post : L2.St → Hp → Prop) : Prop := ∃ t, PSs X sts t ∧ ∀ D σ H, pre σ H → (∀ σ' H', post σ' H' → D.nx σ' H') → t D σ H
theorem Ho.cons {X : Cx} {st : Stmt} {r : List Stmt} {a b c : L2.St → Hp → Prop} (h : Ho X st a b) (g : Hos X r b c) : Hos X (st :: r) a c := by
  obtain ⟨t, ht, kt⟩ := h
  obtain ⟨u, hu, ku⟩ := g
  refine ⟨_, C8.pss_cut ht hu, fun D σ H ha k => ⟨b, kt _ σ H ha fun _ _ q => q, fun σ' H' hb => ku D σ' H' hb k⟩⟩
theorem Hos.nil {X : Cx} {a : L2.St → Hp → Prop} : Hos X [] a a := ⟨_, pss_nil, fun _ _ _ ha k => k _ _ ha⟩
end Mv
/-! == of dicts whose keys are tuples, their values ints -/
namespace Mv
open PySem PySem.Spec PyProof.Rows
section
variable {prog : Program} {w : World} {K : Type} [DecidableEq K] {knd : HeapKind prog w K} {A : Around} {E : Value → Shared → Prop} {s : Shared} {a b : Addr} {xa xb : List (K × Addr × Value)}
def IntV (v : Value) : Prop := ∃ i t, v = Value.int i t
def InT (x : K × Addr × Value) (xb : List (K × Addr × Value)) : Prop := ∃ y ∈ xb, y.1 = x.1 ∧ ∃ i t u, x.2.2 = Value.int i t ∧ y.2.2 = Value.int i u
theorem samePairsT {nm : String} {Q : Bool → Shared → Prop} (ha : (a == sysModules) = false) (hb : (b == sysModules) = false) (da : Heap.DictOfH knd s.heap a xa) (db : Heap.DictOfH knd s.heap b xb) (hu : knd.room A) (hi : ∀ x ∈ xa, IntV x.2.2) (hj : ∀ x ∈ xb, IntV x.2.2)
    (h : ∀ r, (r = true → xa.length = xb.length ∧ ∀ x ∈ xa, InT x xb) → Q r s) : wpAny (model prog w) A (Builtin.Dict.samePairs nm a b) Q E s := by
  obtain ⟨oa, ea, pa, ga, ta, va, la, ka, na⟩ := da
  obtain ⟨ob, eb, pb, gb, tb, vb, lb, kb, nb⟩ := db
  have sa : ea.size = xa.length := by rw [← Array.length_toList, la, List.length_map]
  have sb : eb.size = xb.length := by rw [← Array.length_toList, lb, List.length_map]
  unfold Builtin.Dict.samePairs Builtin.Dict.showsAll
  rw [ha, hb]
  refine wpAny_bind (wpAny_pure ?_)
  refine wpAny_bind (wpAny_pure ?_)
  refine wpAny_bind (wpAny_dictEntries ga va ?_)
  refine wpAny_bind (wpAny_dictEntries gb vb ?_)
  dsimp only
  by_cases hn : ea.size = eb.size
  · have e1 : (ea.size != eb.size) = false := by rw [hn]; simp
    rw [e1]
    rw [if_neg Bool.false_ne_true]
    refine wpAny_bind (wpAny_dictEpoch ga va ?_)
    rw [Std.Legacy.Range.forIn_eq_forIn_range']
    have hlen : xa.length = xb.length := by omega
    have es : List.range' [:ea.size].start [:ea.size].size [:ea.size].step = List.range' 0 xa.length 1 := by
      have : ([:ea.size] : Std.Legacy.Range).size = xa.length := by
        unfold Std.Legacy.Range.size
        simp [sa]
      rw [this]
    rw [es]
    refine wpAny_bind ?_
    refine wpAny_forIn_list _ (fun l c s' => s' = s ∧ c = (none, ()) ∧ ∃ i, l = List.range' i (xa.length - i) 1 ∧ i ≤ xa.length ∧ ∀ j x, j < i → xa[j]? = some x → InT x xb) _ ?_ ?_ _ _ ⟨rfl, rfl, 0, rfl, Nat.zero_le _, fun j x hj _ => absurd hj (Nat.not_lt_zero j)⟩
    · rintro i0 rest c s' ⟨rfl, rfl, i, hl, hle, pre⟩
      have hlt : i < xa.length := by
        rcases Nat.lt_or_ge i xa.length with q | q
        · exact q
        · rw [Nat.sub_eq_zero_of_le q] at hl
          cases hl
      obtain ⟨m, hm⟩ : ∃ m, xa.length - i = m + 1 := ⟨xa.length - i - 1, by omega⟩
      rw [hm, List.range'_succ] at hl
      obtain ⟨rfl, rfl⟩ := List.cons.inj hl
      have hx := List.getElem?_eq_getElem hlt
      generalize xa[i0] = x at hx
      have he : ea[i0]? = some (entryOfKey knd x) := by
        rw [← Array.getElem?_toList, la, List.getElem?_map, hx]
        rfl
      have mx := List.mem_of_getElem? hx
      refine wpAny_bind (wpAny_dictEntries ga va ?_)
      rw [he]
      refine wpAny_bind (wpAny_holding ?_)
      refine wpAny_bind ?_
      refine wpAny_dictFind_heap (xs := xb) (k := x.1) hu (ka x mx) gb vb lb kb nb (fun none_ => ?_) fun j p hp => ?_
      · refine wpAny_pure ?_
        rw [show (!false) = true from rfl, if_pos rfl]
        exact wpAny_pure (wpAny_pure (h false fun z => by cases z))
      · have hf : eb[j]? = some (entryOfKey knd (x.1, p)) := by
          rw [← Array.getElem?_toList, lb, List.getElem?_map, hp]
          rfl
        have my := List.mem_of_getElem? hp
        refine wpAny_bind (wpAny_dictEntries gb vb ?_)
        rw [hf]
        refine wpAny_holding ?_
        obtain ⟨n1, t1, q1⟩ := hi x mx
        obtain ⟨n2, t2, q2⟩ := hj _ my
        have q3 : (entryOfKey knd x).val = Value.int n1 t1 := q1
        have q4 : (entryOfKey knd (x.1, p)).val = Value.int n2 t2 := q2
        rw [q3, q4]
        refine wpAny_eqBool_int ?_
        by_cases hq : n1 = n2
        · rw [show (!(n1 == n2)) = false by simp [hq], if_neg Bool.false_ne_true]
          refine wpAny_bind (wpAny_dictEpoch ga va ?_)
          rw [show (pa != pa) = false by simp, if_neg Bool.false_ne_true]
          refine wpAny_pure ⟨rfl, rfl, i0 + 1, ?_, hlt, fun j2 x2 h2 e2 => ?_⟩
          · rw [show xa.length - (i0 + 1) = m by omega]
          · rcases Nat.lt_or_eq_of_le (Nat.le_of_lt_succ h2) with q | q
            · exact pre j2 x2 q e2
            · subst q
              rw [hx] at e2
              cases e2
              exact ⟨(x.1, p), my, rfl, n1, t1, t2, q1, by rw [hq]; exact q2⟩
        · rw [show (!(n1 == n2)) = true by simp [hq], if_pos rfl]
          exact wpAny_pure (wpAny_pure (h false fun z => by cases z))
    · rintro c s' ⟨rfl, rfl, i, hl, hle, pre⟩
      have hi2 : i = xa.length := by
        have := congrArg List.length hl
        simp at this
        omega
      refine wpAny_pure (h true fun _ => ⟨hlen, fun x hx => ?_⟩)
      obtain ⟨j, hj2, e⟩ := List.getElem_of_mem hx
      exact pre j x (by omega) (by rw [List.getElem?_eq_getElem hj2, e])
  · have e1 : (ea.size != eb.size) = true := by simpa using hn
    rw [e1]
    rw [if_pos rfl]
    refine wpAny_bind (wpAny_rule ?_)
    exact wpAny_pure (h false fun z => by cases z)
theorem eqT_dicts {Q : Value → Shared → Prop} (ha : (a == sysModules) = false) (hb : (b == sysModules) = false) (da : Heap.DictOfH knd s.heap a xa) (db : Heap.DictOfH knd s.heap b xb) (hr : knd.room A.in1) (hu : A.units < cLine) (hi : ∀ x ∈ xa, IntV x.2.2) (hj : ∀ x ∈ xb, IntV x.2.2)
    (h : ∀ r, (r = true → xa.length = xb.length ∧ ∀ x ∈ xa, InT x xb) → Q (.bool r) s) : wpAny (model prog w) A (richCompare .Eq (.ref a) (.ref b)) Q E s := by
  refine wpAny_richCompare_same_room (op := .Eq) da.typeIs db.typeIs PySem.F.slot_dict_eq (wpAny_call_entry PySem.F.slot_dict_eq da.typeIs PySem.F.entry_dict_eq ?_ (PySem.F.args_dict_eq_2 _ _)) hu
  refine wpAny_bind (wpAny_bind (wpAny_notOrdered_dict da.typeIs ?_))
  refine wpAny_bind (wpAny_pure (a := (Value.ref a, [Value.ref b])) ?_)
  refine wpAny_pure ?_
  refine wpAny_bind (wpAny_isInstance db.typeIs PySem.F.sub_dict_dict ?_)
  rw [show (!true) = false from rfl, if_neg Bool.false_ne_true]
  refine wpAny_bind (wpAny_pure (a := a) ?_)
  refine wpAny_bind (wpAny_pure (a := b) ?_)
  refine wpAny_bind (samePairsT ha hb da db hr hi hj fun r hr => ?_)
  rw [show (r == true) = r by cases r <;> rfl]
  exact wpAny_pure ⟨_, rfl, (fun z => by cases z), h r hr⟩
end
theorem sub_rev {α : Type} [DecidableEq α] : ∀ {l m : List α}, l.Nodup → (∀ x ∈ l, x ∈ m) → m.length ≤ l.length → ∀ x ∈ m, x ∈ l
  | [], m, _, _, hl, x, hx => by
    cases m with
    | nil => exact hx
    | cons _ _ => exact absurd hl (by simp)
  | y :: l, m, nd, hs, hl, x, hx => by
    rw [List.nodup_cons] at nd
    by_cases e : x = y
    · rw [e]; exact List.mem_cons_self
    · refine List.mem_cons_of_mem _ ?_
      have hy : y ∈ m := hs y List.mem_cons_self
      refine sub_rev (m := m.erase y) nd.2 (fun z hz => ?_) ?_ x ((List.mem_erase_of_ne e).mpr hx)
      · have nz : z ≠ y := fun q => nd.1 (q ▸ hz)
        exact (List.mem_erase_of_ne nz).mpr (hs z (List.mem_cons_of_mem _ hz))
      · rw [List.length_erase_of_mem hy]
        rw [List.length_cons] at hl
        omega
theorem getP_same {ps qs : Prs} (n1 : (ps.map (·.1)).Nodup) (n2 : (qs.map (·.1)).Nodup) (hl : ps.length = qs.length) (h : ∀ p ∈ ps, p ∈ qs) (t : Term) : getP ps t = getP qs t := by
  by_cases e : t ∈ ps.map (·.1)
  · obtain ⟨p, hp, rfl⟩ := List.mem_map.mp e
    rw [getP_mem n1 hp, getP_mem n2 (h p hp)]
  · have e2 : t ∉ qs.map (·.1) := fun z => e (sub_rev n1 (fun x hx => by
      obtain ⟨p, hp, rfl⟩ := List.mem_map.mp hx
      exact List.mem_map.mpr ⟨p, h p hp, rfl⟩) (by rw [List.length_map, List.length_map, hl]; exact Nat.le_refl _) t z)
    rw [getP_no fun p hp z => e (List.mem_map.mpr ⟨p, hp, z⟩), getP_no fun p hp z => e2 (List.mem_map.mpr ⟨p, hp, z⟩)]
open L2 in
def rEqDT : R2 := fun x y H Q => ∃ (a b : Addr) (ps qs : Prs), x = .ref a ∧ y = .ref b ∧ H a = some (.dT (dct ps)) ∧ H b = some (.dT (dct qs)) ∧ (ps.map (·.1)).Nodup ∧ (qs.map (·.1)).Nodup ∧ ∀ r, (r = true → ∀ t, getP ps t = getP qs t) → Q (.bl r) H
open L2 in
theorem kt_int {H : Hp} {ps : Prs} {xs : List (List L2.Key × Addr × Value)} (h : KT H (dct ps) xs) : ∀ x ∈ xs, ∃ p ∈ ps, x.1 = keyT p.1 ∧ ∃ t, x.2.2 = Value.int p.2 t := by
  induction ps generalizing xs with
  | nil =>
    cases h
    intro x hx
    simp at hx
  | cons p ps ih =>
    cases h with
    | @cons _ q _ qs h r =>
      intro x hx
      rcases List.mem_cons.mp hx with e | hx
      · subst e
        obtain ⟨e1, _, e3⟩ := h
        exact ⟨p, List.mem_cons_self, e1.symm, e3⟩
      · obtain ⟨p2, h1, h2⟩ := ih r x hx
        exact ⟨p2, List.mem_cons_of_mem _ h1, h2⟩
open L2 in
theorem op_eqDT {X : Cx} {k : Nat} (hr : Room (k + 1) X.A) : OpR X (compareOp .Eq) rEqDT := by
  intro pins s σ H x y v u Q I rx ry h
  obtain ⟨a, b, ps, qs, rfl, rfl, ha, hb, n1, n2, q⟩ := h
  cases rx
  cases ry
  obtain ⟨_, sa, xa, ka, da⟩ := dt_of I.hok ha
  obtain ⟨_, sb, xb, kb, db⟩ := dt_of I.hok hb
  show wpAny (model X.prog X.w) X.A (richCompare .Eq (.ref a) (.ref b)) (EP X pins σ Q) X.xe s
  refine eqT_dicts sa sb da db hr.in1.units0 hr.units0 (fun x hx => ?_) (fun x hx => ?_) fun r hr2 => ⟨.bl r, H, I, rfl, q r fun er => ?_⟩
  · obtain ⟨p, _, _, t, e⟩ := kt_int ka x hx
    exact ⟨_, _, e⟩
  · obtain ⟨p, _, _, t, e⟩ := kt_int kb x hx
    exact ⟨_, _, e⟩
  · obtain ⟨hl, hin⟩ := hr2 er
    have l1 : (dct ps).length = xa.length := Paired.length ka
    have l2 : (dct qs).length = xb.length := Paired.length kb
    rw [dct_len] at l1 l2
    refine getP_same n1 n2 (by omega) fun p hp => ?_
    obtain ⟨i, hi⟩ := List.getElem?_of_mem hp
    have hi2 : (dct ps)[i]? = some (keyT p.1, V.int p.2) := by
      unfold dct
      rw [List.getElem?_map, hi]
      rfl
    obtain ⟨x, hx, e1, _, e3⟩ := pairAtI ka hi2
    obtain ⟨y, hy, f1, n, t, u, f2, f3⟩ := hin x (List.mem_of_getElem? hx)
    obtain ⟨p2, hp2, g1, t2, g2⟩ := kt_int kb y hy
    obtain ⟨t3, g3⟩ := e3
    have h1 : keyT p2.1 = keyT p.1 := by rw [← g1, f1]; exact e1.symm
    have h2 : p2.2 = p.2 := by
      rw [f3] at g2
      rw [g3] at f2
      injection g2 with g2
      injection f2 with f2
      exact g2.symm.trans f2.symm
    have h3 : p2 = p := by
      obtain ⟨_, _⟩ := p
      obtain ⟨_, _⟩ := p2
      have := keyT_inj h1
      simp only at this h2
      rw [this, h2]
    rw [← h3]
    exact hp2
end Mv
namespace Mv
open PySem PySem.Spec PyProof.Rows L2
section
variable {K : PySem.W.Frag} {C CB : Addr}
theorem heard_of {H : Hp} {Q : VK} {zs ys : List Str} (hl : zs.length ≤ 50) (h0 : zs ≠ []) (hk : ∀ z ∈ zs, z.length ≤ sizeLine) (hb : ∀ j, j < zs.length → badAt (zs.map V.str) j = false) (hu : ∀ us : List Str, us.Perm zs → sortedS us = true → us = ys)
    (k : ∀ p H', Same H H' → H p = none → FormAt K C H' p [("heard" :: ys, 1)] 0 → Q (.ref p) H') : (zs.map V.str).length ≤ 50 ∧ spHeard K C CB (zs.map V.str) H Q E0 := by
  refine ⟨by rw [List.length_map]; exact hl, fun p hp => ?_⟩
  refine ⟨p, zs.map V.str, rfl, .inl (.inl upd_same), by rw [List.length_map]; exact hl, fun x hx H' _ => ?_, fun e => ?_, fun i x hi hbd _ => ?_, fun _ _ => ⟨zs, rfl, fun us hp2 hs q H' sm hq hf => ?_⟩⟩
  · obtain ⟨z, hz, rfl⟩ := List.mem_map.mp hx
    exact .str (hk z hz)
  · exact absurd (List.map_eq_nil_iff.mp e) h0
  · have hlt : i < zs.length := by
      have := (List.getElem?_eq_some_iff.mp hi).1
      rw [List.length_map] at this
      exact this
    rw [hb i hlt] at hbd
    cases hbd
  · rw [hu us hp2 hs] at hf
    have s0 := same_new (o := .tup (zs.map V.str)) hp
    exact k q H' (s0.trans sm) (upd_nn hq).2 hf
theorem perm_two {a b : Str} {us : List Str} (h : us.Perm [a, b]) : us = [a, b] ∨ us = [b, a] := by
  have hl := h.length_eq
  match us, hl with
  | [x, y], _ =>
    have hx : x ∈ [a, b] := h.mem_iff.mp (by simp)
    by_cases e : x = a
    · subst e
      have h2 := (List.perm_cons x).mp h
      exact .inl (by rw [List.perm_singleton.mp h2])
    · have e2 : x = b := by
        simp [e] at hx
        exact hx
      subst e2
      have h3 : [x, y].Perm [x, a] := h.trans (List.Perm.swap ..)
      have h2 := (List.perm_cons x).mp h3
      exact .inr (by rw [List.perm_singleton.mp h2])
theorem ret1 {te : TE} {D : Ends} {σ : L2.St} {H : Hp} (h : te σ H D.rt) : tRet te D σ H := h
theorem nxt {D : Ends} {σ : L2.St} {H : Hp} (h : D.nx σ H) : tNext D σ H := h
end
end Mv
/-! the operators of forms, as the law uses them -/
namespace Mv
open PySem PySem.Spec PyProof.Rows L2
structure FOp (P : Program) (w : World) (K : PySem.W.Frag) (mg : Str → Option Value) (base : Heap) (C CF : Addr) : Prop where
  add : ∃ f fr fd fdr, OwnOp K C .Add f fr ∧ FnOk P w K mg base (L2.CX P w) 5 f fd ["self", "other"] (spLin K C CF 1 1) ∧ Binds K fd ["self", "other"] [] ∧ FnOk P w K mg base (L2.CX P w) 5 fr fdr ["self", "other"] (spLin K C CF 1 1) ∧ Binds K fdr ["self", "other"] []
  sub : ∃ f fr fd fdr, OwnOp K C .Sub f fr ∧ FnOk P w K mg base (L2.CX P w) 5 f fd ["self", "other"] (spLin K C CF 1 (-1)) ∧ Binds K fd ["self", "other"] [] ∧ FnOk P w K mg base (L2.CX P w) 5 fr fdr ["self", "other"] (spLin K C CF (-1) 1) ∧ Binds K fdr ["self", "other"] []
  mul : ∃ f fr fd fdr, OwnOp K C .Mult f fr ∧ FnOk P w K mg base (L2.CX P w) 5 f fd ["self", "other"] (spTimes K C CF) ∧ Binds K fd ["self", "other"] [] ∧ FnOk P w K mg base (L2.CX P w) 5 fr fdr ["self", "other"] (spTimes K C CF) ∧ Binds K fdr ["self", "other"] []
  neg : ∃ f fd, PySem.W.findIn K (.ref C) "__neg__" = some (some (.ref f)) ∧ PySem.W.isFn K (.ref f) = true ∧ FnOk P w K mg base (L2.CX P w) 5 f fd ["self"] (spNeg K C) ∧ Binds K fd ["self"] []
  ty : ∀ op ∈ [Operator.Add, .Sub, .Mult], ∀ p ∈ [("int", true), ("bool", true), ("NoneType", false), ("str", false), ("tuple", false), ("dict", false)], OwnTy K C op p.1 p.2
section
variable {X : Cx} {C CF : Addr} {E : XK}
theorem op_addL (F : FOp X.prog X.w X.K X.mg X.base C CF) (hr : Room 5 X.A) (hx : Passes (L2.CX X.prog X.w) X E) : OpR X (binaryOp .Add) (OwnL X.K C .Add (spLin X.K C CF 1 1) E) := by
  obtain ⟨f, fr, fd, fdr, D, G, b, Gr, br⟩ := F.add
  exact op_ownL D G b hr hx
theorem op_addR (F : FOp X.prog X.w X.K X.mg X.base C CF) (hr : Room 5 X.A) (hx : Passes (L2.CX X.prog X.w) X E) : OpR X (binaryOp .Add) (OwnR X.K C .Add (spLin X.K C CF 1 1) E) := by
  obtain ⟨f, fr, fd, fdr, D, G, b, Gr, br⟩ := F.add
  exact op_ownR intOp_add D Gr br hr hx
theorem op_subL (F : FOp X.prog X.w X.K X.mg X.base C CF) (hr : Room 5 X.A) (hx : Passes (L2.CX X.prog X.w) X E) : OpR X (binaryOp .Sub) (OwnL X.K C .Sub (spLin X.K C CF 1 (-1)) E) := by
  obtain ⟨f, fr, fd, fdr, D, G, b, Gr, br⟩ := F.sub
  exact op_ownL D G b hr hx
theorem op_subR (F : FOp X.prog X.w X.K X.mg X.base C CF) (hr : Room 5 X.A) (hx : Passes (L2.CX X.prog X.w) X E) : OpR X (binaryOp .Sub) (OwnR X.K C .Sub (spLin X.K C CF (-1) 1) E) := by
  obtain ⟨f, fr, fd, fdr, D, G, b, Gr, br⟩ := F.sub
  exact op_ownR intOp_sub D Gr br hr hx
theorem op_mulL (F : FOp X.prog X.w X.K X.mg X.base C CF) (hr : Room 5 X.A) (hx : Passes (L2.CX X.prog X.w) X E) : OpR X (binaryOp .Mult) (OwnL X.K C .Mult (spTimes X.K C CF) E) := by
  obtain ⟨f, fr, fd, fdr, D, G, b, Gr, br⟩ := F.mul
  exact op_ownL D G b hr hx
theorem op_mulR (F : FOp X.prog X.w X.K X.mg X.base C CF) (hr : Room 5 X.A) (hx : Passes (L2.CX X.prog X.w) X E) : OpR X (binaryOp .Mult) (OwnR X.K C .Mult (spTimes X.K C CF) E) := by
  obtain ⟨f, fr, fd, fdr, D, G, b, Gr, br⟩ := F.mul
  exact op_ownR intOp_mul D Gr br hr hx
theorem un_negF (F : FOp X.prog X.w X.K X.mg X.base C CF) (hr : Room 5 X.A) (hx : Passes (L2.CX X.prog X.w) X E) : UnR X (unaryOp .USub) (OwnU C (spNeg X.K C) E) := by
  obtain ⟨f, fd, h1, h2, G, b⟩ := F.neg
  exact un_ownNeg h1 h2 G b hr hx
end
/-! ### what they ask -/
section
variable {P : Program} {w : World} {K : PySem.W.Frag} {mg : Str → Option Value} {base : Heap} {C CF : Addr} {E : XK} {H : Hp} {Q : VK}
theorem FormAt.ins {p : Addr} {ps : Prs} {r : Int} (h : FormAt K C H p ps r) : ∃ dx fs, H p = some (.ins C dx fs) := let ⟨dx, _, _, e, _⟩ := h.ob; ⟨dx, _, e⟩
theorem ownL_int {op : Operator} {sp : Sp} {p : Addr} {ps : Prs} {r i : Int} (F : FOp P w K mg base C CF) (ho : op ∈ [Operator.Add, .Sub, .Mult]) (hp : FormAt K C H p ps r) (h : sp [.ref p, .int i] H Q E) : OwnL K C op sp E (.ref p) (.int i) H Q := by
  obtain ⟨dx, fs, e⟩ := hp.ins
  exact ⟨p, dx, fs, rfl, e, .inr ⟨"int", true, .base (.int i), F.ty op ho ("int", true) (by simp)⟩, h⟩
theorem ownL_form {op : Operator} {sp : Sp} {p q : Addr} {ps qs : Prs} {r r2 : Int} (hp : FormAt K C H p ps r) (hq : FormAt K C H q qs r2) (h : sp [.ref p, .ref q] H Q E) : OwnL K C op sp E (.ref p) (.ref q) H Q := by
  obtain ⟨dx, fs, e⟩ := hp.ins
  obtain ⟨dy, gs, e2⟩ := hq.ins
  exact ⟨p, dx, fs, rfl, e, .inl ⟨q, dy, gs, rfl, e2⟩, h⟩
theorem ownR_int {op : Operator} {sp : Sp} {p : Addr} {ps : Prs} {r i : Int} (F : FOp P w K mg base C CF) (ho : op ∈ [Operator.Add, .Sub, .Mult]) (hp : FormAt K C H p ps r) (h : sp [.ref p, .int i] H Q E) : OwnR K C op sp E (.int i) (.ref p) H Q := by
  obtain ⟨dx, fs, e⟩ := hp.ins
  exact ⟨p, dx, fs, rfl, e, .inr (.inl ⟨i, rfl, F.ty op ho ("int", true) (by simp)⟩), h⟩
/-- what a linear operator makes of a form and an integer -/
theorem lin_int {a b : Int} {p : Addr} {ps : Prs} {r i : Int} (hp : FormAt K C H p ps r) (cp : Canon ps) (hl : ps.length ≤ 1000) (k : ∀ x H' rs, Same H H' → H x = none → FormAt K C H' x rs (a * r + b * i) → Canon rs → (∀ t, getP rs t = a * getP ps t) → rs.length ≤ ps.length → Q (.ref x) H') : spLin K C CF a b [.ref p, .int i] H Q E := by
  refine ⟨p, _, ps, r, rfl, hp, cp, hl, .inl ⟨[], i, .inr ⟨rfl, rfl⟩, Canon.nil, by simpa using hl, fun x H' rs sm hx hf c g l => k x H' rs sm hx hf c (fun t => ?_) (by simpa using l)⟩⟩
  rw [g t, getP_nil, Int.mul_zero, Int.add_zero]
theorem lin_form {a b : Int} {p q : Addr} {ps qs : Prs} {r r2 : Int} (hp : FormAt K C H p ps r) (hq : FormAt K C H q qs r2) (cp : Canon ps) (cq : Canon qs) (hl : ps.length + qs.length ≤ 1000) (k : Lin K C H ps qs r r2 a b Q) : spLin K C CF a b [.ref p, .ref q] H Q E :=
  ⟨p, _, ps, r, rfl, hp, cp, by omega, .inl ⟨qs, r2, .inl ⟨q, rfl, hq⟩, cq, hl, k⟩⟩
theorem times_int {p : Addr} {ps : Prs} {r i : Int} (hp : FormAt K C H p ps r) (hl : ps.length ≤ 1000) (h1 : -2 ^ 64 < i) (h2 : i < 2 ^ 64) (k : ∀ y H', Same H H' → H y = none → FormAt K C H' y (tmP ps i) (r * i) → Q (.ref y) H') : spTimes K C CF [.ref p, .int i] H Q E :=
  ⟨p, ps, r, _, rfl, hp, hl, .inl ⟨i, rfl, fun _ _ => .inr ⟨h1, h2⟩, .inr ⟨h1, h2⟩, k⟩⟩
end
/-! ### what stays when a list or a dict of one's own is changed -/
theorem rd_but {H H' : Hp} {d a : Addr} {o : HO} {xs : List V} (hd : H d = some o) (h1 : ∀ xs, o ≠ .tup xs) (h2 : ∀ u x, o ≠ .frz u x) (b : But d H H') (h : Rd H a (.tup xs)) : Rd H' a (.tup xs) := by
  rcases h with e | ⟨u, e⟩
  · exact .inl (b _ _ e fun z => by rw [z, hd] at e; exact h1 _ (Option.some.inj e))
  · exact .inr ⟨u, b _ _ e fun z => by rw [z, hd] at e; exact h2 _ _ (Option.some.inj e)⟩
theorem sqT_but {K : PySem.W.Frag} {H H' : Hp} {d a : Addr} {o : HO} {xs : List V} (hd : H d = some o) (h1 : ∀ xs, o ≠ .tup xs) (h2 : ∀ u x, o ≠ .frz u x) (b : But d H H') (h : SqT K H a xs) : SqT K H' a xs := by
  rcases h with h | h
  · exact .inl (rd_but hd h1 h2 b h)
  · exact .inr h
theorem form_but {K : PySem.W.Frag} {C : Addr} {H H' : Hp} {d p : Addr} {o : HO} {ps : Prs} {r : Int} (hd : H d = some o) (h1 : ∀ xs, o ≠ .tup xs) (h2 : ∀ u x, o ≠ .frz u x) (h3 : ∀ dx fs, o ≠ .ins C dx fs) (b : But d H H') (h : FormAt K C H p ps r) : FormAt K C H' p ps r := by
  obtain ⟨dx, tp, as, e1, ⟨o2, n2, e2⟩, e3⟩ := h.ob0
  refine ⟨dx, tp, as, b _ _ e1 fun z => ?_, ⟨o2, n2, b _ _ e2 fun z => by rw [z, hd] at e2; exact h2 _ _ (Option.some.inj e2)⟩, L2.Paired.mapP e3 fun _ _ ⟨c, g1, g2⟩ => ⟨c, sqT_but hd h1 h2 b g1, b _ _ g2 fun z => ?_⟩⟩
  · rw [z, hd] at e1
    exact h3 _ _ (Option.some.inj e1)
  · unfold TermAt at g2
    rw [z, hd] at g2
    exact h1 _ (Option.some.inj g2)
theorem form_dr {K : PySem.W.Frag} {C : Addr} {H H' : Hp} {d p : Addr} {x y z : Int} {ps : Prs} {r : Int} (hd : H d = some (dr x y z)) (b : But d H H') (h : FormAt K C H p ps r) : FormAt K C H' p ps r :=
  form_but hd (fun _ z => by cases z) (fun _ _ z => by cases z) (fun _ _ z => by cases z) b h
theorem form_dT {K : PySem.W.Frag} {C : Addr} {H H' : Hp} {d p : Addr} {kvs : List (List Key × V)} {ps : Prs} {r : Int} (hd : H d = some (.dT kvs)) (b : But d H H') (h : FormAt K C H p ps r) : FormAt K C H' p ps r :=
  form_but hd (fun _ z => by cases z) (fun _ _ z => by cases z) (fun _ _ z => by cases z) b h
/-! ### an if, by what holds ahead of each of its ways -/
theorem Ho.iff {X : Cx} {c : Expr} {a b : List Stmt} {tc : TT} {pos : Pos} {pre preA preB post : L2.St → Hp → Prop} (hc : PT X c tc) (ht : ∀ σ H (Q : Bool → Hp → Prop), pre σ H → (preA σ H → Q true H) → (preB σ H → Q false H) → tc σ H Q) (ha : Hos X a preA post) (hb : Hos X b preB post) : Ho X (.If c a b pos) pre post := by
  obtain ⟨t, h1, k1⟩ := ha
  obtain ⟨u, h2, k2⟩ := hb
  refine ⟨_, ps_if hc h1 h2, fun D σ H p k => ?_⟩
  refine ht σ H _ p (fun pa => ?_) fun pb => ?_
  · exact iteT (k1 _ σ H pa k)
  · exact iteF (k2 _ σ H pb k)
theorem Ho.one {X : Cx} {st : Stmt} {a b : L2.St → Hp → Prop} (h : Ho X st a b) : Hos X [st] a b := Ho.cons h Hos.nil
end Mv
/-! pairs of terms and integers, dicts of them, alike data: what several laws use -/
namespace Mv
open PySem PySem.Spec PyProof.Rows L2 LamX
def PKV (K : PySem.W.Frag) (H : Hp) (p : Addr) (kv : List Key × V) : Prop := ∃ b, SqT K H p [.ref b, kv.2] ∧ H b = some (.tup (kv.1.map kV))
theorem PKV.same {K : PySem.W.Frag} {H H' : Hp} {p : Addr} {kv : List Key × V} (s : Same H H') (h : PKV K H p kv) : PKV K H' p kv := let ⟨b, h1, h2⟩ := h; ⟨b, same_sqT s h1, s _ _ h2⟩
theorem pkv_put {K : PySem.W.Frag} {H : Hp} {R : Addr} {l : List V} {o : HO} {p : Addr} {kv : List Key × V} (hR : H R = some (.lst l)) (h : PKV K H p kv) : PKV K (upd H R o) p kv :=
  let ⟨b, h1, h2⟩ := h; ⟨b, sqT_put hR h1, by rw [upd_ne (fun z => by rw [z, hR] at h2; cases h2)]; exact h2⟩
theorem pairedApp {α β : Type} {R : α → β → Prop} {as as2 : List α} {bs bs2 : List β} (h : Paired R as bs) (g : Paired R as2 bs2) : Paired R (as ++ as2) (bs ++ bs2) := by
  induction h with
  | nil => exact g
  | cons h _ ih => exact .cons h ih
theorem merge_nodup : ∀ {kvs acc : List (List Key × V)}, ((acc ++ kvs).map (·.1)).Nodup → kvs.foldl (fun acc kv => putK acc kv.1 kv.2) acc = acc ++ kvs
  | [], acc, _ => (List.append_nil acc).symm
  | kv :: kvs, acc, h => by
    rw [List.foldl_cons]
    have hn : (acc.any fun x => decide (x.1 = kv.1)) = false := by
      rw [List.any_eq_false]
      intro x hx
      have : x.1 ≠ kv.1 := by
        rw [List.map_append, List.nodup_append] at h
        exact h.2.2 x.1 (List.mem_map.mpr ⟨x, hx, rfl⟩) kv.1 (by simp)
      simp [this]
    have e : putK acc kv.1 kv.2 = acc ++ [kv] := by
      unfold putK
      rw [hn]
      rfl
    rw [e, merge_nodup (by rw [List.append_assoc]; exact h), List.append_assoc]
    rfl
theorem dct_keys (ps : Prs) : (dct ps).map (·.1) = (ps.map (·.1)).map keyT := by
  unfold dct
  rw [List.map_map, List.map_map]
  rfl
theorem keys_nodup {ts : List Term} (h : ts.Nodup) : (ts.map keyT).Nodup := by
  unfold List.Nodup
  rw [List.pairwise_map]
  exact h.imp fun {a b} n e => n (keyT_inj e)
theorem mergeT_dct {ps : Prs} (h : (ps.map (·.1)).Nodup) : mergeT (dct ps) = dct ps := by
  unfold mergeT
  rw [merge_nodup]
  · rfl
  · rw [List.nil_append, dct_keys]
    exact keys_nodup h
theorem map_keys (ps : Prs) (g : Int → Int) : (ps.map fun p => (p.1, g p.2)).map (·.1) = ps.map (·.1) := by
  rw [List.map_map]
  rfl
theorem getP_mapG {g : Int → Int} (g0 : g 0 = 0) (ps : Prs) (t : Term) : getP (ps.map fun p => (p.1, g p.2)) t = g (getP ps t) := by
  induction ps with
  | nil => rw [List.map_nil, getP_nil, g0]
  | cons p ps ih =>
    rw [List.map_cons]
    by_cases h : p.1 = t
    · rw [getP_pos (p := (p.1, g p.2)) h, getP_pos h]
    · rw [getP_neg (p := (p.1, g p.2)) h, getP_neg h, ih]
theorem dct_at {ps : Prs} (nd : (ps.map (·.1)).Nodup) {t : Term} {n : Int} (hm : (t, n) ∈ ps) : valV (dct ps) (keyT t) = some (V.int n) := by
  have e1 := dct_some ps t
  have e2 := dct_getD ps t
  rw [getP_mem nd hm] at e2
  rw [decide_eq_true (List.mem_map.mpr ⟨_, hm, rfl⟩)] at e1
  cases e3 : valV (dct ps) (keyT t) with
  | none => rw [e3] at e1; cases e1
  | some v => rw [e3] at e2; exact congrArg some e2
/-- [(k, e) for k in d], d by terms -/
theorem comp_dct {K : PySem.W.Frag} {te : TE} {i j : Nat} {σ : L2.St} {H : Hp} {Q : VK} {D : Addr} {parts : Prs} {g : Int → Int} (hj : σ[j]? = some (some (.ref D))) (hD : H D = some (.dT (dct parts))) (nd : (parts.map (·.1)).Nodup) (hl : parts.length ≤ 1000) (hw : ∀ q, wipe ((wipe σ [i]).set i (some (.ref q))) [i] = wipe σ [i]) (hv : ∀ q, ((wipe σ [i]).set i (some (.ref q)))[i]? = some (some (.ref q)))
    (hte : ∀ q H' n (Q : VK), DGet H' D (.ref q) (some (.int n)) → Q (.int (g n)) H' → te ((wipe σ [i]).set i (some (.ref q))) H' Q)
    (k : ∀ R H' (prs : List Addr), Same H H' → H R = none → H' R = some (.lst (prs.map V.ref)) → Paired (PKV K H') prs (dct (parts.map fun p => (p.1, g p.2))) → Q (.ref R) H') :
    tLockE (tLc (iKeys (tVar j)) (gName i) tYes (tTup (tCons (tVar i) (tCons te tNil))) [i]) σ H Q := by
  refine ⟨D, _, hD, True.intro, fun od => ?_⟩
  refine ⟨_, hj, D, od, rfl, .inr ⟨_, upd_same, fun R hR => ?_⟩⟩
  obtain ⟨neR, hR0⟩ := upd_nn hR
  refine lc_it walk_keysT (fun i H' => Same (upd H D (.frz od (.dT (dct parts)))) H' ∧ ∃ prs : List Addr, H' R = some (.lst (prs.map V.ref)) ∧ Paired (PKV K H') prs (dct ((parts.take i).map fun p => (p.1, g p.2)))) ⟨same_new hR, [], upd_same, .nil⟩ (fun i H' _ q => q.1 _ _ upd_same) ?_ ?_
  · rintro i' x Hi0 Hi hi ⟨sm, prs, hv2, pr⟩ ⟨rfl, ky, v, q, hk, rfl, hq⟩
    have hk2 : ∃ p : Term × Int, parts[i']? = some p ∧ ky = keyT p.1 := by
      unfold dct at hk
      rw [List.getElem?_map] at hk
      obtain ⟨p, hp, e⟩ := Option.map_eq_some_iff.mp hk
      exact ⟨p, hp, (Prod.mk.inj e).1.symm⟩
    obtain ⟨⟨t, n⟩, hp, rfl⟩ := hk2
    refine ⟨hw q, ?_⟩
    unfold tYes
    refine iteT ?_
    have hg : DGet Hi D (.ref q) (some (V.int n)) := by
      rw [← dct_at nd (List.mem_of_getElem? hp)]
      exact .inr ⟨_, _, _, .inr ⟨_, sm _ _ upd_same⟩, rfl, hq, rfl⟩
    refine ⟨_, hv q, hte q Hi n _ hg ⟨(by show 2 ≤ sizeLine; decide), fun a ha => ?_⟩⟩
    have na : R ≠ a := ne_of_none hv2 ha
    have s2 := same_new (o := .tup [V.ref q, V.int (g n)]) ha
    have hv3 := s2 _ _ hv2
    refine ⟨_, hv3, ?_, same_put (sm.trans s2) hR, prs ++ [a], ?_, ?_⟩
    · have e := paired_n pr
      rw [dct_len, List.length_map] at e
      have := List.length_take_le' i' parts
      rw [List.length_map]
      exact small1000 (by omega)
    · rw [upd_same, List.map_append]
      rfl
    · rw [List.take_add_one, hp]
      have e3 : dct ((parts.take i' ++ (some (t, n)).toList).map fun p => (p.1, g p.2)) = dct ((parts.take i').map fun p => (p.1, g p.2)) ++ [(keyT t, V.int (g n))] := by
        rw [List.map_append]
        unfold dct
        rw [List.map_append]
        rfl
      rw [e3]
      refine pairedApp (L2.Paired.mapP pr fun _ _ h => pkv_put hv3 (h.same s2)) (.cons (pkv_put hv3 ⟨q, .inl (.inl upd_same), s2 _ _ hq⟩) .nil)
  · rintro H2 ⟨sm, prs, hv2, pr⟩
    refine ⟨sm _ _ upd_same, ?_⟩
    rw [dct_len, List.take_length] at pr
    have gD : H2 D = some (.frz od (.dT (dct parts))) := sm _ _ upd_same
    refine k R _ prs (fun c o e => ?_) hR0 (by rw [upd_ne (show R ≠ D from neR)]; exact hv2) ?_
    · by_cases z : c = D
      · rw [z, hD] at e
        cases e
        rw [z, upd_same]
      · rw [upd_ne z]
        exact sm c o (by rw [upd_ne z]; exact e)
    · refine L2.Paired.mapP pr fun _ _ ⟨b, h1, h2⟩ => ⟨b, ?_, by rw [upd_ne (fun z => by rw [z, gD] at h2; cases h2)]; exact h2⟩
      rcases h1 with (e | ⟨o2, e⟩) | h1
      · exact .inl (.inl (by rw [upd_ne (fun z => by rw [z, gD] at e; cases e)]; exact e))
      · by_cases z : od = o2
        · refine .inl (.inr ⟨o2, ?_⟩)
          rw [upd_ne (fun z => by rw [z, gD] at e; cases e)]; exact e
        · exact .inl (.inr ⟨o2, by rw [upd_ne (fun z => by rw [z, gD] at e; cases e)]; exact e⟩)
      · exact .inr h1
theorem canon_one {t : Term} (ok : TermOk t) {i : Int} (h : i ≠ 0) : Canon [(t, i)] := ⟨List.pairwise_singleton _ _, fun p hp => by rw [List.mem_singleton.mp hp]; exact h, fun p hp => by rw [List.mem_singleton.mp hp]; exact ok⟩
theorem getP_one (t u : Term) (i : Int) : getP [(t, i)] u = if t = u then i else 0 := by
  by_cases e : t = u
  · rw [getP_pos (p := (t, i)) e, if_pos e]
  · rw [getP_neg (p := (t, i)) e, if_neg e, getP_nil]
/-- one of several, by its number -/
def tAll (N : Nat) (pre post : Nat → L2.St → Hp → Prop) : TS := fun D σ H => ∃ i, i < N ∧ pre i σ H ∧ ∀ σ' H', post i σ' H' → D.nx σ' H'
theorem pss_all {X : Cx} {sts : List Stmt} {N : Nat} {pre post : Nat → L2.St → Hp → Prop} (h : ∀ i, i < N → Hos X sts (pre i) (post i)) : PSs X sts (tAll N pre post) :=
  ⟨fun pins s σ H D I ⟨i, hi, hp, k⟩ => by
    obtain ⟨t, ht, kt⟩ := h i hi
    exact ht.run pins s σ H D I (kt D σ H hp k)⟩
/-! ### a dict of terms, each by a function -/
def foldP (ts : List Term) (g : Term → Int) (acc : Prs) : Prs := ts.foldl (fun acc t => putP acc t (g t)) acc
theorem merge_foldP (ts : List Term) (g : Term → Int) : ∀ acc : Prs, (ts.map fun t => (keyT t, V.int (g t))).foldl (fun acc kv => putK acc kv.1 kv.2) (dct acc) = dct (foldP ts g acc) := by
  induction ts with
  | nil => intro acc; rfl
  | cons t ts ih =>
    intro acc
    rw [List.map_cons, List.foldl_cons, dct_put, ih]
    rfl
theorem mergeT_fold (ts : List Term) (g : Term → Int) : mergeT (ts.map fun t => (keyT t, V.int (g t))) = dct (foldP ts g []) := merge_foldP ts g []
theorem foldP_nodup (g : Term → Int) : ∀ (ts : List Term) (acc : Prs), (acc.map (·.1)).Nodup → ((foldP ts g acc).map (·.1)).Nodup
  | [], _, h => h
  | t :: ts, acc, h => foldP_nodup g ts _ (putP_nodup h t (g t))
theorem foldP_get (g : Term → Int) (u : Term) : ∀ (ts : List Term) (acc : Prs), getP (foldP ts g acc) u = if u ∈ ts then g u else getP acc u
  | [], acc => by
    rw [if_neg (by simp)]
    rfl
  | t :: ts, acc => by
    have ih := foldP_get g u ts (putP acc t (g t))
    show getP (foldP ts g (putP acc t (g t))) u = _
    rw [ih, getP_put]
    by_cases h1 : u ∈ ts
    · rw [if_pos h1, if_pos (List.mem_cons_of_mem _ h1)]
    · rw [if_neg h1]
      by_cases h2 : t = u
      · rw [if_pos h2, if_pos (by rw [h2]; exact List.mem_cons_self), h2]
      · rw [if_neg h2, if_neg (by
          intro h
          rcases List.mem_cons.mp h with z | z
          · exact h2 z.symm
          · exact h1 z)]
theorem foldP_ok (g : Term → Int) : ∀ (ts : List Term) (acc : Prs), (∀ t ∈ ts, TermOk t) → (∀ p ∈ acc, TermOk p.1) → ∀ p ∈ foldP ts g acc, TermOk p.1
  | [], _, _, h => h
  | t :: ts, acc, h1, h => foldP_ok g ts _ (fun u hu => h1 u (List.mem_cons_of_mem _ hu)) fun p hp => by
    rcases putP_mem hp with e | ⟨q, hq, e⟩
    · rw [e]; exact h1 t List.mem_cons_self
    · rw [← e]; exact h q hq
theorem foldP_len (g : Term → Int) : ∀ (ts : List Term) (acc : Prs), (foldP ts g acc).length ≤ acc.length + ts.length
  | [], _ => Nat.le_refl _
  | t :: ts, acc => by
    have h := foldP_len g ts (putP acc t (g t))
    have h2 := putP_len acc t (g t)
    show (foldP ts g (putP acc t (g t))).length ≤ _
    rw [List.length_cons]
    omega
/-- a dict of a form's parts as pairs -/
structure DP (H : Hp) (D : Addr) (zs : Prs) : Prop where
  dc : H D = some (.dT (dct zs))
  nd : (zs.map (·.1)).Nodup
  ok : ∀ p ∈ zs, TermOk p.1
  len : zs.length ≤ 16
theorem DP.same {H H' : Hp} {D : Addr} {zs : Prs} (h : DP H D zs) (s : Same H H') : DP H' D zs := ⟨s _ _ h.dc, h.nd, h.ok, h.len⟩
theorem keys_at {K : PySem.W.Frag} {H : Hp} {ps : Prs} {bs : List Addr} (h : IsKeys H (dct ps) bs) : Paired (fun t b => TermAt K H b t) (ps.map (·.1)) bs := by
  induction ps generalizing bs with
  | nil =>
    cases h
    exact .nil
  | cons p ps ih =>
    cases h with
    | @cons _ b _ bs h r =>
      refine .cons ?_ (ih r)
      show H b = some (.tup (p.1.map V.str))
      rw [← keyT_kV]
      exact h
theorem dr_nt (x y z : Int) : ∀ ps, dr x y z ≠ .tbl ps := fun ps e => by
  unfold dr at e
  cases e
/-- a form stays -/
theorem form_fr {K : PySem.W.Frag} {C : Addr} {H H' : Hp} {d p : Addr} {ps : Prs} {r : Int} (hd : ∃ x y z, H d = some (dr x y z)) (b : Fr d H H') (h : FormAt K C H p ps r) : FormAt K C H' p ps r := by
  obtain ⟨x, y, z, hd⟩ := hd
  have ne : ∀ {b : Addr} {o : HO}, H b = some o → o ≠ dr x y z → b ≠ d := fun {b o} e n z => by
    rw [z, hd] at e
    exact n (Option.some.inj e).symm
  have sq : ∀ {a : Addr} {xs : List V}, SqT K H a xs → SqT K H' a xs := fun {a xs} h => by
    rcases h with (h | ⟨u, h⟩) | h
    · exact .inl (.inl (b _ _ h (ne h fun z => by cases z) fun ps z => by cases z))
    · exact .inl (.inr ⟨u, b _ _ h (ne h fun z => by cases z) fun ps z => by cases z⟩)
    · exact .inr h
  obtain ⟨dx, tp, as, e1, ⟨o2, n2, e2⟩, e3⟩ := h.ob0
  exact ⟨dx, tp, as, b _ _ e1 (ne e1 fun z => by cases z) (fun ps z => by cases z), ⟨o2, n2, b _ _ e2 (ne e2 fun z => by cases z) fun ps z => by cases z⟩, L2.Paired.mapP e3 fun _ _ ⟨c, g1, g2⟩ => ⟨c, sq g1, b _ _ g2 (ne g2 fun z => by cases z) (fun ps z => by cases z)⟩⟩
theorem sqT_of {K : PySem.W.Frag} {H : Hp} {a : Addr} {xs : List V} (h : H a = some (.tup xs)) : SqT K H a xs := .inl (.inl h)
theorem sqL_of {K : PySem.W.Frag} {H : Hp} {a : Addr} {xs : List V} (h : H a = some (.lst xs)) : SqL K H a xs := .inl (.inl h)
/-! ### alike terms -/
theorem sm_strs {K : PySem.W.Frag} {H : Hp} {a b : Addr} {xs : List Str} (n : Nat) (h1 : SqT K H a (xs.map V.str)) (h2 : SqT K H b (xs.map V.str)) (hz : xs.length ≤ 1000) : SmD K H (n + 1) (.ref a) (.ref b) := by
  refine .tup h1 h2 rfl (by rw [List.length_map]; exact hz) fun i x y e1 e2 => ?_
  rw [e1] at e2
  cases e2
  rw [List.getElem?_map] at e1
  cases e : xs[i]? with
  | none =>
    rw [e] at e1
    cases e1
  | some z =>
    rw [e] at e1
    cases e1
    exact .str _ _
theorem sm_pair {K : PySem.W.Frag} {H : Hp} {a b : Addr} {p : Term × Int} (h1 : PairAt K H a p) (h2 : PairAt K H b p) (hz : p.1.length ≤ 1000) : SmD K H 2 (.ref a) (.ref b) := by
  obtain ⟨b1, g1, t1⟩ := h1
  obtain ⟨b2, g2, t2⟩ := h2
  refine .tup g1 g2 rfl (by show 2 ≤ 1000; decide) fun i x y e1 e2 => ?_
  match i, e1, e2 with
  | 0, e1, e2 =>
    cases e1
    cases e2
    exact sm_strs 0 (sqT_of t1) (sqT_of t2) hz
  | 1, e1, e2 =>
    cases e1
    cases e2
    exact .int _ _
def Short (ps : Prs) : Prop := ∀ p ∈ ps, p.1.length ≤ 1000
theorem sm_both {K : PySem.W.Frag} {H : Hp} {L1 L2 l1 l2 : Addr} {r : Int} {as : List Addr} {xs : List V} {ps : Prs} (h1 : H L1 = some (.lst [.ref l1, .int r])) (h2 : H L2 = some (.lst [.ref l2, .int r])) (g1 : H l1 = some (.lst (as.map V.ref))) (g2 : H l2 = some (.lst xs))
    (p1 : Paired (PairAt K H) as ps) (p2 : Paired (PR K H) xs ps) (hl : ps.length ≤ 1000) (sh : Short ps) : SmD K H 4 (.ref L1) (.ref L2) := by
  have k2 : SmD K H 3 (.ref l1) (.ref l2) := by
    refine .lst (sqL_of g1) (sqL_of g2) ?_ ?_ fun i x y e1 e2 => ?_
    · rw [List.length_map, paired_n p1, paired_n p2]
    · rw [List.length_map, paired_n p1]
      exact hl
    · rw [List.getElem?_map] at e1
      obtain ⟨a, ha, rfl⟩ := Option.map_eq_some_iff.mp e1
      obtain ⟨p, hp, q1⟩ := pairAtI p1 ha
      obtain ⟨p', hp', b, rfl, q2⟩ := pairAtI p2 e2
      rw [hp] at hp'
      cases hp'
      exact sm_pair q1 q2 (sh _ (List.mem_of_getElem? hp))
  refine .lst (sqL_of h1) (sqL_of h2) rfl (by show 2 ≤ 1000; decide) fun i x y e1 e2 => ?_
  match i, e1, e2 with
  | 0, e1, e2 =>
    cases e1
    cases e2
    exact k2
  | 1, e1, e2 =>
    cases e1
    cases e2
    exact .int _ _
theorem canon_okP {ps : Prs} (c : Canon ps) : okP ps := fun p hp => (c.ok p hp).2.1
theorem dp_prs {K : PySem.W.Frag} {H : Hp} : ∀ {xs : List V} {ps : Prs}, Paired (PR K H) xs ps → DpAll K H xs (ps.map pairD)
  | _, _, .nil => .nil
  | _, _, .cons ⟨a, e, h⟩ t => by
    subst e
    exact .cons (dp_pair h) (dp_prs t)
theorem shaped_list {ps : Prs} (h : okP ps) : SeqAt.shaped (.list (ps.map pairD)) = true := by
  unfold SeqAt.shaped
  have e1 : (PyData.list (ps.map pairD)).canLay0 = true := lay_pairs h
  have e2 : (PyData.list (ps.map pairD)).depth ≤ 64 := by
    show PyData.depthAll (ps.map pairD) + 1 ≤ 64
    have q := depth_pairs ps
    omega
  rw [e1, decide_eq_true e2]
  rfl
theorem eqv_list (ps qs : Prs) : PyData.eqv (.list (ps.map pairD)) (.list (qs.map pairD)) = decide (ps = qs) := eqv_pairs ps qs
theorem sm_bls {K : PySem.W.Frag} {H : Hp} {a b : Addr} {bs : List Bool} (n : Nat) (h1 : SqL K H a (bs.map V.bl)) (h2 : SqL K H b (bs.map V.bl)) (hz : bs.length ≤ 1000) : SmD K H (n + 1) (.ref a) (.ref b) := by
  refine .lst h1 h2 rfl (by rw [List.length_map]; exact hz) fun i x y e1 e2 => ?_
  rw [e1] at e2
  cases e2
  rw [List.getElem?_map] at e1
  cases e : bs[i]? with
  | none =>
    rw [e] at e1
    cases e1
  | some z =>
    rw [e] at e1
    cases e1
    exact .bl _ _
theorem dec_int (r r2 : Int) : decide (V.int r = V.int r2) = decide (r = r2) := by
  by_cases h : r = r2 <;> simp [h]
def forB : Stmt → List Stmt
  | .For _ _ b _ _ => b
  | .While _ b _ _ => b
  | _ => []
def ifA : Stmt → List Stmt
  | .If _ a _ _ => a
  | _ => []
def ifB : Stmt → List Stmt
  | .If _ _ b _ => b
  | _ => []
theorem short_canon {ps : Prs} (c : Canon ps) : Short ps := fun p hp => Nat.le_trans (c.ok p hp).2.2 (by decide)
end Mv
namespace Mv
open PySem PySem.Spec PySem.W PySem.HandSPX PyProof.Rows
/-! ### an own exception class is called with keywords, too -/
section
variable {P : Program} {w : World} {A : Around} {E : Value → Shared → Prop} {R : Result → Shared → Prop} {h : Heap} {g : Array GenState} {d : Drawn} {t : Nat} {os : OsState}
variable {nm q : Str} {C N : Addr} {bs bm bB : List Value} {hdct : Bool} {sn : List Str} {sub : List Value} {ab : Bool} {col : Option Bool} {dd : Option Addr} {k0 k1 k2 k3 k5 : Option Value} {B nid iid : String} {kw : List (Str × Value)} {us : List Value}
theorem kwCheckType {Q : Unit → Shared → Prop} (o : h.get? C = some (excClassObj nm q C N bs bm hdct sn sub ab col dd k0 k1 k2 k3 k5 nid)) (z : Q () ⟨h, g, d, t, os⟩) : wpAny (model P w) A (checkBuiltinCall "type.__call__" ⟨.ref C :: us, kw⟩) Q E ⟨h, g, d, t, os⟩ := by
  have s3 := tc_sub
  have ty : (⟨h, g, d, t, os⟩ : Shared).TypeIs (.ref C) "type" := ⟨_, o, rfl⟩
  simp only [checkBuiltinCall, tc_kind, tc_split]
  repeat (any_goals (first | assumption | with_reducible refine wpAny_loadPart_at o ?_ | with_reducible refine wpAny_onRaise ?_ | with_reducible refine wpAny_map ?_ | wp_step))
theorem kwCheckNew (F : ExcBaseFacts B nid iid bB) (c : ∀ X : String, bm.contains (.type X) = bB.contains (.type X)) {Q : Unit → Shared → Prop} (o : h.get? C = some (excClassObj nm q C N bs bm hdct sn sub ab col dd k0 k1 k2 k3 k5 nid)) (z : Q () ⟨h, g, d, t, os⟩) :
    wpAny (model P w) A (checkBuiltinCall nid ⟨.ref C :: us, kw⟩) Q E ⟨h, g, d, t, os⟩ := by
  have e1 : (Value.ref C :: bm).contains (.type B) = true := by rw [List.contains_cons, c, F.hasB, Bool.or_true]
  have e2 := F.noStar
  simp only [checkBuiltinCall, F.newKind, F.newSplit, F.newRow]
  repeat (first | refine wpAny_loadPart_at o ?_ | (refine wpAny_isSubtype_exc o ?_; rw [e1]) | refine wpAny_staticBase_exc o ?_ | refine wpAny_madeBy_exc o ?_ | simp only [bne_self_eq_false, Bool.false_eq_true, if_false] | wp_step)
  exact z
theorem kwNew (F : ExcBaseFacts B nid iid bB) (c : ∀ X : String, bm.contains (.type X) = bB.contains (.type X)) (o : h.get? C = some (excClassObj nm q C N bs bm hdct sn sub ab col dd k0 k1 k2 k3 k5 nid)) (l : us.length ≤ sizeLine)
    (z : R (.ok (.ret (.ref (h.objs.size + 1)))) ⟨(h.push (kdv_tup us)).push (excO C h.objs.size), g, d, t, os⟩) : codeAny (model P w) A (.builtin nid ⟨.ref C :: us, kw⟩) R ⟨h, g, d, t, os⟩ := by
  have fe := F.ends
  have e1 : (Value.ref C :: bm).contains (.type B) = true := by rw [List.contains_cons, c, F.hasB, Bool.or_true]
  have e2 : (Value.ref C :: bm).contains (.type "AttributeError") = false := by rw [List.contains_cons, c, F.noAttr]; rfl
  have e3 : (Value.ref C :: bm).contains (.type "NameError") = false := by rw [List.contains_cons, c, F.noName]; rfl
  refine codeAny_builtinAt F.entry ?_
  unfold Builtin.«BaseException.__new__»
  refine PySem.wpAt_bind ?_
  show PySem.wpAt _ _ _ (stack >>= _) _ _ _
  refine PySem.wpAt_bind (PySem.wpAt_stack fun p below => PySem.wpAt_of_wpAny ?_)
  wp_walk
  refine PySem.wpAt_of_wpAny ?_
  rw [F.owner]
  repeat (first | with_reducible refine wpAny_madeHere_exc F.canon o ?_ | with_reducible refine wpAny_loadPart_at o ?_ | (with_reducible refine wpAny_isSubtype_exc o ?_; first | rw [e1] | rw [e2] | rw [e3]) | wp_step)
  show R _ _
  rw [Heap.size_push]
  exact z
theorem kwTypeCall {fI : Addr} {Q : PySem.Fin → Shared → Prop} (F : ExcBaseFacts B nid iid bB) (c : ∀ X : String, bm.contains (.type X) = bB.contains (.type X)) (o : h.get? C = some (excClassObj nm q C N bs bm hdct sn sub ab col dd k0 k1 k2 k3 k5 nid)) (l : us.length ≤ sizeLine)
    (li : Looks (model P w) h (typeLookup (.ref C) "__init__") (some (.ref fI))) (lb : ∀ self, Looks (model P w) h (bindSpecial (.ref fI) self) (.ref fI, [self]))
    (z : codeAny (model P w) A (.call (.ref fI) ⟨.ref (h.objs.size + 1) :: us, kw⟩) (fun r s' => match r with | .ok (.ret v) => v = .none ∧ Q (.done (.ret (.ref (h.objs.size + 1)))) s' | .ok _ => False | .error e => E e s') ⟨(h.push (kdv_tup us)).push (excO C h.objs.size), g, d, t, os⟩) :
    wpAny (model P w) A (Builtin.«type.__call__» ⟨.ref C :: us, kw⟩) Q E ⟨h, g, d, t, os⟩ := by
  repeat (first | with_reducible refine wpAny_loadPart_at o ?_ | with_reducible refine wpAny_madeBy_exc o ?_ | wp_step)
  refine codeAny_call_builtin_code (Code.quiet_builtin _ F.quiet) (kwCheckNew F c o ?_)
  refine kwNew F c o l ?_
  show wpAny _ _ _ _ _ _
  have kp : ∀ b u, h.get? b = some u → ((h.push (kdv_tup us)).push (excO C h.objs.size)).get? b = some u := fun b u e => Heap.get?_push_of_some _ (Heap.get?_push_of_some _ e)
  have o1 := kp _ _ o
  have oe : ((h.push (kdv_tup us)).push (excO C h.objs.size)).get? (h.objs.size + 1) = some (excO C h.objs.size) := by heap_get
  have e1 : (Value.ref C :: bm).contains (.ref C) = true := by simp
  have li1 := li.keeps kp
  have lb1 := (lb (.ref (h.objs.size + 1))).keeps kp
  unfold isInstance
  repeat (first | with_reducible refine wpAny_loadPart_at oe ?_ | (with_reducible refine wpAny_isSubtype_exc o1 ?_; rw [e1]) | wp_step)
  show wpAny _ _ (typeLookup (.ref C) _) _ _ _
  refine li1.at ?_
  refine wpAny_holding (wpAny_bind (lb1.at ?_))
  refine wpAny_bind (wpAny_call (codeAny_mono z fun r s' y => ?_))
  rcases r with e | (v | _ | _ | _) <;> first | exact y | exact y.elim | skip
  obtain ⟨rfl, y⟩ := y
  first
    | exact wpAny_pure (wpAny_pure y)
    | (wp_walk; exact y)
theorem kwCall {fI : Addr} (F : ExcBaseFacts B nid iid bB) (c : ∀ X : String, bm.contains (.type X) = bB.contains (.type X)) (o : h.get? C = some (excClassObj nm q C N bs bm hdct sn sub ab col dd k0 k1 k2 k3 k5 nid)) (l : us.length ≤ sizeLine)
    (li : Looks (model P w) h (typeLookup (.ref C) "__init__") (some (.ref fI))) (lb : ∀ self, Looks (model P w) h (bindSpecial (.ref fI) self) (.ref fI, [self]))
    (z : codeAny (model P w) (A.under (.builtin "type.__call__" ⟨.ref C :: us, kw⟩)) (.call (.ref fI) ⟨.ref (h.objs.size + 1) :: us, kw⟩) (InitBack (h.objs.size + 1) R) ⟨(h.push (kdv_tup us)).push (excO C h.objs.size), g, d, t, os⟩) :
    codeAny (model P w) A (.call (.ref C) ⟨us, kw⟩) R ⟨h, g, d, t, os⟩ := by
  have s1 := tc_lookup
  have s2 := tc_bind (.ref C)
  have ty : (⟨h, g, d, t, os⟩ : Shared).TypeIs (.ref C) "type" := ⟨_, o, rfl⟩
  refine codeAny_of_tree ?_
  show wpAny _ _ (callAny (.ref C) _) _ _ _
  repeat (any_goals (first | assumption | with_reducible refine wpAny_loadPart_at o ?_ | wp_step))
  refine ⟨rfl, ?_⟩
  refine codeAny_call_builtin_at (Code.quiet_builtin _ (by decide +kernel)) entry_typeCall (kwCheckType o (kwTypeCall F c o l li lb ?_))
  refine codeAny_mono z fun r s' y => ?_
  rcases r with e | (v | _ | _ | _) <;> exact y
end
end Mv
namespace Mv
open PySem PySem.Spec PyProof.Rows L2 NdefX
/-! ### own errors as values -/
theorem upd_back {H1 : Hp} {a dx : Addr} {o o2 o3 : HO} (n : dx ≠ a) : upd (upd (upd H1 a o) dx o2) a o3 = upd (upd H1 dx o2) a o3 := by
  funext b
  by_cases h1 : b = a
  · rw [h1, upd_same, upd_same]
  · rw [upd_ne h1, upd_ne h1]
    by_cases h2 : b = dx
    · rw [h2, upd_same, upd_same]
    · rw [upd_ne h2, upd_ne h2, upd_ne h1]
section
variable {X : Cx} {pins : List (Addr × Obj)} {σ : L2.St} {H : Hp} {s : Shared} {C fI : Addr} {k : Nat} {fd : FuncData} {ps : List Str} {sp : Sp}
theorem run_mkV {Q : VK} {us xs : List Value} {kw : List (Str × Value)} {vs : List V} (T : OexC X.K C) (iC : PySem.W.findIn X.K (.ref C) "__init__" = some (some (.ref fI))) (tI : PySem.W.typeIn X.K (.ref fI) = some (.type "function"))
    (F1 : FnOk X.prog X.w X.K X.mg X.base CX0 k fI fd ps sp) (hr : Room (k + 1) X.A) (hb : ∀ (s : Shared) (a : Addr), X.K.In s.heap → BindsTo s fd ⟨.ref a :: us, kw⟩ (ps.zip (.ref a :: xs))) (r : Vals vs xs) (hl : us.length ≤ sizeLine) (I : Inv X pins σ H s)
    (h : ∀ a, H a = none → sp (.ref a :: vs) (upd H a (exo a C none)) (fun v H2 => v = .non ∧ Q (.ref a) H2) (fun _ _ _ => False)) : wpAny (model X.prog X.w) X.A (call (.ref C) us kw) (EP X pins σ Q) X.xe s := by
  obtain ⟨nm, q, N, bs, bm, sn, sub, ab, col, dd, k0, k1, k2, k3, k5, hC, hbm⟩ := T.cls
  obtain ⟨hp, g, dr, tk, os⟩ := s
  have hsz : hp.objs.size ≤ hp.objs.size + 1 := Nat.le_succ _
  have hq := h (hp.objs.size + 1) (I.hok.fresh hsz)
  have kk : ∀ b o, hp.get? b = some o → ((hp.push (PySem.W.kdv_tup us)).push (PySem.HandSPX.excO C hp.objs.size)).get? b = some o := fun b o e => Heap.get?_push_of_some _ (Heap.get?_push_of_some _ e)
  have at1 : ((hp.push (PySem.W.kdv_tup us)).push (PySem.HandSPX.excO C hp.objs.size)).get? (hp.objs.size + 1) = some (PySem.HandSPX.excO C hp.objs.size) := by heap_get
  have I2 : Inv X pins σ (upd H (hp.objs.size + 1) (exo (hp.objs.size + 1) C none)) ⟨(hp.push (PySem.W.kdv_tup us)).push (PySem.HandSPX.excO C hp.objs.size), g, dr, tk, os⟩ :=
    I.laid (t' := tk) (a := hp.objs.size + 1) (o := exo (hp.objs.size + 1) C none) kk hsz (exo_ok at1)
  have r2 : Vals (V.ref (hp.objs.size + 1) :: vs) (Value.ref (hp.objs.size + 1) :: xs) := .cons rfl r
  refine wpAny_call (kwCall PySem.F.excBase_ValueError (fun Y => PySem.HandSPX.refsVE_contains Y bm hbm) (I.kIn _ _ hC) hl (PySem.W.looks_findIn I.kIn iC) (fun self => PySem.W.bind_fn I.kIn self tI)
    (codeAny_mono (F1.run _ X.stack _ _ ⟨Value.ref (hp.objs.size + 1) :: us, kw⟩ (Value.ref (hp.objs.size + 1) :: xs) _ _ (fun _ _ _ => False) (hr.make C us kw) (I2.env0.make C us kw) (hb _ _ I2.kIn) r2 hq) fun r s' z => ?_))
  cases r with
  | error er => exact False.elim z
  | ok fl =>
    cases fl with
    | ret u =>
      obtain ⟨v, H2, I3, rv, ev, q3⟩ := I2.after z
      subst ev
      exact ⟨rv, V.ref (hp.objs.size + 1), H2, I3, rfl, q3⟩
    | next => exact False.elim z
    | brk => exact False.elim z
    | cont => exact False.elim z
end
/-- an own error class of one field, whose objects are kept -/
structure ErrV (P : Program) (w : World) (K : PySem.W.Frag) (mg : Str → Option Value) (base : Heap) (x : Str) (C : Addr) (fld : Str) (par : Str) : Prop where
  gC : mg x = some (.ref C)
  T : OexC K C
  init : ∃ (fI : Addr) (fd : FuncData) (ps : List Str), PySem.W.findIn K (.ref C) "__init__" = some (some (.ref fI)) ∧ PySem.W.typeIn K (.ref fI) = some (.type "function") ∧ FnOk P w K mg base CX0 2 fI fd ps (spErr C fld) ∧
    (∀ (s : Shared) (u v : Value), BindsTo s fd ⟨[u, v], []⟩ (ps.zip [u, v])) ∧ ∀ (s : Shared) (u v : Value), BindsTo s fd ⟨[u], [(par, v)]⟩ (ps.zip [u, v])
/-- a new error with this field -/
def onlyV (C : Addr) (fld : Str) (Q : VK) : List V → Hp → Prop
  | [y], H1 => ∀ a d, H1 a = none → H1 d = none → d ≠ a → Q (.ref a) (upd (upd H1 d (exd d [(fld, y)])) a (exo a C (some d)))
  | _, _ => False
theorem onlyV_one {C : Addr} {fld : Str} {Q : VK} {vs : List V} {us : List Value} {H1 : Hp} (r : Vals vs us) (h : onlyV C fld Q vs H1) : ∃ y u, vs = [y] ∧ us = [u] ∧ RelV y u ∧ ∀ a d, H1 a = none → H1 d = none → d ≠ a → Q (.ref a) (upd (upd H1 d (exd d [(fld, y)])) a (exo a C (some d))) := by
  cases r with
  | nil => exact h.elim
  | cons ru rr =>
    cases rr with
    | nil => exact ⟨_, _, rfl, rfl, ru, h⟩
    | cons _ _ => exact h.elim
def tMkV (C : Addr) (fld : Str) (te : TE) : TE := fun σ H Q => te σ H fun y H1 => ∀ a d, H1 a = none → H1 d = none → d ≠ a → Q (.ref a) (upd (upd H1 d (exd d [(fld, y)])) a (exo a C (some d)))
section
variable {X : Cx} {x fld par : Str} {C : Addr} {e : Expr} {te : TE} {p pos kpos : Pos}
theorem spErr_of {H1 : Hp} {y : V} {Q : VK} {a : Addr} {E : XK} (n : H1 a = none) (k : ∀ a d, H1 a = none → H1 d = none → d ≠ a → Q (.ref a) (upd (upd H1 d (exd d [(fld, y)])) a (exo a C (some d)))) :
    spErr C fld [.ref a, y] (upd H1 a (exo a C none)) (fun v H2 => v = .non ∧ Q (.ref a) H2) E := by
  refine ⟨a, y, rfl, upd_same, fun dx hdx hne => ⟨rfl, ?_⟩⟩
  rw [upd_back hne]
  rw [upd_ne hne] at hdx
  exact k a dx n hdx hne
theorem tMkV_ask {σ : L2.St} {H : Hp} {Q : VK} (h : tMkV C fld te σ H Q) : tCons te tNil σ H (onlyV C fld Q) := h
theorem pe_mkV (T : ErrV X.prog X.w X.K X.mg X.base x C fld par) (hr : Room 3 X.A) (hg : Gl X x) (he : PE X e te) (hdb : (x == ("__debug__" : Str)) = false := by decide)
    (hs : starEach (e :: []) X.env = (false, eval e X.env) :: starEach [] X.env := by rfl) (hpl : (backTo pos (starEach [] X.env)).any (·.1) = false := by rfl) : PE X (.Call (.Name x p) [e] [] pos) (tMkV C fld te) := by
  obtain ⟨fI, fd, ps, iC, tI, F, b1, b2⟩ := T.init
  refine ⟨fun pins s σ H Q I h => ?_⟩
  refine wpAny_Call_Name_kw (ld_glob I hg T.gC ?_ hdb)
  refine PySem.W.callWith_K (h₀ := X.base) I.ok.mod.kin T.T.kC (thn ((pa_cons he pa_nil hs).run pos pins s σ H (onlyV C fld Q) I ?_) fun us s1 ⟨vs, H1, I1, r, q⟩ => ⟨I1.kIn, ?_⟩) hs hpl
  · exact tMkV_ask h
  · obtain ⟨y, u, rfl, rfl, ru, k⟩ := onlyV_one r q
    exact run_mkV (us := [u]) (xs := [u]) (kw := []) (vs := [y]) T.T iC tI F hr (fun s a _ => b1 s _ _) (.cons ru .nil) (by show 1 ≤ sizeLine; decide) I1 fun a n => spErr_of n k
theorem pe_mkVK (T : ErrV X.prog X.w X.K X.mg X.base x C fld par) (hr : Room 3 X.A) (hg : Gl X x) (he : PE X e te) (hdb : (x == ("__debug__" : Str)) = false := by decide) (hall : (backToKw pos (keywordEach [⟨some par, e, kpos⟩] X.env)).all (·.1.isSome) = true := by rfl)
    (hks : (backToKw pos (keywordEach [⟨some par, e, kpos⟩] X.env)).filterMap (·.1) = [par] := by rfl) (hpl : ((backTo pos (starEach [] X.env)).any (·.1) || (backToKw pos (keywordEach [⟨some par, e, kpos⟩] X.env)).any (·.1.isNone)) = false := by rfl) :
    PE X (.Call (.Name x p) [] [⟨some par, e, kpos⟩] pos) (tMkV C fld te) := by
  obtain ⟨fI, fd, ps, iC, tI, F, b1, b2⟩ := T.init
  refine ⟨fun pins s σ H Q I h => ?_⟩
  refine wpAny_Call_Name_kw (ld_glob I hg T.gC ?_ hdb)
  refine PySem.W.callWith_KW0 (h₀ := X.base) I.ok.mod.kin T.T.kC hall (thn ((pk_cons he pk_nil).run pos pins s σ H (onlyV C fld Q) I (tMkV_ask h)) fun us s1 ⟨vs, H1, I1, r, q⟩ => ⟨I1.kIn, ?_⟩) hpl
  obtain ⟨y, u, rfl, rfl, ru, k⟩ := onlyV_one r q
  rw [hks]
  exact run_mkV (us := []) (xs := [u]) (kw := [(par, u)]) (vs := [y]) T.T iC tI F hr (fun s a _ => b2 s _ _) (.cons ru .nil) (by show 0 ≤ sizeLine; decide) I1 fun a n => spErr_of n k
end
/-- an own error class of no field -/
def spErr0 (C : Addr) : Sp := fun vs H Q _ => ∃ a : Addr, vs = [.ref a] ∧ H a = some (exo a C none) ∧ Q .non H
structure ErrV0 (P : Program) (w : World) (K : PySem.W.Frag) (mg : Str → Option Value) (base : Heap) (x : Str) (C : Addr) : Prop where
  gC : mg x = some (.ref C)
  T : OexC K C
  init : ∃ (fI : Addr) (fd : FuncData) (ps : List Str), PySem.W.findIn K (.ref C) "__init__" = some (some (.ref fI)) ∧ PySem.W.typeIn K (.ref fI) = some (.type "function") ∧ FnOk P w K mg base CX0 2 fI fd ps (spErr0 C) ∧ ∀ (s : Shared) (u : Value), BindsTo s fd ⟨[u], []⟩ (ps.zip [u])
def tMkV0 (C : Addr) : TE := fun _ H Q => ∀ a, H a = none → Q (.ref a) (upd H a (exo a C none))
theorem pe_mkV0 {X : Cx} {x : Str} {C : Addr} {p pos : Pos} (T : ErrV0 X.prog X.w X.K X.mg X.base x C) (hr : Room 3 X.A) (hg : Gl X x) (hdb : (x == ("__debug__" : Str)) = false := by decide) : PE X (.Call (.Name x p) [] [] pos) (tMkV0 C) := by
  obtain ⟨fI, fd, ps, iC, tI, F, b1⟩ := T.init
  refine ⟨fun pins s σ H Q I h => ?_⟩
  refine wpAny_Call_Name_kw (ld_glob I hg T.gC ?_ hdb)
  refine PySem.W.callWith_K0 I.kIn T.T.kC ?_
  exact run_mkV (us := []) (xs := []) (kw := []) (vs := []) T.T iC tI F hr (fun s a _ => b1 s _) .nil (by show 0 ≤ sizeLine; decide) I fun a n => ⟨a, rfl, upd_same, rfl, h a n⟩
end Mv
namespace Mv
open PySem PySem.Spec PySem.W PySem.Calls PyProof.Rows L2
/-! ### isinstance of an error that is kept, its dict laid or not -/
section
variable {P : Program} {w : World} {A : Around} {E : Value → Shared → Prop} {s : Shared} {K : Frag} {x D : Addr} {ox : Obj} {od : Option Obj}
theorem dataAny {C : Addr} {nm : Str} {a g : Value} (c : (clsIn K C).isSome = true) (f : findIn K (.ref C) nm = some (some a)) (y : specialIn K a "__get__" = some (some g)) (t : takesIn K a = some true) : findObj K C od nm = some (.bind g a) := by
  obtain ⟨cd, e⟩ := Option.isSome_iff_exists.mp c
  unfold findObj
  rw [e, Option.bind_some, f, Option.bind_some]
  simp [y, t]
theorem classOfV {Q : Option Value → Shared → Prop} (c : ExcC K D) (X : K.In s.heap) (I : InstAt s.heap x ox D od) (z : Q (some (.ref D)) { s with toks := s.toks + 1 }) : wpAny (model P w) A (getAttr? (.ref x) "__class__") Q E s := by
  have fo : findObj K D od "__class__" = some (.bind (.builtin "getset_descriptor.__get__") (.builtin "object.__class__")) :=
    dataAny (by obtain ⟨cd, e, _⟩ := any_some c.hd; rw [e]; rfl) c.ha c.hn c.ht
  obtain ⟨hh, gg, dw, tk, os⟩ := s
  have M0 := I.type (M := model P w)
  have M1 := looks_findIn (M := model P w) X c.hg
  have M2 := looks_findIn (M := model P w) X c.hk
  have M3 := looks_find (M := model P w) X I fo
  have isB : Looks (model P w) hh (isInstance (.ref x) (.type "BaseException")) true := M0.andThen (looks_subIn X c.hs)
  have u0 : (false && onTheHeap (Value.builtin "BaseException.__getattribute__")) = false := rfl
  have u2 : (Value.builtin "BaseException.__getattribute__" == Value.builtin "object.__getattribute__") = false := by decide +kernel
  have u1 : (onTheHeap (Value.ref D) && Value.builtin "BaseException.__getattribute__" == Value.builtin "object.__getattribute__") = false := by rw [u2]; rfl
  unfold getAttr? getAttrBy? getAttrBy
  refine wpAny_bind (wpAny_mkText (wpAny_bind (wpAny_attempt (wpAny_holding (wpAny_bind (M0.at (wpAny_bind (M1.at ?_))))))))
  show wpAny _ _ (if (onTheHeap (Value.ref D) && Value.builtin "BaseException.__getattribute__" == Value.builtin "object.__getattribute__") = true then _ else _) _ _ _
  rw [u1, if_neg Bool.false_ne_true]
  unfold getAttrByItsOwn hookBefore
  refine wpAny_bind ?_
  rw [if_pos (show onTheHeap (Value.ref D) = true from rfl)]
  refine M2.at ?_
  refine wpAny_bind (wpAny_attempt (wpAny_holding ?_))
  unfold callGetattribute
  rw [u0, if_neg Bool.false_ne_true]
  unfold boundAndCalled
  rw [PySem.F.excAttr_ValueError.ga.bind (.ref x)]
  refine wpAny_bind (wpAny_pure ?_)
  show wpAny _ _ (call (.builtin "BaseException.__getattribute__") [.ref x, .str "__class__" tk]) _ _ _
  refine wpAny_call (codeAny_call_builtin PySem.F.excAttr_ValueError.ga.plain PySem.F.entry_bexc_ga ?_)
  refine @check_slot (model P w) _ _ ⟨hh, gg, dw, tk + 1, os⟩ "BaseException.__getattribute__" "BaseException" "__getattribute__" (.ref x) [.str "__class__" tk] [] _ (by decide +kernel) (by decide +kernel) isB (PySem.F.args_bexc_ga (.ref x) (.str "__class__" tk)) ?_
  unfold Builtin.«object.__getattribute__»
  refine wpAny_bind (wpAny_of_eq (a := ((Value.ref x : Value), [Value.str "__class__" tk])) (by first | rfl | (simp only [slotArgs]; rfl)) ?_)
  refine wpAny_bind (wpAny_pure (wpAny_bind (M0.at (wpAny_bind (M3.at ?_)))))
  show wpAny _ _ (holding [Value.builtin "object.__class__"] (call (.builtin "getset_descriptor.__get__") [.builtin "object.__class__", .ref x, .ref D]) >>= ret) _ _ _
  refine wpAny_bind (wpAny_holding (wpAny_call (class_get (s := ⟨hh, gg, dw, tk + 1, os⟩) (ox := ox) (od := od) X I c.hm ?_)))
  refine wpAny_pure ?_
  show wpAny _ _ (handedOut (.ref D)) _ _ _
  rw [handedOut_of (v := .ref D) rfl]
  first
    | exact wpAny_pure (wpAny_pure z)
    | exact wpAny_pure z
    | exact wpAny_pure (wpAny_bind (wpAny_pure (wpAny_pure z)))
theorem kitV (c : ExcC K D) : KitX K (.ref x) (.ref D) (fun h => InstAt h x ox D od) where
  ty := fun _ _ _ I => I.type
  it := fun _ _ X _ => by
    obtain ⟨cd, e, _⟩ := any_some c.hd
    unfold clsIn at e
    split at e
    · rename_i q1 q2 q3 q4 ho
      intro A' Q' E' s' k z
      unfold isType loadHead
      exact wpAny_bind (wpAny_loadPart (k _ _ (X _ _ ho)) (wpAny_pure z))
    · cases e
  ne := fun h tp dd its n sl X htp => by
    obtain ⟨cd, e, _⟩ := any_some c.hd
    refine Bool.eq_false_iff.mpr fun z => ?_
    have e2 : D = tp := Value.ref.inj (beq_iff_eq.mp z)
    subst e2
    unfold clsIn at e
    split at e
    · rename_i q1 q2 q3 q4 ho
      have y := (X _ _ ho).symm.trans htp
      cases y
    · cases e
  ca := fun X I k => classOfV c X I k
end
/-- isinstance(e, c), e an error that is kept -/
def rIsV (K : Frag) : List V → Hp → VK → Prop := fun xs H Q => ∃ (a D : Addr) (d : Option Addr) (c : V) (cv : Value) (b : Bool), xs = [.ref a, c] ∧ H a = some (exo a D d) ∧ ExcC K D ∧ (∀ e, d = some e → ∃ fs, H e = some (exd e fs)) ∧ (∀ u, RelV c u → u = cv) ∧ kitOne K (.ref D) cv = some b ∧ Q (.bl b) H
theorem call_isV {X : Cx} : CallR X (.builtin "isinstance") (rIsV X.K) := by
  intro pins s σ H xs us Q I r h
  obtain ⟨a, D, d, c, cv, b, rfl, ha, hc, hd, hcv, e, q⟩ := h
  cases r with
  | cons rx rr =>
    cases rr with
    | cons rt rr =>
      cases rr
      cases rx
      have ec := hcv _ rt
      subst ec
      obtain ⟨t1, ho⟩ := exo_at I.hok ha
      have J : ∃ od, InstAt s.heap a ({ cls := .ref D, dict := d, data := .fields #[.ref t1, .none, .none, .none, .bool false, .none] } : Obj) D od := by
        cases d with
        | none => exact ⟨none, ho, rfl, rfl, trivial⟩
        | some dx =>
          obtain ⟨fs, hx⟩ := hd dx rfl
          obtain ⟨mA, hns, _⟩ := exd_at I.hok hx
          obtain ⟨od, h1, _⟩ := lookIn_ns hns
          exact ⟨some od, ho, rfl, rfl, h1⟩
      obtain ⟨od, J⟩ := J
      exact kia_one (kitV hc) I.kIn J e (fun z => nomatch z) fun tk => ⟨.bl b, H, I.kept (t' := tk) fun _ _ z => z, rfl, q⟩
/-- e.f, e an error that is kept -/
def tFldV (K : Frag) (fld : Str) (te : TE) : TE := fun σ H Q => te σ H fun x H1 => ∃ (a C dx : Addr) (fs : List (Str × V)) (v : V), x = .ref a ∧ H1 a = some (exo a C (some dx)) ∧ H1 dx = some (exd dx fs) ∧ ExcC K C ∧ findIn K (.ref C) fld = some none ∧ fs.lookup fld = some v ∧ Q v H1
theorem pe_fldV {X : Cx} {fld : Str} {e : Expr} {te : TE} {pos : Pos} (he : PE X e te) (hb : attributeBase e fld X.env (eval e X.env) = eval e X.env := by rfl) (hdbl : (fld == ("__class__" : Str)) = false := by decide) : PE X (.Attribute e fld pos) (tFldV X.K fld te) := by
  refine ⟨fun pins s σ H Q I h => ?_⟩
  refine attr_of hb (thn (he.run pins s σ H _ I h) fun u s1 ⟨y, H1, I1, rx, a, C, dx, fs, v, ex, ha, hx, hc, hno, hl, q⟩ => ?_)
  subst ex
  cases rx
  obtain ⟨t1, ho⟩ := exo_at I1.hok ha
  obtain ⟨mA, hns, hr⟩ := exd_at I1.hok hx
  obtain ⟨od, hd, lk⟩ := lookIn_ns hns
  obtain ⟨u, hu, ru⟩ := RelO.some_of (v := v) (o := mA fld) (by rw [← hl]; exact hr fld)
  have J : InstAt s1.heap a ({ cls := .ref C, dict := some dx, data := .fields #[.ref t1, .none, .none, .none, .bool false, .none] } : Obj) C (some od) := ⟨ho, rfl, rfl, hd⟩
  exact HandSPX.exc_get I1.kIn J hc.hg hc.hk hc.hs (findObj_own hc.hd hno rfl (by rw [lk, hu])) (handed_of ru) ⟨v, H1, I1.tok _, ru, q⟩
end Mv
/-! raising an own error of no field; isinstance of the error that a suite holds -/
namespace Mv
open PySem PySem.Spec PySem.W PySem.Calls PyProof.Rows L2
section
variable {X : Cx} {x : Str} {C : Addr} {p pos : Pos}
/-- the new error is let go; it has no dict -/
theorem end_none {pins : List (Addr × Obj)} {σ : L2.St} {Ha Hb : Hp} {ha hb hc : Heap} {ga gb : Array GenState} {da db : Drawn} {ta tb : Nat} {oa ob : OsState} {a : Addr} (I : Inv X pins σ Ha ⟨ha, ga, da, ta, oa⟩) (hz : ha.objs.size ≤ a) (kp : ∀ b u, ha.get? b = some u → hb.get? b = some u)
    (U0 : Un (frs X.stack) [] (upd Ha a (exo a C none)) Hb hb hc) (ok : HOk X.prog X.w Hb hc) (eo : ob = oa) (bare : AllBare gb) (ea : Hb a = some (exo a C none)) :
    ∃ (r : Addr) (G : Heap), Inv X pins σ (L2.del Hb a) ⟨G, gb, db, tb, ob⟩ ∧ (∀ b u, G.get? b = some u → hc.get? b = some u) ∧ G.get? a = none ∧ hc.get? a = some ({ cls := .ref C, dict := none, data := .fields #[.ref r, .none, .none, .none, .bool false, .none] } : Obj) ∧ L2.del Hb a a = none := by
  obtain ⟨r, hr⟩ := exo_at ok ea
  have none_a : Ha a = none := I.hok.fresh hz
  obtain ⟨G, in_, out⟩ := restrict hc fun b => decide (b ≠ a)
  have same : ∀ {b}, b ≠ a → G.get? b = hc.get? b := fun {b} n => in_ b (decide_eq_true n)
  have gone : G.get? a = none := out a (by simp)
  have low : ∀ {b : Addr} {u : Obj}, ha.get? b = some u → b ≠ a := fun {b u} z => Nat.ne_of_lt (Nat.lt_of_lt_of_le (Heap.lt_size z) hz)
  have lift : ∀ {b : Addr}, b ≠ a → Ha b = none → upd Ha a (exo a C none) b = none := fun {b} n z => (upd_ne n).trans z
  have U : Un (frs X.stack) [] Ha (L2.del Hb a) ha G := by
    refine { keep := ?_, slot := ?_, free := ?_, there := ?_, tups := ?_, frzs := ?_, tbls := ?_ }
    · intro b u z n hf hx
      rw [same (low z)]
      exact U0.keep b u (kp b u z) (lift (low z) n) hf hx
    · intro b u z n hf hx
      rw [same (low z)]
      exact U0.slot b u (kp b u z) (lift (low z) n) hf hx
    · intro b u z n hx
      rw [L2.del_ne (low z)]
      exact U0.free b u (kp b u z) (lift (low z) n) hx
    · intro b u z hx
      rw [same (low z)]
      exact U0.there b u (kp b u z) hx
    · intro b xs z
      have n := ne_of_none z none_a
      rw [L2.del_ne n]
      exact U0.tups b xs ((upd_ne n).trans z)
    · intro b u v z
      have n := ne_of_none z none_a
      rw [L2.del_ne n]
      exact U0.frzs b u v ((upd_ne n).trans z)
    · intro b ps z
      have n := ne_of_none z none_a
      rw [L2.del_ne n]
      exact U0.tbls b ps ((upd_ne n).trans z)
  have okG : HOk X.prog X.w (L2.del Hb a) G := by
    intro b u z
    have hba : b ≠ a := fun e => by
      rw [e, L2.del_same] at z
      cases z
    rw [L2.del_ne hba] at z
    have noa : ∀ {c : Addr}, Hb c = some (.own b) → c ≠ a := fun {c} hc2 => at_ne ea hc2 exo_own
    refine (ok b u z).stay (fun c v hc2 y => ?_) (fun c hc2 => ?_) (fun c xs hc2 => ?_)
    · have hca : c ≠ a := by
        rcases hc2 with q | q
        · rw [q]; exact hba
        · exact noa q
      rw [same hca]
      exact y
    · rw [L2.del_ne (noa hc2)]; exact hc2
    · rw [L2.del_ne (at_ne ea hc2 exo_tup)]; exact hc2
  refine ⟨r, G, I.call' (ch := []) eo U okG bare (fun b z => absurd z (by simp)), fun b u z => ?_, gone, hr, L2.del_same⟩
  by_cases hba : b = a
  · rw [hba, gone] at z
    cases z
  · exact (same hba).symm.trans z
/-- raise X() -/
def tMkErr0 (C : Addr) : L2.St → Hp → XK → Prop := fun _ H Q => Q (.ref C) none H
theorem pmk_err0 (T : ErrV0 X.prog X.w X.K X.mg X.base x C) (hr : Room 3 X.A) (hg : Gl X x) (hdb : (x == ("__debug__" : Str)) = false := by decide) : PMk X (.Call (.Name x p) [] [] pos) (tMkErr0 C) := by
  obtain ⟨fI, fd, ps, iC, tI, F1, b1⟩ := T.init
  intro pins s σ H Q I h
  obtain ⟨nm, q, N, bs, bm, sn, sub, ab, col, dd, k0, k1, k2, k3, k5, hC, hbm⟩ := T.T.cls
  refine wpAny_Call_Name_kw (ld_glob I hg T.gC ?_ hdb)
  refine PySem.W.callWith_K0 I.kIn T.T.kC ?_
  show wpAny _ _ (call (.ref C) []) _ _ _
  obtain ⟨hp, g, dr, tk, os⟩ := s
  have up : hp.objs.size ≤ hp.objs.size + 1 := Nat.le_succ _
  have new : H (hp.objs.size + 1) = none := I.hok.fresh up
  have kk : ∀ b u, hp.get? b = some u → ((hp.push (PySem.W.kdv_tup [])).push (PySem.HandSPX.excO C hp.objs.size)).get? b = some u := fun b u e => Heap.get?_push_of_some _ (Heap.get?_push_of_some _ e)
  have at_ : ((hp.push (PySem.W.kdv_tup [])).push (PySem.HandSPX.excO C hp.objs.size)).get? (hp.objs.size + 1) = some (PySem.HandSPX.excO C hp.objs.size) := by heap_get
  have I2 : Inv X pins σ (upd H (hp.objs.size + 1) (exo (hp.objs.size + 1) C none)) ⟨_, g, dr, tk, os⟩ := I.laid (t' := tk) (a := hp.objs.size + 1) (o := exo (hp.objs.size + 1) C none) kk up (exo_ok at_)
  have r2 : Vals [V.ref (hp.objs.size + 1)] [Value.ref (hp.objs.size + 1)] := .cons rfl .nil
  refine wpAny_call (PySem.HandSPX.call_own F.excBase_ValueError (fun Y => PySem.HandSPX.refsVE_contains Y bm hbm) (I.kIn _ _ hC) (PySem.W.looks_findIn I.kIn iC) (fun self => PySem.W.bind_fn I.kIn self tI) (by show 0 ≤ sizeLine; decide)
    (codeAny_mono (F1.run _ X.stack _ _ ⟨[Value.ref (hp.objs.size + 1)], []⟩ [Value.ref (hp.objs.size + 1)] _ (fun v H' => H' = upd H (hp.objs.size + 1) (exo (hp.objs.size + 1) C none) ∧ v = .non) (fun _ _ _ => False) (hr.make C [] []) (I2.env0.make C [] []) (b1 _ _) r2 ⟨hp.objs.size + 1, rfl, upd_same, rfl, rfl⟩) fun r s' hq' => ?_))
  cases r with
  | error er => exact pass0 pins σ _ _ er s' I2 hq'
  | ok fl =>
    cases fl with
    | ret u =>
      obtain ⟨v, H2, os2, bare2, un2, hok2, rv, eH, ev⟩ := hq'
      subst eH ev
      cases rv
      obtain ⟨h2, g2, d2, t2, os'⟩ := s'
      obtain ⟨r0, G, J, kG, ge, hoe, na⟩ := end_none (db := d2) (tb := t2) I up kk un2 hok2 os2 bare2 upd_same
      have ed : L2.del (upd H (hp.objs.size + 1) (exo (hp.objs.size + 1) C none)) (hp.objs.size + 1) = H := by
        funext b
        by_cases e : b = hp.objs.size + 1
        · rw [e, L2.del_same, new]
        · rw [L2.del_ne e, upd_ne e]
      rw [ed] at J na
      exact ⟨rfl, _, _, _, ⟨G, g2, d2, t2, os'⟩, _, .ref C, none, rfl, J, kG, ge, hoe, ⟨rfl, rfl⟩, rfl, rfl, na, rfl, bare2, raises_own T.T.exC T.T.tyC, h⟩
    | next => exact False.elim hq'
    | brk => exact False.elim hq'
    | cont => exact False.elim hq'
def tRaiseErr0 (C : Addr) (W : WX) : TS := fun _ σ H => tMkErr0 C σ H fun cls d H' => W cls d σ H'
theorem ps_raiseErr0 {W : WX} {pos2 : Pos} (hc : X.calm = true) (T : ErrV0 X.prog X.w X.K X.mg X.base x C) (hr : Room 3 X.A) (tk : Takes X W) (hg : Gl X x) (hdb : (x == ("__debug__" : Str)) = false := by decide) :
    PS X (.Raise (some (.Call (.Name x p) [] [] pos)) none pos2) (tRaiseErr0 C W) := ps_raise hc tk (pmk_err0 T hr hg hdb)
/-- isinstance(e, c), e the error that the suite holds, of no dict -/
def rIsS (K : PySem.W.Frag) (a : Addr) (cls : Value) (d : Option Addr) : List V → Hp → VK → Prop := fun xs H Q => ∃ (D : Addr) (c : V) (cv : Value) (b : Bool), xs = [.ref a, c] ∧ cls = .ref D ∧ d = none ∧ ExcC K D ∧ (∀ u, RelV c u → u = cv) ∧ PySem.W.kitOne K (.ref D) cv = some b ∧ Q (.bl b) H
theorem call_isS {a : Addr} {oe : Obj} {cls : Value} {d : Option Addr} {pn : List (Addr × Obj)} (hz : Zc cls d oe) (hf : ∃ vs, oe.data = .fields vs) : CallR (X.suite a ((a, oe) :: pn)) (.builtin "isinstance") (rIsS X.K a cls d) := by
  intro pins s σ H xs us Q I r h
  obtain ⟨D, c, cv, b, rfl, ec, ed, hc, hcv, e, q⟩ := h
  subst ec ed
  cases r with
  | cons rx rr =>
    cases rr with
    | cons rt rr =>
      cases rr
      cases rx
      have ec := hcv _ rt
      subst ec
      obtain ⟨ha, -⟩ := I.pin (a, oe) (List.mem_append_left _ List.mem_cons_self)
      have J : PySem.W.InstAt s.heap a oe D none := ⟨ha, hz.1, by obtain ⟨vs, hv⟩ := hf; unfold PySem.W.notCls; rw [hv] <;> rfl, by rw [hz.2]; trivial⟩
      exact PySem.W.kia_one (kitV hc) I.kIn J e (fun z => nomatch z) fun tk => ⟨.bl b, H, I.kept (t' := tk) fun _ _ z => z, rfl, q⟩
end
end Mv
/-! try with several clauses 'except x as n', n the same in all -/
namespace Mv
open PySem PySem.Spec PyProof.Rows L2
abbrev Clause : Type := Value × (Addr → Value → Option Addr → TS)
/-- the ends of a clause's suite: the slot i is emptied behind it -/
def endsN (i : Nat) (D : Ends) : Ends := { nx := fun σ H => D.nx (σ.set i none) H, rt := D.rt, bk := fun σ H => D.bk (σ.set i none) H, ct := fun σ H => D.ct (σ.set i none) H }
def wAsM (K : PySem.W.Frag) (i : Nat) (Wout : WX) (D : Ends) : List Clause → WX
  | [] => Wout
  | q :: r => fun cls d σ H => ∃ b, PySem.W.exmOne K cls q.1 = some b ∧ (b = true → ∀ a, H a = none → q.2 a cls d (endsN i D) (σ.set i (some (.ref a))) H) ∧ (b = false → wAsM K i Wout D r cls d σ H)
inductive Clauses (X : Cx) (n : Str) : List ExceptHandler → List Clause → Prop
  | nil : Clauses X n [] []
  | cons {x : Str} {q : Clause} {st : Stmt} {suite : List Stmt} {p1 p2 : Pos} {hds : List ExceptHandler} {l : List Clause} (hc : Names X x q.1)
      (su : ∀ (a : Addr) (oe : Obj) (cls : Value) (d : Option Addr) (pn : List (Addr × Obj)), Zc cls d oe → (∃ vs, oe.data = .fields vs) → PSs (X.suite a ((a, oe) :: pn)) (st :: suite) (q.2 a cls d)) (r : Clauses X n hds l) :
      Clauses X n (.ExceptHandler (some (.Name x p1)) (some n) (st :: suite) p2 :: hds) (q :: l)
section
variable {X : Cx} {n : Str} {i : Nat} {body : List Stmt} {h1 : ExceptHandler} {hds : List ExceptHandler} {l : List Clause} {pos : Pos} {tb : WX → TS} {Wout : WX}
theorem ps_try_asM (st : X.stack = X.env :: X.outer) (fr : X.env.frame = some X.env.locals) (nd : X.N.Nodup) (at_i : X.N[i]? = some n) (lo : X.env.kindOf n = some .local) (tk : Takes X Wout)
    (hb : ∀ (W : WX) (pn : List (Addr × Obj)) (xe : Value → Shared → Prop), Takes (X.tr pn xe) W → PassesOwn (model X.prog X.w) X.A X.env xe → PSs (X.tr pn xe) body (tb W))
    (hh : Clauses X n (h1 :: hds) l) : PS X (.Try body (h1 :: hds) [] [] pos) (fun D σ H => tb (wAsM X.K i Wout D l) D σ H) := by
  refine ⟨fun pins s σ H D I h => ?_⟩
  have okX := I.ok
  have frames : X.A.frames = some (X.env :: X.outer) := by rw [okX.frames, st]
  refine wpAny_Try_except ?_
  have run := (hb (wAsM X.K i Wout D l) (X.pn ++ pins) (fun e s1 => wpAny (model X.prog X.w) X.A (noteFrame e X.env) (fun _ s2 => wpAny (model X.prog X.w) X.A (setFlight e none) (fun _ s3 =>
    wpAny (model X.prog X.w) X.A (handleBy e X.env (h1 :: hds)) (SP X pins D) X.xe s3) X.xe s2) X.xe s1) (fun u s' caught => ?_) PassesOwn.looking).run [] s σ H D (I.toTry _) h
  · refine wpAny_mono run (fun fl s1 done => ?_) (fun e s1 he => he)
    cases fl with
    | next =>
      obtain ⟨σ1, H1, J1, q⟩ := done
      exact wpAny_execs_nil ⟨σ1, H1, J1.ofTry okX, q⟩
    | brk =>
      obtain ⟨σ1, H1, J1, q⟩ := done
      exact ⟨σ1, H1, J1.ofTry okX, q⟩
    | cont =>
      obtain ⟨σ1, H1, J1, q⟩ := done
      exact ⟨σ1, H1, J1.ofTry okX, q⟩
    | ret u =>
      obtain ⟨v1, σ1, H1, J1, r1, q⟩ := done
      exact ⟨v1, σ1, H1, J1.ofTry okX, r1, q⟩
  obtain ⟨a, B, sI, pins2, σ2, H2, cls, d, rfl, Jt, bare, over, sky, noA, osEq, gens, wish⟩ := caught
  have J : Inv X pins σ2 H2 sI := Jt.ofTry okX
  have skyX : Sky B (X.env :: X.outer) a (Zc cls d) X.env.locals s'.heap := by rw [← st]; exact sky
  show wpAny (model X.prog X.w) X.A (noteFrame (.ref a) X.env) _ _ _
  refine Sky.land Zc.steady frames fr skyX fun hp fl ovr => ?_
  have J1 : Inv X pins σ2 H2 { s' with heap := hp } := J.landed bare fl.1 (over.trans ovr) osEq gens
  obtain ⟨ob, vs, at_a, zc, dat⟩ := fl.there
  have outside : a ∉ frs (X.env :: X.outer) := fun mem => by
    obtain ⟨_, o2, e2, nf⟩ := fl.2.2.1.mem mem
    rw [at_a] at e2
    cases e2
    exact nf _ dat
  have nL : a ≠ X.env.locals := fun z => outside (List.mem_filterMap.mpr ⟨X.env, List.mem_cons_self, by rw [fr, z]⟩)
  have nF : a ∉ X.fs := fun mem => by
    obtain ⟨e, he, q⟩ := List.mem_filterMap.mp mem
    exact outside (List.mem_filterMap.mpr ⟨e, List.mem_cons_of_mem _ he, q⟩)
  have S1 := J1.suite at_a dat noA nL nF
  have LT : PySem.W.Looks (model X.prog X.w) hp (typeOf (.ref a)) cls := fun A1 Q1 E1 s1 k1 q1 => wpAny_typeOf_ref (k1 _ _ at_a) (by rw [zc.1]; exact q1)
  have each : ∀ {hs2 : List ExceptHandler} {l2 : List Clause}, Clauses X n hs2 l2 → wAsM X.K i Wout D l2 cls d σ2 H2 → wpAny (model X.prog X.w) X.A (handleBy (.ref a) X.env hs2) (SP X pins D) X.xe { s' with heap := hp } := by
    intro hs2 l2 cl
    induction cl with
    | nil =>
      intro w
      refine wpAny_handleBy_nil ?_
      obtain ⟨_, _, _, oo, vv, T, oT, tt, e1, e2, e3, e4, e5⟩ := id fl
      unfold PySem.passOn
      refine wpAny_bind (wpAny_field e1 e3 e4 ?_)
      rw [if_neg (show ¬ ((Value.ref T == Value.none) = true) from by simp)]
      have leave : wpAny (model X.prog X.w) X.A (setFlight (.ref a) X.env.frame) (fun _ s5 => wpAny (model X.prog X.w) X.A (throw (.ref a) : Sem Flow) (SP X pins D) X.xe s5) X.xe { s' with heap := hp } := by
        rw [fr]
        refine HandSPX.setFlight_upZ fl fun h5 hz5 up5 => wpAny_throw (tk _ _ ?_)
        refine ⟨a, B, sI, pins, σ2, H2, cls, d, rfl, J, bare, (over.trans ovr).trans up5, .inr (.inr ?_), noA, osEq, gens, w⟩
        rw [st]
        exact hz5
      first
        | exact wpAny_bind (wpAny_pure (wpAny_bind leave))
        | exact wpAny_bind leave
    | @cons x q st2 suite p1 p2 hs3 l3 hc su r ih =>
      intro w
      obtain ⟨b, eb, yes, no⟩ := w
      have named : ∀ {Q : Value → Shared → Prop} {E : Value → Shared → Prop}, Q q.1 { s' with heap := hp } → wpAny (model X.prog X.w) (X.A.mark (some (.ref a))) (eval (.Name x p1) X.env) Q E { s' with heap := hp } := fun {Q E} z => by
        obtain ⟨g1, g2, g3 | ⟨g3, g4, g5⟩⟩ := hc
        · exact ld_glob (X := X.suite a ((a, ob) :: (X.pn ++ pins))) S1 g1 g3 z g2
        · exact ld_blt (X := X.suite a ((a, ob) :: (X.pn ++ pins))) S1 g1 g3 g4 z g5 g2
      refine wpAny_handleBy_cons (codeAny_handlers_test ?_) (by intro z; cases z)
      refine named ((PySem.W.exm_one (M := model X.prog X.w) J1.kIn LT eb).here ?_)
      cases b with
      | false =>
        show wpAny _ X.A (handleBy (.ref a) X.env hs3) _ _ _
        exact ih (no rfl)
      | true =>
        refine codeAny_handlers_suite_as ?_
        refine HandSPX.lands_againZ fl fun h6 fl6 up6 => ?_
        have J6 : Inv X pins σ2 H2 { s' with heap := h6 } := J.landed bare fl6.1 ((over.trans ovr).trans up6) osEq gens
        obtain ⟨o6, vs6, at6, zc6, dat6⟩ := fl6.there
        have S6 := J6.suite at6 dat6 noA nL nF
        refine store_ok (X := X.suite a ((a, o6) :: (X.pn ++ pins))) (v := .ref a) S6 nd at_i (.inl lo) rfl (fun s7 S7 => ?_) (.inr lo)
        refine wpAny_mono ((su a o6 cls d (X.pn ++ pins) zc6 ⟨_, dat6⟩).run [] s7 _ H2 _ S7 (yes rfl a noA)) (fun fw s8 done => ?_) (fun _ _ z => False.elim z)
        have gone : ∀ {σ8 : L2.St} {H8 : Hp} {Q : Shared → Prop}, Inv (X.suite a ((a, o6) :: (X.pn ++ pins))) [] σ8 H8 s8 → (∀ s9, Inv X pins (σ8.set i none) H8 s9 → Q s9) →
            wpAny (model X.prog X.w) X.A (do bindName X.env n .none; unbindBehindTheSuite X.env n p2) (fun _ s9 => Q s9) X.xe s8 := fun {σ8 H8 Q} S8 hq => gone_ok (S8.unsuite okX) nd at_i lo hq
        cases fw with
        | next =>
          obtain ⟨σ8, H8, S8, q8⟩ := done
          exact gone S8 fun s9 J9 => ⟨_, _, J9, q8⟩
        | brk =>
          obtain ⟨σ8, H8, S8, q8⟩ := done
          exact gone S8 fun s9 J9 => ⟨_, _, J9, q8⟩
        | cont =>
          obtain ⟨σ8, H8, S8, q8⟩ := done
          exact gone S8 fun s9 J9 => ⟨_, _, J9, q8⟩
        | ret u =>
          obtain ⟨v8, σ8, H8, S8, r8, q8⟩ := done
          exact gone S8 fun s9 J9 => ⟨_, _, _, J9, r8, q8⟩
  exact each hh wish
end
end Mv
/-! comparisons -/
namespace Mv
open PySem PySem.Spec PyProof.Rows L2
abbrev sCInit : Stmt := inClass (top 24) 0
abbrev sCTerms : Stmt := inClass (top 24) 1
abbrev sCEq : Stmt := inClass (top 24) 2
def cfl (tp : Addr) (r : Int) : List (Str × V) := putF "constant" (.int r) (putF "_pairs" (.ref tp) [])
theorem kpc : ¬ (("_pairs" : Str) = "constant") := by decide +kernel
theorem cfl_pairs (tp : Addr) (r : Int) : (cfl tp r).lookup ("_pairs" : Str) = some (.ref tp) := by
  unfold cfl
  rw [lookup_putF, if_neg kpc, lookup_putF, if_pos rfl]
theorem cfl_const (tp : Addr) (r : Int) : (cfl tp r).lookup ("constant" : Str) = some (.int r) := by
  unfold cfl
  rw [lookup_putF, if_pos rfl]
theorem cfl_no (tp : Addr) (r : Int) {m : Str} (h1 : ¬ m = "constant") (h2 : ¬ m = "_pairs") : (cfl tp r).lookup m = none := by
  unfold cfl
  rw [lookup_putF, if_neg h1, lookup_putF, if_neg h2]
  all_goals rfl
structure CmpAt (K : PySem.W.Frag) (C : Addr) (H : Hp) (p : Addr) (ps : Prs) (r : Int) : Prop where
  ob : ∃ dx tp as, H p = some (.ins C dx (cfl tp r)) ∧ SqT K H tp (as.map V.ref) ∧ Paired (PairAt K H) as ps
theorem CmpAt.same {K : PySem.W.Frag} {C : Addr} {H H' : Hp} {p : Addr} {ps : Prs} {r : Int} (s : Same H H') (h : CmpAt K C H p ps r) : CmpAt K C H' p ps r := by
  obtain ⟨dx, tp, as, h1, h2, h3⟩ := h.ob
  exact ⟨dx, tp, as, s _ _ h1, same_sqT s h2, L2.Paired.mapP h3 fun _ _ q => q.same s⟩
def spCInit (K : PySem.W.Frag) (C : Addr) : Sp := fun vs H Q _ => ∃ (p dx l : Addr) (xs : List V) (r : Int), vs = [.ref p, .ref l, .int r] ∧ H p = some (.ins C dx []) ∧ SqL K H l xs ∧
  ∀ tp H', H tp = none → tp ≠ p → H' p = some (.ins C dx (cfl tp r)) → H' tp = some (.tup xs) → (∀ b o, H b = some o → b ≠ p → H' b = some o) → Q .non H'
structure CT (K : PySem.W.Frag) (mg : Str → Option Value) (C : Addr) : Prop where
  cl : Cls K C
  nP : NoAttr K C "_pairs"
  nC : NoAttr K C "constant"
  gC : mg "Comparison" = some (.ref C)
  tuple : mg "tuple" = none
  list : mg "list" = none
section
variable {P : Program} {w : World} {K : PySem.W.Frag} {mg : Str → Option Value} {base : Heap} {C : Addr}
theorem scCI : FnScope ["self", "pairs", "constant"] ["self", "pairs", "constant"] (defScope sCInit) := ⟨rfl, rfl, rfl, by decide +kernel, rfl, by decide +kernel, by decide +kernel⟩
theorem ok_cinit {f : Addr} {fd : FuncData} (F : Fun K "__init__" "Comparison.__init__" sCInit f fd) (T : CT K mg C) : FnOk P w K mg base CX0 1 f fd ["self", "pairs", "constant"] (spCInit K C) := by
  refine F.ok scCI (fun vs H Q E h => ?_) (fun cdv A outer s H vs Q E hr h => ?_)
  · obtain ⟨p, dx, l, xs, r, rfl, _⟩ := h
    rfl
  · obtain ⟨p, dx, l, xs, r, rfl, hp, hl, k⟩ := h
    refine ⟨_, pss_cons (ps_fld (pv 0) (pe_callTy call_tuple_of (by rfl) T.tuple (by decide +kernel) (pa_cons (pv 1) pa_nil)) rfl) (pss_one (ps_fld (pv 0) (pv 2) rfl)), ?_⟩
    refine ⟨_, rfl, l, xs, rfl, .inl ⟨hl, fun tp ht => ?_⟩⟩
    have npt : p ≠ tp := ne_of_none hp ht
    refine ⟨_, rfl, p, C, dx, [], rfl, (by rw [upd_ne npt]; exact hp), T.cl, T.nP, (by show 0 < 1000; decide), _, rfl, _, rfl, p, C, dx, _, rfl, upd_same, T.cl, T.nC, (by show 1 < 1000; decide), ?_⟩
    refine k tp _ ht (Ne.symm npt) upd_same (by rw [upd_ne (Ne.symm npt), upd_ne (Ne.symm npt), upd_same]) fun b o e hb => ?_
    rw [upd_ne hb, upd_ne hb, upd_ne (ne_of_none e ht)]
    exact e
/-- form.terms() -/
def spCTerms (K : PySem.W.Frag) (C : Addr) : Sp := fun vs H Q _ => ∃ (p dx tp : Addr) (r : Int) (xs : List V), vs = [.ref p] ∧ H p = some (.ins C dx (cfl tp r)) ∧ SqT K H tp xs ∧ ∀ l, H l = none → Q (.ref l) (upd H l (.lst xs))
theorem scCT : FnScope ["self"] ["self"] (defScope sCTerms) := ⟨rfl, rfl, rfl, by decide +kernel, rfl, by decide +kernel, by decide +kernel⟩
theorem ok_cterms {f : Addr} {fd : FuncData} (F : Fun K "terms" "Comparison.terms" sCTerms f fd) (T : CT K mg C) : FnOk P w K mg base CX0 1 f fd ["self"] (spCTerms K C) := by
  refine F.ok scCT (fun vs H Q E h => ?_) (fun cdv A outer s H vs Q E hr h => ?_)
  · obtain ⟨p, dx, tp, r, xs, rfl, _⟩ := h
    rfl
  · obtain ⟨p, dx, tp, r, xs, rfl, hp, ht, k⟩ := h
    exact ⟨_, pss_one (ps_ret (pe_callTy call_list_of (by rfl) T.list (by decide +kernel) (pa_cons (pe_fld (pv 0) rfl) pa_nil))), _, rfl, p, C, dx, _, _, rfl, hp, T.cl, T.nP, cfl_pairs _ _, tp, xs, rfl, .inr ht, k⟩
end
/-- form == y -/
def spCEq (K : PySem.W.Frag) (C : Addr) : Sp := fun vs H Q _ => ∃ (p : Addr) (y : V) (ps : Prs) (r : Int), vs = [.ref p, y] ∧ CmpAt K C H p ps r ∧ okP ps ∧
  ((∃ (q : Addr) (qs : Prs) (r2 : Int), y = .ref q ∧ CmpAt K C H q qs r2 ∧ okP qs ∧ Q (.bl (decide (ps = qs) && decide (r = r2))) H) ∨ ∃ t, TyX K H y t ∧ PySem.W.kitOne K t (.ref C) = some false ∧ Q (.bl false) H)
section
variable {P : Program} {w : World} {K : PySem.W.Frag} {mg : Str → Option Value} {base : Heap} {C : Addr}
theorem ty_cmp {f : Addr} {H : Hp} {p : Addr} {ps : Prs} {r : Int} (T : CT K mg C) (U : FQ K mg C f) (h : CmpAt K C H p ps r) : TyX K H (.ref p) (.ref C) := by
  obtain ⟨dx, tp, as, h1, _⟩ := h.ob
  exact .base (.ins h1 T.cl U.ca U.cn U.ct U.cm)
theorem scCE : FnScope ["self", "other"] ["self", "other"] (defScope sCEq) := ⟨rfl, rfl, rfl, by decide +kernel, rfl, by decide +kernel, by decide +kernel⟩
theorem ok_ceq {f : Addr} {fd : FuncData} (F : Fun K "__eq__" "Comparison.__eq__" sCEq f fd) (T : CT K mg C) (U : FQ K mg C f) : FnOk P w K mg base CX0 1 f fd ["self", "other"] (spCEq K C) := by
  refine F.ok scCE (fun vs H Q E h => ?_) (fun cdv A outer s H vs Q E hr h => ?_)
  · obtain ⟨p, y, ps, r, rfl, _⟩ := h
    rfl
  · obtain ⟨p, y, ps, r, rfl, hp, okp, h⟩ := h
    refine ⟨_, pss_one (ps_ret (pe_and (pe_callB call_isi (by rfl) U.isi (by decide +kernel) (pa_cons (pv 1) (pa_cons (pe_glob (v := .ref C) rfl T.gC rfl) pa_nil)))
      (pe_and (pe_cmpR (op_eqD hr.units) (pe_fld (pv 0) rfl) (pe_fld (pv 1) rfl) (nomark _)) (pe_one (pe_cmpR op_eq (pe_fld (pv 0) rfl) (pe_fld (pv 1) rfl) (nomark _)))))), ?_⟩
    rcases h with ⟨q, qs, r2, rfl, hq, okq, k⟩ | ⟨t, ty, ht, k⟩
    · refine ⟨_, rfl, _, _, _, _, true, rfl, .own C, ty_cmp T U hq, U.kit, true, rfl, ?_⟩
      refine iteT ?_
      obtain ⟨dx, tp, as, h1, h2, h3⟩ := hp.ob
      obtain ⟨dy, tq, bs, g1, g2, g3⟩ := hq.ob
      refine ⟨_, rfl, p, C, dx, _, _, rfl, h1, T.cl, T.nP, cfl_pairs _ _, _, rfl, q, C, dy, _, _, rfl, g1, T.cl, T.nP, cfl_pairs _ _, pairsD ps, pairsD qs, .tup h2 (dp_pairs h3), .tup g2 (dp_pairs g3), shaped_pairs okp, shaped_pairs okq, _, rfl, ?_⟩
      have e : PyData.eqv (pairsD ps) (pairsD qs) = decide (ps = qs) := eqv_pairs ps qs
      rw [e]
      by_cases hpq : ps = qs
      · refine ifT (decide_eq_true hpq) ?_
        refine ⟨_, rfl, p, C, dx, _, _, rfl, h1, T.cl, T.nC, cfl_const _ _, _, rfl, q, C, dy, _, _, rfl, g1, T.cl, T.nC, cfl_const _ _, rfl, ?_⟩
        rw [decide_eq_true hpq, Bool.true_and] at k
        have e2 : decide (V.int r = V.int r2) = decide (r = r2) := by
          by_cases h : r = r2 <;> simp [h]
        rw [e2]
        exact k
      · refine ifF (decide_eq_false hpq) ?_
        rw [decide_eq_false hpq] at k
        exact k
    · refine ⟨_, rfl, _, _, _, _, false, rfl, .own C, ty, ht, false, rfl, ?_⟩
      exact iteF k
end
end Mv
/-! _compared, at_least, above -/
namespace Mv
open PySem PySem.Spec PyProof.Rows L2
abbrev sCompared : Stmt := top 35
abbrev sAtLeast : Stmt := top 28
def gcdL (ns : List Int) : Nat := ns.foldl (fun g n => Nat.gcd g n.natAbs) 0
theorem gcdL_snoc (ns : List Int) (n : Int) : gcdL (ns ++ [n]) = Nat.gcd (gcdL ns) n.natAbs := by
  unfold gcdL
  rw [List.foldl_append]
  rfl
theorem gcdL_dvd : ∀ (ns : List Int) (g0 : Nat), ns.foldl (fun g n => Nat.gcd g n.natAbs) g0 ∣ g0 ∧ ∀ n ∈ ns, ns.foldl (fun g n => Nat.gcd g n.natAbs) g0 ∣ n.natAbs
  | [], g0 => ⟨Nat.dvd_refl _, fun _ h => by simp at h⟩
  | n :: ns, g0 => by
    obtain ⟨h1, h2⟩ := gcdL_dvd ns (Nat.gcd g0 n.natAbs)
    rw [List.foldl_cons]
    refine ⟨Nat.dvd_trans h1 (Nat.gcd_dvd_left _ _), fun m hm => ?_⟩
    rcases List.mem_cons.mp hm with rfl | hm
    · exact Nat.dvd_trans h1 (Nat.gcd_dvd_right _ _)
    · exact h2 m hm
theorem dvd_gcdL {d : Nat} : ∀ (ns : List Int) (g0 : Nat), d ∣ g0 → (∀ n ∈ ns, d ∣ n.natAbs) → d ∣ ns.foldl (fun g n => Nat.gcd g n.natAbs) g0
  | [], g0, h, _ => h
  | n :: ns, g0, h, hs => by
    rw [List.foldl_cons]
    exact dvd_gcdL ns _ (Nat.dvd_gcd h (hs n List.mem_cons_self)) fun m hm => hs m (List.mem_cons_of_mem _ hm)
theorem gcdL_pos {ns : List Int} (h : ns ≠ []) (nz : ∀ n ∈ ns, n ≠ 0) : 0 < gcdL ns := by
  cases ns with
  | nil => exact absurd rfl h
  | cons n ns =>
    rcases Nat.eq_zero_or_pos (gcdL (n :: ns)) with z | z
    · have hd := (gcdL_dvd (n :: ns) 0).2 n List.mem_cons_self
      have hd2 : gcdL (n :: ns) ∣ n.natAbs := hd
      rw [z] at hd2
      have := Nat.eq_zero_of_zero_dvd hd2
      exact absurd (Int.natAbs_eq_zero.mp this) (nz n List.mem_cons_self)
    · exact z
theorem gcdL_le {ns : List Int} {n : Int} (h : n ∈ ns) (nz : n ≠ 0) : gcdL ns ≤ n.natAbs := Nat.le_of_dvd (Int.natAbs_pos.mpr nz) ((gcdL_dvd ns 0).2 n h)
def divP (ps : Prs) (g : Int) : Prs := ps.map fun p => (p.1, p.2 / g)
def gI (rs : Prs) : Int := ((gcdL (rs.map (·.2)) : Nat) : Int)
/-- the constant: the rest's difference, the least -/
def conI (rs : Prs) (d l : Int) : Int := -((d - l) / gI rs)
def CmpOut (K : PySem.W.Frag) (C CC CN CB : Addr) (H : Hp) (ps qs : Prs) (d l : Int) (Q : VK) (E : XK) : Prop := ∀ rs, Canon rs → (∀ t, getP rs t = getP ps t - getP qs t) → rs.length ≤ ps.length + qs.length →
  (∀ p ∈ rs, p.2.natAbs < 1000000) ∧ (rs = [] → ∀ H', Same H H' → E (.ref CN) none H') ∧
  (rs ≠ [] → (conI rs d l = 0 ∨ conI rs d l = 1) → ∀ p H', Same H H' → H p = none → CmpAt K CC H' p (divP rs (gI rs)) (conI rs d l) → Q (.ref p) H') ∧
  (rs ≠ [] → ¬ (conI rs d l = 0 ∨ conI rs d l = 1) → ∀ dd H', Same H H' → H' dd = none → E (.ref CB) (some dd) (upd H' dd (.xd [(("number" : Str), .int (conI rs d l))])))
def BadS (K : PySem.W.Frag) (C : Addr) (H : Hp) (y : V) : Prop := ∀ H', Same H H' → BadF K C H' y
def spCmp (K : PySem.W.Frag) (C CF CC CN CB : Addr) : Sp := fun vs H Q E => ∃ x y l, vs = [x, y, .int l] ∧ ((BadF K C H x ∧ Raised H CF x E) ∨ ∃ ps r, AsF K C H x ps r ∧ Canon ps ∧ ps.length ≤ 100 ∧
  ((BadS K C H y ∧ Raised H CF y E) ∨ ∃ qs r2, AsF K C H y qs r2 ∧ Canon qs ∧ qs.length ≤ 100 ∧ CmpOut K C CC CN CB H ps qs (r - r2) l Q E))
theorem ps_nox {X : Cx} {st : Stmt} {t : TS} (h : PS X.nox st t) : PS X st t :=
  ⟨fun pins s σ H D I q => wpAny_mono (h.run pins s σ H D (I.wish _) q) (fun _ _ z => z.unwish) fun _ _ z => z.elim⟩
abbrev nCd : List Str := ["one", "other", "least", "form", "pairs", "common", "_", "integer", "constant", "term"]
theorem scCd : FnScope nCd ["one", "other", "least"] (defScope sCompared) := ⟨rfl, rfl, rfl, by decide +kernel, rfl, by decide +kernel, by decide +kernel⟩
structure CdF (P : Program) (w : World) (K : PySem.W.Frag) (mg : Str → Option Value) (base : Heap) (C CF CC CN CB fT fI : Addr) (fdT fdI : FuncData) : Prop where
  ot : OT P w K mg base C CF
  asf : Dn P w K mg base (L2.CX P w) 4 "_as_form" ["thing"] (spAsForm K C CF)
  ft : FT K mg C
  mt : Meth K C "terms" fT
  gt : FnOk P w K mg base CX0 1 fT fdT ["self"] (spTerms K C)
  bt : Binds K fdT ["self"] []
  nt : ErrV0 P w K mg base "NoTerms" CN
  bc : Err P w K mg base "BadConstant" CB "number"
  gcd : mg "gcd" = some (.builtin "math.gcd")
  gC : mg "Comparison" = some (.ref CC)
  mkr : Mk K CC fI
  gi : FnOk P w K mg base CX0 1 fI fdI ["self", "pairs", "constant"] (spCInit K CC)
  bi : Binds K fdI ["self", "pairs", "constant"] []
theorem AsF.same {K : PySem.W.Frag} {C : Addr} {H H' : Hp} {y : V} {qs : Prs} {r : Int} (s : Same H H') (h : AsF K C H y qs r) : AsF K C H' y qs r := by
  rcases h with ⟨p, rfl, hp⟩ | ⟨rfl, rfl⟩
  · exact .inl ⟨p, rfl, hp.same s⟩
  · exact .inr ⟨rfl, rfl⟩
theorem made_cmp {K : PySem.W.Frag} {C : Addr} {H : Hp} {l : Addr} {xs : List V} {r : Int} {x dx : Addr} {Q : VK} {E : XK} (hl : SqL K H l xs) (hx : H x = none) (hdx : H dx = none) (hne : dx ≠ x) (k : ∀ tp H', Same H H' → H' tp = some (.tup xs) → H' x = some (.ins C dx (cfl tp r)) → Q (.ref x) H') :
    spCInit K C (.ref x :: [.ref l, .int r]) (upd (upd H dx (.own x)) x (.ins C dx [])) (fun v H3 => v = .non ∧ Q (.ref x) H3) E := by
  have hl2 : SqL K (upd (upd H dx (.own x)) x (.ins C dx [])) l xs := (show Same H (upd (upd H dx (.own x)) x (.ins C dx [])) from (same_new hdx).trans (same_new (by rw [upd_ne (Ne.symm hne)]; exact hx))).seq hl
  refine ⟨x, dx, l, xs, r, rfl, upd_same, hl2, fun tp H' ht hn h1 h2 keep => ⟨rfl, k tp H' (fun b o e => ?_) h2 h1⟩⟩
  have b1 : b ≠ x := ne_of_none e hx
  have b2 : b ≠ dx := ne_of_none e hdx
  exact keep b o (by rw [upd_ne b1, upd_ne b2]; exact e) b1
section
variable {P : Program} {w : World} {K : PySem.W.Frag} {mg : Str → Option Value} {base : Heap} {C CF CC CN CB fT fI : Addr} {fdT fdI : FuncData}
theorem ok_compared {f : Addr} {fd : FuncData} (F : Fun K "_compared" "_compared" sCompared f fd) (T : CdF P w K mg base C CF CC CN CB fT fI fdT fdI) : FnOk P w K mg base (L2.CX P w) 6 f fd ["one", "other", "least"] (spCmp K C CF CC CN CB) := by
  obtain ⟨fs, fds, gs, ks, Gs, bs⟩ := T.ot.sum
  obtain ⟨ft, fdt, gt, kt, Gt, bt⟩ := T.ot.times
  refine F.okX scCd (fun vs H Q E h => ?_) (fun cdv A outer s H vs Q E hr h => ?_)
  · obtain ⟨x, y, l, rfl, _⟩ := h
    rfl
  · obtain ⟨x, y, l, rfl, h⟩ := h
    refine ⟨_, pss_cons (ps_set (i := 3) scCd.nd rfl (.inl rfl) (pe_call Gs (hr.mono (by decide)) rfl gs ks bs .nil pass0 (pa_cons (pe_d (E := E) T.asf hr (by decide) rfl (passes_call (takes_of rfl rfl rfl rfl) (fun _ _ _ _ q => q)) (pa_cons (pv 0) pa_nil)) (pa_cons (pe_call (E := E) Gt (hr.mono (by decide)) rfl gt kt bt .nil (passes_call (takes_of rfl rfl rfl rfl) (fun _ _ _ _ q => q)) (pa_cons (pe_d (E := E) T.asf hr (by decide) rfl (passes_call (takes_of rfl rfl rfl rfl) (fun _ _ _ _ q => q)) (pa_cons (pv 1) pa_nil)) (pa_cons (pe_un un_neg pe_int) pa_nil))) pa_nil))))
      (pss_cons (ps_set (i := 4) scCd.nd rfl (.inl rfl) (pe_meth0 (pv 3) T.ft.cl T.mt T.gt (hr.mono (by decide)) T.bt .nil pass0))
      (pss_cons (ps_if (pt_not (pt_truth (pv 4) (by intro _; rfl))) (pss_one (ps_raiseErr0 rfl T.nt (hr.mono (by decide)) (takes_of rfl rfl rfl rfl) rfl)) pss_nil)
      (pss_cons (ps_set (i := 5) scCd.nd rfl (.inr rfl) pe_int)
      (pss_cons (ps_nox (ps_for PassesOwn.never rfl (pi_list (pv 4)) (pg_tup rfl (pgs_cons (pg_name (i := 6) scCd.nd rfl (Or.inl rfl)) (pgs_cons (pg_name (i := 7) scCd.nd rfl (Or.inl rfl)) pgs_nil))) (pss_one (ps_set (i := 5) scCd.nd rfl (.inr rfl) (pe_callBfun cr_gcd (by rfl) T.gcd (pa_cons (pv 5) (pa_cons (pv 7) pa_nil)))))))
      (pss_cons (ps_set (i := 8) scCd.nd rfl (.inl rfl) (pe_un un_neg (pe_op op_fdiv (pe_op op_sub (pe_fld (pv 3) rfl) (pv 2)) (pv 5))))
      (pss_cons (ps_if (pt_cmpR op_notIn_seq (pv 8) (pe_tup (pa_cons pe_int (pa_cons pe_int pa_nil))) (by with_unfolding_all rfl)) (pss_one (ps_raiseErr rfl T.bc (hr.mono (by decide)) (takes_of rfl rfl rfl rfl) rfl (pv 8))) pss_nil)
      (pss_one (ps_ret (pe_make T.mkr T.gi (hr.mono (by decide)) (by rfl) T.gC T.bi .nil pass0 (pa_cons (pe_lc (own := [("term", 9), ("integer", 7)]) (g := gTup K 2 (gCons (gName 9) (gCons (gName 7) gNil))) (tt := tYes) rfl scCd.nd (pi_list (pv 4)) (blkOk_by (N := nCd) (sc := defScope sCompared) (by decide +kernel))
        (fun _ _ _ _ _ => pg_tup rfl (pgs_cons (pg_name (i := 9) scCd.nd rfl (Or.inl rfl)) (pgs_cons (pg_name (i := 7) scCd.nd rfl (Or.inl rfl)) pgs_nil))) (fun _ _ _ _ _ => pts_nil)
        (fun _ _ _ _ _ => pe_tup (pa_cons (pv 9) (pa_cons (pe_op op_fdiv (pv 7) (pv 5)) pa_nil)))) (pa_cons (pv 8) pa_nil))))))))))), ?_⟩
    rcases h with ⟨hb, k⟩ | ⟨ps, r, hx, cp, lp, h⟩
    · refine ⟨_, rfl, ?_⟩
      refine nilA ?_
      exact asf_bad (Same.refl H) hb k
    refine ⟨_, rfl, ?_⟩
    refine nilA ?_
    refine asf_of hx fun p H1 s1 hp => ?_
    rcases h with ⟨hb, k⟩ | ⟨qs, r2, hy, cq, lq, h⟩
    · refine ⟨_, rfl, ?_⟩
      refine nilA ?_
      exact asf_bad s1 (hb _ s1) k
    refine ⟨_, rfl, ?_⟩
    refine nilA ?_
    refine asf_of (hy.same s1) fun q H2 s2 hq => ?_
    refine ⟨1, rfl, q, qs, r2, _, rfl, hq, by omega, .inl ⟨-1, rfl, fun z _ => cmul1 _, cmul1 _, fun q2 H2' s2' n2 hq2 => ?_⟩⟩
    have ll := tmP_len qs (-1)
    refine ⟨p, q2, ps, tmP qs (-1), r, r2 * -1, rfl, hp.same (s2.trans s2'), hq2, cp, tmP_canon cq _, by omega, fun z H3 rs s3 _ hz cz gz lz => ?_⟩
    have er : r + r2 * -1 = r - r2 := by omega
    rw [er] at hz
    have s13 := s1.trans ((s2.trans s2').trans s3)
    obtain ⟨bnd, out0, out1, out2⟩ := h rs cz (fun t => by rw [gz t, tmP_get]; omega) (by omega)
    clear h
    obtain ⟨dx, tp, as, e1, e2, e3⟩ := hz.ob
    have ln := paired_n e3
    refine ⟨_, rfl, z, dx, _, rfl, e1, flds_no _ _ (by decide +kernel) (by decide +kernel), z, dx, tp, _, _, rfl, e1, e2, fun lp2 hlp => ?_⟩
    have s4 := same_new (o := .lst (as.map V.ref)) hlp
    have hL : upd H3 lp2 (.lst (as.map V.ref)) lp2 = some (.lst (as.map V.ref)) := upd_same
    have s14 := s13.trans s4
    have z1 := s4 _ _ e1
    have e3b : Paired (PairAt K (upd H3 lp2 (.lst (as.map V.ref)))) as rs := L2.Paired.mapP e3 fun _ _ g => g.same s4
    obtain ⟨G, eG⟩ : ∃ G, G = upd H3 lp2 (.lst (as.map V.ref)) := ⟨_, rfl⟩
    rw [← eG] at hL s14 z1 e3b
    rw [← eG]
    clear eG s4
    refine ⟨_, rfl, !(as.map V.ref).isEmpty, .inl ⟨_, sqL_of hL, rfl⟩, ?_⟩
    by_cases hne : rs = []
    · have ea : as = [] := by
        rw [hne] at ln
        exact List.length_eq_zero_iff.mp ln
      refine ifT (by rw [ea]; rfl) ?_
      exact out0 hne G s14
    have ea : (as.map V.ref).isEmpty = false := by
      cases as with
      | nil => exact absurd (List.length_eq_zero_iff.mp ln.symm) hne
      | cons _ _ => rfl
    refine ifF (by rw [ea]; rfl) ?_
    -- the greatest common divisor
    have lrs : as.length ≤ 200 := by omega
    refine ⟨_, rfl, lp2, rfl, ⟨_, sqL_of hL⟩, ?_⟩
    refine for_it (walk_list (xs := as.map V.ref)) (fun i σ' H' => Same G H' ∧ ∃ v6 v7, σ' = [some x, some y, some (.int l), some (.ref z), some (.ref lp2), some (.int (gcdL ((rs.take i).map (·.2)) : Nat)), v6, v7, none, none]) ⟨Same.refl G, none, none, rfl⟩ (fun i _ H' _ q => sqL_of (q.1 _ _ hL)) ?_ ?_
    · rintro i x1 σ' H' H'' hi ⟨sm, v6, v7, rfl⟩ ⟨rfl, hx1⟩
      rw [List.getElem?_map] at hx1
      obtain ⟨a, ha, rfl⟩ := Option.map_eq_some_iff.mp hx1
      obtain ⟨⟨t, n⟩, ht, b, g1, g2⟩ := pairAtI e3b ha
      refine ⟨a, _, rfl, same_sqT sm g1, rfl, _, _, rfl, _, _, rfl, rfl, ?_⟩
      refine ⟨_, rfl, _, rfl, _, _, rfl, sm, some (.ref b), some (.int n), ?_⟩
      show [some x, some y, some (V.int l), some (V.ref z), some (V.ref lp2), some (V.int ((Nat.gcd (Int.natAbs ((gcdL ((rs.take i).map (·.2)) : Nat) : Int)) n.natAbs : Nat) : Int)), some (V.ref b), some (V.int n), none, none] = _
      rw [List.take_add_one, ht, List.map_append]
      show _ = [some x, some y, some (V.int l), some (V.ref z), some (V.ref lp2), some (V.int ((gcdL ((rs.take i).map (·.2) ++ [n]) : Nat) : Int)), some (V.ref b), some (V.int n), none, none]
      rw [gcdL_snoc]
      rfl
    rintro σ' H5 ⟨sm, v6, v7, rfl⟩
    have et : rs.take (as.map V.ref).length = rs := List.take_of_length_le (by rw [List.length_map]; omega)
    rw [et]
    have nzr : ∀ n ∈ rs.map (·.2), n ≠ 0 := fun n hn => by
      obtain ⟨p1, hp1, rfl⟩ := List.mem_map.mp hn
      exact cz.nz p1 hp1
    have gpos : 0 < gcdL (rs.map (·.2)) := gcdL_pos (fun e => hne (List.map_eq_nil_iff.mp e)) nzr
    have glt : gcdL (rs.map (·.2)) < 1000000 := by
      cases hrs : rs with
      | nil => exact absurd hrs hne
      | cons p1 rs1 =>
        have hm : p1 ∈ rs := by rw [hrs]; exact List.mem_cons_self
        have h1 := gcdL_le (ns := rs.map (·.2)) (n := p1.2) (List.mem_map.mpr ⟨p1, hm, rfl⟩) (cz.nz p1 hm)
        have h2 := bnd p1 hm
        rw [← hrs]
        omega
    have cd : CDiv (r - r2 - l) (gI rs) := by
      unfold CDiv gI
      omega
    refine ⟨_, rfl, z, C, dx, _, _, rfl, sm _ _ z1, T.ft.cl, T.ft.nR, flds_rest _ _, _, rfl, _, _, rfl, rfl, _, rfl, _, _, rfl, rfl, cd, _, rfl, ?_⟩
    have s15 := s14.trans sm
    refine ⟨_, rfl, (by show 2 ≤ sizeLine; decide), fun ct hct => ?_⟩
    have s6 := same_new (o := .tup [V.int 0, V.int 1]) hct
    refine ⟨ct, _, rfl, .inr (sqT_of upd_same), rfl, rfl, _, rfl, ?_⟩
    have s16 := s15.trans s6
    have ein : inV (.int (conI rs (r - r2) l)) [.int 0, .int 1] = decide (conI rs (r - r2) l = 0 ∨ conI rs (r - r2) l = 1) := by
      show ((0 == conI rs (r - r2) l) || ((1 == conI rs (r - r2) l) || false)) = _
      by_cases h0 : conI rs (r - r2) l = 0
      · simp [h0]
      · by_cases h1 : conI rs (r - r2) l = 1
        · simp [h1]
        · simp [h0, h1, Ne.symm h0, Ne.symm h1]
    by_cases hc : conI rs (r - r2) l = 0 ∨ conI rs (r - r2) l = 1
    · refine ifF ?_ ?_
      · show (!inV (.int (conI rs (r - r2) l)) [.int 0, .int 1]) = false
        rw [ein, decide_eq_true hc]
        rfl
      obtain ⟨G2, eG2⟩ : ∃ G2, G2 = upd H5 ct (.tup [V.int 0, V.int 1]) := ⟨_, rfl⟩
      have sG : Same G G2 := by rw [eG2]; exact sm.trans s6
      rw [← eG2] at s16
      refine nxt ?_
      rw [← eG2]
      clear eG2
      have hL2 := sG _ _ hL
      refine ⟨_, rfl, lp2, rfl, ⟨_, sqL_of hL2⟩, fun R hR => ?_⟩
      refine lc_it (walk_list (xs := as.map V.ref)) (fun i H' => Same G2 H' ∧ ∃ xs, H' R = some (.lst xs) ∧ Paired (PR K H') xs (divP (rs.take i) (gI rs))) ⟨same_new hR, [], upd_same, .nil⟩ (fun i H' _ q => sqL_of (q.1 _ _ hL2)) ?_ ?_
      · rintro i x1 Hi0 Hi hi ⟨sm2, xs, hv, pz⟩ ⟨rfl, hx1⟩
        rw [List.getElem?_map] at hx1
        obtain ⟨a, ha, rfl⟩ := Option.map_eq_some_iff.mp hx1
        obtain ⟨⟨t, n⟩, ht, b, g1, g2⟩ := pairAtI e3b ha
        refine ⟨a, _, rfl, same_sqT (sG.trans sm2) g1, rfl, _, _, rfl, _, _, rfl, rfl, rfl, ?_⟩
        unfold tYes
        refine iteT ?_
        refine ⟨_, rfl, _, rfl, _, rfl, _, _, rfl, rfl, by unfold CDiv; omega, (by show 2 ≤ sizeLine; decide), fun q1 hq1 => ?_⟩
        have nq : R ≠ q1 := ne_of_none hv hq1
        have sm3 := same_new (o := .tup [V.ref b, V.int (n / gI rs)]) hq1
        have hv2 := sm3 _ _ hv
        refine ⟨xs, hv2, ?_, same_put (sm2.trans sm3) hR, _, upd_same, ?_⟩
        · have e := paired_n pz
          unfold divP at e
          rw [List.length_map] at e
          have h4 := List.length_take_le' i rs
          exact small1000 (by omega)
        · have st : divP (rs.take (i + 1)) (gI rs) = divP (rs.take i) (gI rs) ++ [(t, n / gI rs)] := by
            unfold divP
            rw [List.take_add_one, ht, List.map_append]
            rfl
          rw [st]
          exact pr_app (pr_put hv2 (pr_same sm3 pz)) (.cons ⟨q1, rfl, b, sqT_put hv2 (.inl (.inl upd_same)), tm_put hv2 ((sG.trans (sm2.trans sm3)) _ _ g2)⟩ .nil)
      · rintro H6 ⟨sm2, xs, hv, pz⟩
        rw [et] at pz
        refine ⟨_, rfl, fun x1 dx3 hx1 hdx hne1 => ?_⟩
        obtain ⟨as3, e5, p3⟩ := pr_refs pz
        refine made_cmp (sqL_of hv) hx1 hdx hne1 fun tp3 H7 s7 h1 h2 => out1 hne hc x1 H7 (s16.trans (sm2.trans s7)) ((s16.trans sm2).free hx1) ⟨dx3, tp3, as3, h2, .inl (.inl (by rw [← e5]; exact h1)), L2.Paired.mapP p3 fun _ _ g => g.same s7⟩
    · refine ifT ?_ ?_
      · show (!inV (.int (conI rs (r - r2) l)) [.int 0, .int 1]) = true
        rw [ein, decide_eq_false hc]
        rfl
      exact ⟨_, rfl, fun dd hdd => out2 hne hc dd _ s16 hdd⟩
end
end Mv
/-! two promises of one def; tuples of the same objects; is_list; first_unfit of a list or a tuple -/
namespace Mv
open PySem PySem.Spec PyProof.Rows L2
section
variable {P : Program} {w : World} {K : PySem.W.Frag} {mg : Str → Option Value} {base : Heap} {CX : CXT} {k : Nat} {f : Addr} {fd : FuncData} {ps : List Str} {sp sp' : Sp}
def spOr (sp sp' : Sp) : Sp := fun vs H Q E => sp vs H Q E ∨ sp' vs H Q E
theorem fn_or (F : FnOk P w K mg base CX k f fd ps sp) (G : FnOk P w K mg base CX k f fd ps sp') : FnOk P w K mg base CX k f fd ps (spOr sp sp') :=
  ⟨fun vs H Q E h => h.elim (F.len vs H Q E) (G.len vs H Q E), fun A outer s H args us vs Q E hr he hb hv h => h.elim (F.run A outer s H args us vs Q E hr he hb hv) (G.run A outer s H args us vs Q E hr he hb hv)⟩
end
/-! ### tuples of the same objects, the second one perhaps longer -/
def rEqId (K : PySem.W.Frag) : R2 := fun x y H Q => ∃ (a b : Addr) (xs : List Addr) (zs : List V), x = .ref a ∧ y = .ref b ∧ SqT K H a (xs.map V.ref) ∧ SqT K H b (xs.map V.ref ++ zs) ∧ Q (.bl zs.isEmpty) H
theorem vals_refs : ∀ {xs : List Addr} {us : List Value}, Vals (xs.map V.ref) us → us = xs.map Value.ref
  | [], _, .nil => rfl
  | _ :: _, _, .cons r t => by
    cases r
    rw [vals_refs t]
    rfl
theorem vals_app : ∀ {xs ys : List V} {us : List Value}, Vals (xs ++ ys) us → ∃ u1 u2, us = u1 ++ u2 ∧ Vals xs u1 ∧ Vals ys u2
  | [], _, us, h => ⟨[], us, rfl, .nil, h⟩
  | _ :: xs, ys, _, .cons r t => by
    obtain ⟨u1, u2, rfl, h1, h2⟩ := vals_app t
    exact ⟨_ :: u1, u2, rfl, .cons r h1, h2⟩
theorem op_eqId {X : Cx} (hu : X.A.units < cLine) : OpR X (compareOp .Eq) (rEqId X.K) := by
  intro pins s σ H x y v u Q I rx ry h
  obtain ⟨a, b, xs, zs, rfl, rfl, ha, hb, q⟩ := h
  cases rx
  cases ry
  obtain ⟨its, rv, p, hz⟩ := I.tuple ha
  obtain ⟨its2, rv2, p2, hz2⟩ := I.tuple hb
  obtain rfl := vals_refs rv
  obtain ⟨u1, u2, rfl, g1, g2⟩ := vals_app rv2
  obtain rfl := vals_refs g1
  have lz := g2.length
  refine PySem.SeqAt.eq_tupleAt (e := fun _ => true) p p2 hu (fun j h1 h2 => ?_) ?_
  · have e : (xs.map Value.ref).toArray[j] = (xs.map Value.ref ++ u2).toArray[j] := by
      have h3 : j < (xs.map Value.ref).length := by simpa using h1
      simp only [List.getElem_toArray]
      rw [List.getElem_append_left h3]
    rw [← e]
    exact PySem.SeqAt.EqAt.same _
  · refine ⟨.bl zs.isEmpty, H, I, ?_, q⟩
    show Value.bool _ = Value.bool _
    congr 1
    have e1 : (xs.map Value.ref).toArray.size = xs.length := by simp
    have e2 : (xs.map Value.ref ++ u2).toArray.size = xs.length + u2.length := by simp
    rw [e1, e2, ← lz]
    cases zs with
    | nil => simp
    | cons z zs => simp
/-! ### is_list -/
abbrev sIsList : Stmt := top 18
def LT : List Value := [.type "list", .type "tuple"]
def Kl (K : PySem.W.Frag) (H : Hp) (x : V) (b : Bool) : Prop := ∃ t, TyX K H x t ∧ PySem.W.kitAny K t LT = some b
def spIsList (K : PySem.W.Frag) : Sp := fun vs H Q _ => ∃ x b, vs = [x] ∧ (∀ H', Same H H' → Kl K H' x b) ∧ ∀ H', Same H H' → Q (.bl b) H'
section
variable {P : Program} {w : World} {K : PySem.W.Frag} {mg : Str → Option Value} {base : Heap}
theorem scIL : FnScope ["thing"] ["thing"] (defScope sIsList) := ⟨rfl, rfl, rfl, by decide +kernel, rfl, by decide +kernel, by decide +kernel⟩
theorem ok_islist {f : Addr} {fd : FuncData} (F : Fun K "is_list" "is_list" sIsList f fd) (isi : mg "isinstance" = none) (li : mg "list" = none) (tu : mg "tuple" = none) : FnOk P w K mg base CX0 1 f fd ["thing"] (spIsList K) := by
  refine F.ok scIL (fun vs H Q E h => ?_) (fun cdv A outer s H vs Q E hr h => ?_)
  · obtain ⟨x, b, rfl, _⟩ := h
    rfl
  · obtain ⟨x, b, rfl, hk, k⟩ := h
    refine ⟨_, pss_one (ps_ret (pe_callB call_isiT (by rfl) isi (by decide +kernel) (pa_cons (pv 0) (pa_cons (pe_tup (pa_cons (pe_bltn (v := .ty "list") (by rfl) li (by decide +kernel) rfl) (pa_cons (pe_bltn (v := .ty "tuple") (by rfl) tu (by decide +kernel) rfl) pa_nil))) pa_nil)))), ?_⟩
    refine ⟨_, rfl, (by show 2 ≤ sizeLine; decide), fun p hp => ?_⟩
    have s1 : Same H (upd H p (.tup [.ty "list", .ty "tuple"])) := same_new hp
    obtain ⟨t, ty, e⟩ := hk _ s1
    exact ⟨_, p, _, t, LT, b, rfl, upd_same, .cons (.ty "list") (.cons (.ty "tuple") .nil), ty, e, k _ s1⟩
/-! ### first_unfit of a list -/
theorem same_sqL {H H' : Hp} {a : Addr} {xs : List V} (e : Same H H') (h : SqL K H a xs) : SqL K H' a xs := by
  rcases h with h | h
  · rcases h with h | ⟨o, h⟩
    · exact .inl (.inl (e _ _ h))
    · exact .inl (.inr ⟨o, e _ _ h⟩)
  · exact .inr h
def spFirstL (K : PySem.W.Frag) : Sp := fun vs H Q _ => ∃ (a : Addr) (xs : List V), vs = [.ref a] ∧ SqL K H a xs ∧ (∀ x ∈ xs, ∀ H', Same H H' → Kn K H' x) ∧
  (∀ i, i < xs.length → badAt xs i = true → (∀ j, j < i → badAt xs j = false) → ∀ H', Same H H' → Q (.int i) H') ∧ ((∀ j, j < xs.length → badAt xs j = false) → ∀ H', Same H H' → Q .non H')
theorem ok_firstL {f fW : Addr} {fd fdW : FuncData} (F : Fun K "first_unfit" "first_unfit" sFirst f fd) (T : WT K mg) (en : mg "enumerate" = none) (gW : mg "is_word" = some (.ref fW)) (kW : PySem.W.keepIn K (.ref fW) = true)
    (GW : FnOk P w K mg base CX0 1 fW fdW ["thing"] (spIsWord K)) (bW : Binds K fdW ["thing"] []) : FnOk P w K mg base CX0 2 f fd ["words"] (spFirstL K) := by
  refine F.ok scF (fun vs H Q E h => ?_) (fun cdv A outer s H vs Q E hr h => ?_)
  · obtain ⟨a, xs, rfl, _⟩ := h
    rfl
  · obtain ⟨a, xs, rfl, hS, hk, kb, kn⟩ := h
    refine ⟨_, pss_cons (ps_for PassesOwn.never rfl (pi_enum (by rfl) en (pa_cons (pv 0) pa_nil)) (pg_tup rfl (pgs_cons (pg_name (i := 1) scF.nd rfl (Or.inl rfl)) (pgs_cons (pg_name (i := 2) scF.nd rfl (Or.inl rfl)) pgs_nil)))
        (pss_one (ps_if (PW.pt (pw_or (pt_not (pt_val (pe_call GW hr rfl gW kW bW .nil pass0 (pa_cons (pv 2) pa_nil)))) (pw_or1 (pt_cmpR op_in_seq (pv 2) (pe_slice sl_list (pv 0) po_none (po_some (pv 1))) (by rfl)))))
          (pss_one (ps_ret (pv 1))) pss_nil))) (pss_one (ps_ret pe_non)), ?_⟩
    refine ⟨_, rfl, a, xs, rfl, hS, ?_⟩
    refine for_it (walk_enum (a := a) (xs := xs)) (fun i σ H' => (∃ u v, σ = [some (.ref a), u, v]) ∧ Same H H' ∧ ∀ j, j < i → badAt xs j = false) ?_ ?_ ?_ ?_
    · exact ⟨⟨none, none, rfl⟩, Same.refl H, fun j hj => absurd hj (Nat.not_lt_zero j)⟩
    · rintro i σ H' hi ⟨_, sm, _⟩
      exact same_sqL sm hS
    · rintro i v0 σ H1 H1' hi ⟨⟨u, v, rfl⟩, sm, good⟩ ⟨Tp, n0, x, rfl, nT, rfl, en0, hx⟩
      cases en0
      have hi : i < xs.length := (List.getElem?_eq_some_iff.mp hx).1
      have sm1 : Same H (upd H1 Tp (.tup [.int (i : Nat), x])) := sm.trans (same_new nT)
      refine ⟨Tp, _, rfl, .inl (.inl upd_same), rfl, _, _, rfl, ?_⟩
      refine ⟨x, [], rfl, rfl, ?_⟩
      refine ⟨x, rfl, x, rfl, hk x (List.mem_of_getElem? hx) _ sm1, fun H2 s2 => ⟨_, rfl, ?_⟩⟩
      have sm2 : Same H H2 := sm1.trans s2
      cases e : isW x with
      | false =>
        refine iteT ?_
        refine iteT ?_
        refine ⟨_, rfl, kb i hi ?_ good H2 sm2⟩
        unfold badAt
        simp [hx, e]
      | true =>
        refine iteF ?_
        obtain ⟨z, rfl⟩ := isW_str e
        refine ⟨_, rfl, _, rfl, _, rfl, _, rfl, a, xs, rfl, same_sqL sm2 hS, fun p hp => ?_⟩
        rw [cut_take (Nat.le_of_lt hi)]
        refine ⟨p, _, rfl, .inl (.inl (.inl upd_same)), rfl, good_flat good, _, rfl, ?_⟩
        have sm3 : Same H (upd H2 p (.lst (xs.take i))) := sm2.trans (same_new hp)
        have eb : badAt xs i = inV (.str z) (xs.take i) := by
          unfold badAt
          simp [hx, e]
        cases e2 : inV (.str z) (xs.take i) with
        | true =>
          refine iteT ?_
          exact ⟨_, rfl, kb i hi (eb.trans e2) good _ sm3⟩
        | false =>
          refine iteF ?_
          refine ⟨⟨_, _, rfl⟩, sm3, fun j hj => ?_⟩
          rcases Nat.lt_succ_iff_lt_or_eq.mp hj with q | q
          · exact good j q
          · rw [q, eb, e2]
    · rintro σ H1 ⟨_, sm, good⟩
      exact kn good H1 sm
/-- a list or a tuple -/
def Sq (K : PySem.W.Frag) (H : Hp) (a : Addr) (xs : List V) : Prop := SqL K H a xs ∨ SqT K H a xs
theorem Sq.same {H H' : Hp} {a : Addr} {xs : List V} (e : Same H H') (h : Sq K H a xs) : Sq K H' a xs := h.elim (fun h => .inl (same_sqL e h)) fun h => .inr (same_sqT e h)
def spFirstS (K : PySem.W.Frag) : Sp := fun vs H Q _ => ∃ (a : Addr) (xs : List V), vs = [.ref a] ∧ Sq K H a xs ∧ (∀ x ∈ xs, ∀ H', Same H H' → Kn K H' x) ∧
  (∀ i, i < xs.length → badAt xs i = true → (∀ j, j < i → badAt xs j = false) → ∀ H', Same H H' → Q (.int i) H') ∧ ((∀ j, j < xs.length → badAt xs j = false) → ∀ H', Same H H' → Q .non H')
theorem ok_firstS {f fW : Addr} {fd fdW : FuncData} (F : Fun K "first_unfit" "first_unfit" sFirst f fd) (T : WT K mg) (en : mg "enumerate" = none) (gW : mg "is_word" = some (.ref fW)) (kW : PySem.W.keepIn K (.ref fW) = true)
    (GW : FnOk P w K mg base CX0 1 fW fdW ["thing"] (spIsWord K)) (bW : Binds K fdW ["thing"] []) : FnOk P w K mg base CX0 2 f fd ["words"] (spFirstS K) :=
  (fn_or (ok_firstL F T en gW kW GW bW) (ok_first F T en gW kW GW bW)).imp fun vs H Q E h => by
    obtain ⟨a, xs, e, hS, r⟩ := h
    rcases hS with hS | hS
    · exact .inl ⟨a, xs, e, hS, r⟩
    · exact .inr ⟨a, xs, e, hS, r⟩
end
end Mv
/-! is_condition -/
namespace Mv
open PySem PySem.Spec PyProof.Rows L2
abbrev sIsCond : Stmt := top 42
def ntV (t : Term) : Bool := inV (.str (t.headD default)) [.str "n", .str "t"]
def othP (ps : Prs) : Prs := ps.filter fun p => !ntV p.1
theorem othP_app (ps qs : Prs) : othP (ps ++ qs) = othP ps ++ othP qs := List.filter_append ..
theorem othP_len (ps : Prs) : (othP ps).length ≤ ps.length := List.length_filter_le ..
def hdV (t : Term) : Bool := decide (V.str (t.headD default) = V.str "heard")
def isC (ps : Prs) : Bool := match othP ps with
  | [p] => hdV p.1 && decide (0 < p.2)
  | _ => false
/-- what may be asked whether it is a condition -/
def KnC (K : PySem.W.Frag) (CC : Addr) (H : Hp) (x : V) (b : Bool) : Prop :=
  (∃ p ps c, x = .ref p ∧ CmpAt K CC H p ps c ∧ (∀ q ∈ ps, q.1 ≠ []) ∧ ps.length ≤ 900 ∧ b = isC ps) ∨ (b = false ∧ ∃ t, TyX K H x t ∧ PySem.W.kitOne K t (.ref CC) = some false)
def spIsCond (K : PySem.W.Frag) (CC : Addr) : Sp := fun vs H Q _ => ∃ x b, vs = [x] ∧ KnC K CC H x b ∧ ∀ H', Same H H' → Q (.bl b) H'
abbrev nIC : List Str := ["thing", "others", "term", "integer"]
theorem scIC : FnScope nIC ["thing"] (defScope sIsCond) := ⟨rfl, rfl, rfl, by decide +kernel, rfl, by decide +kernel, by decide +kernel⟩
structure CdT (P : Program) (w : World) (K : PySem.W.Frag) (mg : Str → Option Value) (base : Heap) (CC fT fE : Addr) (fdT : FuncData) : Prop where
  ct : CT K mg CC
  mt : Meth K CC "terms" fT
  gt : FnOk P w K mg base CX0 1 fT fdT ["self"] (spCTerms K CC)
  bt : Binds K fdT ["self"] []
  fq : FQ K mg CC fE
  len : mg "len" = none
section
variable {P : Program} {w : World} {K : PySem.W.Frag} {mg : Str → Option Value} {base : Heap} {CC fT fE : Addr} {fdT : FuncData}
theorem hd_at {t : Term} (h : t ≠ []) : atI (t.map V.str) 0 = some (.str (t.headD default)) := by
  cases t with
  | nil => exact absurd rfl h
  | cons x t => exact atI_nat (j := 0) rfl
theorem ok_iscond {f : Addr} {fd : FuncData} (F : Fun K "is_condition" "is_condition" sIsCond f fd) (T : CdT P w K mg base CC fT fE fdT) : FnOk P w K mg base CX0 2 f fd ["thing"] (spIsCond K CC) := by
  refine F.ok scIC (fun vs H Q E h => ?_) (fun cdv A outer s H vs Q E hr h => ?_)
  · obtain ⟨x, b, rfl, _⟩ := h
    rfl
  · obtain ⟨x, b, rfl, hk, k⟩ := h
    refine ⟨_, pss_cons (ps_if (pt_not (pt_val (pe_callB call_isi (by rfl) T.fq.isi (by decide +kernel) (pa_cons (pv 0) (pa_cons (pe_glob (v := .ref CC) rfl T.ct.gC rfl) pa_nil))))) (pss_one (ps_ret pe_bl)) pss_nil)
      (pss_cons (ps_setLc (i := 1) (own := [("term", 2), ("integer", 3)]) (g := gTup K 2 (gCons (gName 2) (gCons (gName 3) gNil))) rfl scIC.nd rfl rfl rfl (pi_list (pe_meth0 (pv 0) T.ct.cl T.mt T.gt hr T.bt .nil pass0)) (blkOk_by (N := nIC) (sc := defScope sIsCond) (by decide +kernel))
        (fun _ _ _ _ _ => pg_tup rfl (pgs_cons (pg_name (i := 2) scIC.nd rfl (Or.inl rfl)) (pgs_cons (pg_name (i := 3) scIC.nd rfl (Or.inl rfl)) pgs_nil)))
        (fun _ _ _ _ _ => pts_one (pt_cmpR (show OpR _ (compareOp .NotIn) (rIn K true) from op_notIn_seq) (pe_ix (show IxR _ (rIxT K) from ix_tup) (pv 2) pe_int (fun _ _ => rfl)) (pe_tup (pa_cons pe_str (pa_cons pe_str pa_nil))) (by with_unfolding_all rfl)))
        (fun _ _ _ _ _ => pe_tup (pa_cons (pv 2) (pa_cons (pv 3) pa_nil))))
      (pss_cons (ps_if (pt_cmp (pc_neI (pe_callB call_len_seq (by rfl) T.len PySem.boot_len (pa_cons (pv 1) pa_nil)) pe_int)) (pss_one (ps_ret pe_bl)) pss_nil)
      (pss_cons (ps_asg (pe_ix ix_list (pv 1) pe_int (fun _ _ => rfl)) (pg_tup rfl (pgs_cons (pg_name (i := 2) scIC.nd rfl (Or.inl rfl)) (pgs_cons (pg_name (i := 3) scIC.nd rfl (Or.inl rfl)) pgs_nil))))
      (pss_one (ps_ret (pe_and (pe_cmpR op_eq (pe_ix ix_tup (pv 2) pe_int (fun _ _ => rfl)) pe_str (nomark _)) (pe_one (pe_cmp (pc_gt (pv 3) pe_int))))))))), ?_⟩
    rcases hk with ⟨p, ps, c, rfl, hp, ok, hl, rfl⟩ | ⟨rfl, t, ty, hb⟩
    · refine ⟨_, rfl, _, _, _, _, true, rfl, .own CC, ty_cmp T.ct T.fq hp, T.fq.kit, true, rfl, ?_⟩
      refine iteF ?_
      obtain ⟨dx, tp, as, e1, e2, e3⟩ := hp.ob
      have ln := paired_n e3
      refine ⟨_, rfl, p, dx, _, rfl, e1, cfl_no _ _ (by decide +kernel) (by decide +kernel), p, dx, tp, c, _, rfl, e1, e2, fun l hl0 => ?_⟩
      have s1 := same_new (o := .lst (as.map V.ref)) hl0
      obtain ⟨G, eG⟩ : ∃ G, G = upd H l (.lst (as.map V.ref)) := ⟨_, rfl⟩
      have hL : G l = some (.lst (as.map V.ref)) := by rw [eG]; exact upd_same
      rw [← eG] at s1 ⊢
      clear eG
      have e3b : Paired (PairAt K G) as ps := L2.Paired.mapP e3 fun _ _ g => g.same s1
      refine ⟨l, rfl, ⟨_, sqL_of hL⟩, fun R hR => ?_⟩
      refine lc_it (walk_list (xs := as.map V.ref)) (fun i H' => Same G H' ∧ ∃ xs, H' R = some (.lst xs) ∧ Paired (PR K H') xs (othP (ps.take i))) ⟨same_new hR, [], upd_same, .nil⟩ (fun i H' _ q => sqL_of (q.1 _ _ hL)) ?_ ?_
      · rintro i x Hi0 Hi hi ⟨sm, xs, hv, pz⟩ ⟨rfl, hx⟩
        rw [List.getElem?_map] at hx
        obtain ⟨a, ha, rfl⟩ := Option.map_eq_some_iff.mp hx
        obtain ⟨⟨t, n⟩, ht2, b, h1, h2⟩ := pairAtI e3b ha
        have okt : t ≠ [] := ok _ (List.mem_of_getElem? ht2)
        have st : othP (ps.take (i + 1)) = othP (ps.take i) ++ othP [(t, n)] := by
          rw [List.take_add_one, ht2, othP_app]
          rfl
        refine ⟨a, _, rfl, same_sqT sm h1, rfl, _, _, rfl, _, _, rfl, rfl, rfl, ?_⟩
        refine ⟨_, rfl, b, _, 0, _, rfl, rfl, .inl (.inl (sm _ _ h2)), hd_at okt, (by show 2 ≤ sizeLine; decide), fun w hw => ?_⟩
        have nw : R ≠ w := ne_of_none hv hw
        have hvw : upd Hi w (.tup [V.str "n", V.str "t"]) R = some (.lst xs) := by rw [upd_ne nw]; exact hv
        have smw := same_new (o := .tup [V.str "n", V.str "t"]) hw
        refine ⟨w, _, rfl, .inr (.inl (.inl upd_same)), rfl, rfl, _, rfl, ?_⟩
        show if (!ntV t) = true then _ else _
        cases e : ntV t with
        | true =>
          refine ifF rfl ?_
          refine ⟨sm.trans smw, xs, hvw, ?_⟩
          rw [st, show othP [(t, n)] = [] from by unfold othP; rw [List.filter_cons]; simp [e], List.append_nil]
          exact pr_same smw pz
        | false =>
          refine ifT rfl ?_
          refine ⟨_, rfl, _, rfl, (by show 2 ≤ sizeLine; decide), fun q hq => ?_⟩
          have nq : R ≠ q := ne_of_none hvw hq
          have hv2 : upd (upd Hi w (.tup [V.str "n", V.str "t"])) q (.tup [V.ref b, V.int n]) R = some (.lst xs) := by rw [upd_ne nq]; exact hvw
          have sm2 := same_new (o := .tup [V.ref b, V.int n]) hq
          refine ⟨xs, hv2, ?_, same_put (sm.trans (smw.trans sm2)) hR, _, upd_same, ?_⟩
          · have e := paired_n pz
            have h3 := othP_len (ps.take i)
            have h4 := List.length_take_le' i ps
            exact small1000 (by omega)
          · rw [st, show othP [(t, n)] = [(t, n)] from by unfold othP; rw [List.filter_cons]; simp [e]]
            exact pr_app (pr_put hv2 (pr_same (smw.trans sm2) pz)) (.cons ⟨q, rfl, b, sqT_put hv2 (.inl (.inl upd_same)), tm_put hv2 ((sm.trans (smw.trans sm2)) _ _ h2)⟩ .nil)
      · rintro H2 ⟨sm, xs, hv, pz⟩
        rw [List.length_map, ln, List.take_length] at pz
        have lx := paired_n pz
        have sm2 := s1.trans sm
        refine ⟨_, rfl, R, xs, rfl, .inl (sqL_of hv), _, 1, rfl, rfl, _, rfl, ?_⟩
        by_cases h1 : xs.length = 1
        · refine ifF (by simp [h1]) ?_
          obtain ⟨os, ho⟩ : ∃ os, os = othP ps := ⟨_, rfl⟩
          rw [← ho] at pz
          cases pz with
          | nil => cases h1
          | @cons a b as2 bs h t =>
            cases t with
            | cons _ _ => simp at h1
            | nil =>
              obtain ⟨aq, rfl, bt, g1, g2⟩ := h
              obtain ⟨t, n⟩ := b
              have okt : t ≠ [] := ok _ (List.mem_filter.mp (show (t, n) ∈ othP ps from ho ▸ List.mem_cons_self)).1
              refine ⟨_, rfl, R, _, 0, _, rfl, rfl, sqL_of hv, atI_nat (j := 0) rfl, ?_⟩
              refine ⟨aq, _, rfl, g1, rfl, _, _, rfl, _, _, rfl, rfl, ?_⟩
              refine ⟨_, rfl, bt, _, 0, _, rfl, rfl, .inl (.inl g2), hd_at okt, rfl, ?_⟩
              have ei : isC ps = (hdV t && decide (0 < n)) := by
                unfold isC
                rw [← ho]
              rw [ei] at k
              unfold hdV at k
              refine ⟨_, rfl, ?_⟩
              by_cases hh : V.str (t.headD default) = V.str "heard"
              · refine ifT (decide_eq_true hh) ?_
                rw [decide_eq_true hh, Bool.true_and] at k
                refine ⟨_, rfl, n, 0, rfl, rfl, ?_⟩
                exact k _ sm2
              · refine ifF (decide_eq_false hh) ?_
                rw [decide_eq_false hh, Bool.false_and] at k
                exact k _ sm2
        · refine ifT (by simp; omega) ?_
          have e : isC ps = false := by
            unfold isC
            split
            · rename_i q hq
              rw [hq] at lx
              exact absurd lx h1
            · rfl
          rw [e] at k
          exact k _ sm2
    · refine ⟨_, rfl, _, _, _, _, false, rfl, .own CC, ty, hb, false, rfl, ?_⟩
      refine iteT ?_
      exact k H (Same.refl H)
end
end Mv
/-! _first_without -/
namespace Mv
open PySem PySem.Spec PyProof.Rows L2
abbrev sFwo : Stmt := top 44
/-- what a test may be asked, and its answer -/
abbrev KnG : Type := Hp → V → Bool → Prop
def KnGs (G : KnG) (H : Hp) (x : V) (b : Bool) : Prop := ∀ H', Same H H' → G H' x b
theorem KnGs.same {G : KnG} {H H' : Hp} {x : V} {b : Bool} (s : Same H H') (h : KnGs G H x b) : KnGs G H' x b := fun H2 s2 => h H2 (s.trans s2)
abbrev KnCs (K : PySem.W.Frag) (CC : Addr) : KnG := KnGs (KnC K CC)
def spTest (G : KnG) : Sp := fun vs H Q _ => ∃ x b, vs = [x] ∧ G H x b ∧ ∀ H', Same H H' → Q (.bl b) H'
theorem kl_seq {K : PySem.W.Frag} {H : Hp} {a : Addr} {xs : List V} (h : Sq K H a xs) : Kl K H (.ref a) true := by
  rcases h with h | h
  · exact ⟨_, ty_lst h, kit_any (bs := ["list", "tuple"]) (by decide +kernel)⟩
  · exact ⟨_, ty_tup h, kit_any (bs := ["list", "tuple"]) (by decide +kernel)⟩
def FwoOut (H : Hp) (cs : List Bool) (Q : VK) : Prop := (∀ (i : Nat), cs[i]? = some false → (∀ (j : Nat), j < i → cs[j]? = some true) → ∀ H', Same H H' → Q (.int i) H') ∧ ((∀ (j : Nat), j < cs.length → cs[j]? = some true) → ∀ H', Same H H' → Q .non H')
def spFwoG (K : PySem.W.Frag) (Gt : KnG) (fC : Addr) : Sp := fun vs H Q _ => ∃ x, vs = [.ref fC, x] ∧ (((∀ H', Same H H' → Kl K H' x false) ∧ ∀ H', Same H H' → Q (.int 0) H') ∨ ∃ a xs cs, x = .ref a ∧ Sq K H a xs ∧ Paired (KnGs Gt H) xs cs ∧ FwoOut H cs Q)
abbrev spFwo (K : PySem.W.Frag) (CC fC : Addr) : Sp := spFwoG K (KnC K CC) fC
abbrev nFw : List Str := ["test", "things", "index", "thing"]
theorem scFw : FnScope nFw ["test", "things"] (defScope sFwo) := ⟨rfl, rfl, rfl, by decide +kernel, rfl, by decide +kernel, by decide +kernel⟩
section
variable {P : Program} {w : World} {K : PySem.W.Frag} {mg : Str → Option Value} {base : Heap} {Gt : KnG}
theorem ok_fwoG {f fL fC : Addr} {fd fdL fdC : FuncData} (F : Fun K "_first_without" "_first_without" sFwo f fd) (en : mg "enumerate" = none) (gL : mg "is_list" = some (.ref fL)) (kL : PySem.W.keepIn K (.ref fL) = true)
    (GL : FnOk P w K mg base CX0 1 fL fdL ["thing"] (spIsList K)) (bL : Binds K fdL ["thing"] []) (kC : PySem.W.keepIn K (.ref fC) = true) (GC : FnOk P w K mg base CX0 2 fC fdC ["thing"] (spTest Gt)) (bC : Binds K fdC ["thing"] []) : FnOk P w K mg base CX0 3 f fd ["test", "things"] (spFwoG K Gt fC) := by
  refine F.ok scFw (fun vs H Q E h => ?_) (fun cdv A outer s H vs Q E hr h => ?_)
  · obtain ⟨x, rfl, _⟩ := h
    rfl
  · obtain ⟨x, rfl, h⟩ := h
    rcases h with ⟨hk, k⟩ | ⟨a, xs, cs, rfl, hS | hS, pr, ki, kn⟩
    · refine ⟨_, pss_cons (ps_if (pt_not (pt_val (pe_call GL (hr.mono (by decide)) rfl gL kL bL .nil pass0 (pa_cons (pv 1) pa_nil)))) (pss_one (ps_ret pe_int)) pss_nil)
        (pss_cons (ps_for PassesOwn.never rfl (pi_enum (by rfl) en (pa_cons (pv 1) pa_nil)) (pg_tup rfl (pgs_cons (pg_name (i := 2) scFw.nd rfl (Or.inl rfl)) (pgs_cons (pg_name (i := 3) scFw.nd rfl (Or.inl rfl)) pgs_nil)))
          (pss_one (ps_if (pt_not (pt_val (pe_callL (i := 0) GC hr rfl (.inl rfl) kC bC .nil pass0 (pa_cons (pv 3) pa_nil)))) (pss_one (ps_ret (pv 2))) pss_nil))) (pss_one (ps_ret pe_non))), ?_⟩
      refine ⟨_, rfl, _, false, rfl, hk, fun H1 s1 => ⟨_, rfl, ?_⟩⟩
      refine iteT ?_
      exact k H1 s1
    · refine ⟨_, pss_cons (ps_if (pt_not (pt_val (pe_call GL (hr.mono (by decide)) rfl gL kL bL .nil pass0 (pa_cons (pv 1) pa_nil)))) (pss_one (ps_ret pe_int)) pss_nil)
        (pss_cons (ps_for PassesOwn.never rfl (pi_enum (by rfl) en (pa_cons (pv 1) pa_nil)) (pg_tup rfl (pgs_cons (pg_name (i := 2) scFw.nd rfl (Or.inl rfl)) (pgs_cons (pg_name (i := 3) scFw.nd rfl (Or.inl rfl)) pgs_nil)))
          (pss_one (ps_if (pt_not (pt_val (pe_callL (i := 0) GC hr rfl (.inl rfl) kC bC .nil pass0 (pa_cons (pv 3) pa_nil)))) (pss_one (ps_ret (pv 2))) pss_nil))) (pss_one (ps_ret pe_non))), ?_⟩
      refine ⟨_, rfl, _, true, rfl, fun H1 s1 => kl_seq (.inl (same_sqL s1 hS)), fun H1 s1 => ⟨_, rfl, ?_⟩⟩
      refine iteF ?_
      refine ⟨_, rfl, a, xs, rfl, same_sqL s1 hS, ?_⟩
      have lx := paired_n pr
      refine for_it (walk_enum (a := a) (xs := xs)) (fun i σ H' => (∃ u v, σ = [some (.ref fC), some (.ref a), u, v]) ∧ Same H H' ∧ ∀ j, j < i → cs[j]? = some true) ?_ ?_ ?_ ?_
      · exact ⟨⟨none, none, rfl⟩, s1, fun j hj => absurd hj (Nat.not_lt_zero j)⟩
      · rintro i σ H' hi ⟨_, sm, _⟩
        exact same_sqL sm hS
      · rintro i v0 σ H1 H1' hi ⟨⟨u, v, rfl⟩, sm, good⟩ ⟨Tp, n0, x, rfl, nT, rfl, en0, hx⟩
        cases en0
        have hi : i < xs.length := (List.getElem?_eq_some_iff.mp hx).1
        have sm1 : Same H (upd H1 Tp (.tup [.int (i : Nat), x])) := sm.trans (same_new nT)
        refine ⟨Tp, _, rfl, .inl (.inl upd_same), rfl, _, _, rfl, ?_⟩
        refine ⟨x, [], rfl, rfl, ?_⟩
        obtain ⟨b, hb, kx⟩ := pairAtI pr hx
        refine ⟨rfl, _, rfl, x, b, rfl, kx _ sm1, fun H2 s2 => ⟨_, rfl, ?_⟩⟩
        have sm2 : Same H H2 := sm1.trans s2
        cases b with
        | false =>
          refine iteT ?_
          exact ⟨_, rfl, ki i hb good H2 sm2⟩
        | true =>
          refine iteF ?_
          refine ⟨⟨_, _, rfl⟩, sm2, fun j hj => ?_⟩
          rcases Nat.lt_succ_iff_lt_or_eq.mp hj with q | q
          · exact good j q
          · rw [q, hb]
      · rintro σ H1 ⟨_, sm, good⟩
        exact kn (fun j hj => good j (lx ▸ hj)) H1 sm
    · refine ⟨_, pss_cons (ps_if (pt_not (pt_val (pe_call GL (hr.mono (by decide)) rfl gL kL bL .nil pass0 (pa_cons (pv 1) pa_nil)))) (pss_one (ps_ret pe_int)) pss_nil)
        (pss_cons (ps_for PassesOwn.never rfl (pi_enumT (by rfl) en (pa_cons (pv 1) pa_nil)) (pg_tup rfl (pgs_cons (pg_name (i := 2) scFw.nd rfl (Or.inl rfl)) (pgs_cons (pg_name (i := 3) scFw.nd rfl (Or.inl rfl)) pgs_nil)))
          (pss_one (ps_if (pt_not (pt_val (pe_callL (i := 0) GC hr rfl (.inl rfl) kC bC .nil pass0 (pa_cons (pv 3) pa_nil)))) (pss_one (ps_ret (pv 2))) pss_nil))) (pss_one (ps_ret pe_non))), ?_⟩
      refine ⟨_, rfl, _, true, rfl, fun H1 s1 => kl_seq (.inr (same_sqT s1 hS)), fun H1 s1 => ⟨_, rfl, ?_⟩⟩
      refine iteF ?_
      refine ⟨_, rfl, a, xs, rfl, same_sqT s1 hS, ?_⟩
      have lx := paired_n pr
      refine for_enumT (K := K) (a := a) (xs := xs) rfl (fun i σ H' => (∃ u v, σ = [some (.ref fC), some (.ref a), u, v]) ∧ Same H H' ∧ ∀ j, j < i → cs[j]? = some true) ?_ ?_ ?_ ?_
      · exact ⟨⟨none, none, rfl⟩, s1, fun j hj => absurd hj (Nat.not_lt_zero j)⟩
      · rintro i σ H' ⟨_, sm, _⟩
        exact same_sqT sm hS
      · rintro i x Tp σ H1 hx ⟨⟨u, v, rfl⟩, sm, good⟩ nT
        have hi : i < xs.length := (List.getElem?_eq_some_iff.mp hx).1
        have sm1 : Same H (upd H1 Tp (.tup [.int (i : Nat), x])) := sm.trans (same_new nT)
        refine ⟨Tp, _, rfl, .inl (.inl upd_same), rfl, _, _, rfl, ?_⟩
        refine ⟨x, [], rfl, rfl, ?_⟩
        obtain ⟨b, hb, kx⟩ := pairAtI pr hx
        refine ⟨rfl, _, rfl, x, b, rfl, kx _ sm1, fun H2 s2 => ⟨_, rfl, ?_⟩⟩
        have sm2 : Same H H2 := sm1.trans s2
        cases b with
        | false =>
          refine iteT ?_
          exact ⟨_, rfl, ki i hb good H2 sm2⟩
        | true =>
          refine iteF ?_
          refine ⟨⟨_, _, rfl⟩, sm2, fun j hj => ?_⟩
          rcases Nat.lt_succ_iff_lt_or_eq.mp hj with q | q
          · exact good j q
          · rw [q, hb]
      · rintro σ H1 ⟨_, sm, good⟩
        exact kn (fun j hj => good j (lx ▸ hj)) H1 sm
end
end Mv
/-! Rule.__init__ -/
namespace Mv
open PySem PySem.Spec PyProof.Rows L2
abbrev sRInit : Stmt := inClass (top 40) 0
abbrev sREq : Stmt := inClass (top 40) 1
def RaisedF (H : Hp) (C : Addr) (fld : Str) (y : V) (E : XK) : Prop := ∀ d H', Same H H' → H' d = none → E (.ref C) (some d) (upd H' d (.xd [(fld, y)]))
def rfl1 (x : V) : List (Str × V) := putF "name" x []
def rfl2 (x y : V) : List (Str × V) := putF "start" y (rfl1 x)
def rfl3 (x y z : V) : List (Str × V) := putF "end" z (rfl2 x y)
def rfl4 (x y z w : V) : List (Str × V) := putF "when" w (rfl3 x y z)
def rfl5 (x y z w s : V) : List (Str × V) := putF "says" s (rfl4 x y z w)
structure RT (K : PySem.W.Frag) (mg : Str → Option Value) (CR : Addr) : Prop where
  cl : Cls K CR
  nN : NoAttr K CR "name"
  nS : NoAttr K CR "start"
  nE : NoAttr K CR "end"
  nW : NoAttr K CR "when"
  nY : NoAttr K CR "says"
  tuple : mg "tuple" = none
  sorted : mg "sorted" = none
theorem sqT_keep {K : PySem.W.Frag} {H H' : Hp} {a p : Addr} {xs : List V} {C dx : Addr} {fs : List (Str × V)} (hp : H p = some (.ins C dx fs)) (k : ∀ b o, H b = some o → b ≠ p → H' b = some o) (h : SqT K H a xs) : SqT K H' a xs := by
  have ne : ∀ o, H a = some o → (∀ fs, o ≠ .ins C dx fs) → a ≠ p := fun o e n z => by
    rw [z, hp] at e
    cases e
    exact n _ rfl
  rcases h with h | h
  · rcases h with h | ⟨o, h⟩
    · exact .inl (.inl (k _ _ h (ne _ h fun _ z => by cases z)))
    · exact .inl (.inr ⟨o, k _ _ h (ne _ h fun _ z => by cases z)⟩)
  · exact .inr h
def rTupS (K : PySem.W.Frag) : List V → Hp → VK → Prop := fun xs H Q => ∃ p ys, xs = [V.ref p] ∧ Sq K H p ys ∧ ∀ tw G1, Same H G1 → SqT K G1 tw ys → Q (.ref tw) G1
theorem call_tupS {X : Cx} : CallR X (.type "tuple") (rTupS X.K) := fun pins s σ H xs us Q I rv q => by
  obtain ⟨p, ys, e, hq, k⟩ := q
  refine call_tuple_of pins s σ H xs us Q I rv ⟨p, ys, e, ?_⟩
  rcases hq with h | h
  · exact .inl ⟨h, fun l hl => k l _ (same_new hl) (.inl (.inl upd_same))⟩
  · exact .inr ⟨h, k p H (Same.refl H) h⟩
def rSortQ (K : PySem.W.Frag) : List V → Hp → VK → Prop := fun vs H Q => ∃ (a : Addr) (xs : List Str), vs = [V.ref a] ∧ Sq K H a (xs.map V.str) ∧ xs.length < 64 ∧
  ∀ (ys : List Str) (p : Addr), ys.Perm xs → sortedS ys = true → H p = none → Q (.ref p) (upd H p (.lst (ys.map V.str)))
theorem call_sortQ {X : Cx} : CallR X (.builtin "sorted") (rSortQ X.K) := fun pins s σ H xs us Q I rv q => by
  obtain ⟨a, zs, e, hq, h64, k⟩ := q
  rcases hq with h | h
  · exact cr_sortedS pins s σ H xs us Q I rv ⟨a, zs, e, h, h64, k⟩
  · exact cr_sortedT pins s σ H xs us Q I rv ⟨a, zs, e, h, h64, k⟩
theorem sqL_keep {K : PySem.W.Frag} {H H' : Hp} {a p : Addr} {xs : List V} {C dx : Addr} {fs : List (Str × V)} (hp : H p = some (.ins C dx fs)) (k : ∀ b o, H b = some o → b ≠ p → H' b = some o) (h : SqL K H a xs) : SqL K H' a xs := by
  have ne : ∀ o, H a = some o → (∀ fs, o ≠ .ins C dx fs) → a ≠ p := fun o e n z => by
    rw [z, hp] at e
    cases e
    exact n _ rfl
  rcases h with h | h
  · rcases h with h | ⟨o, h⟩
    · exact .inl (.inl (k _ _ h (ne _ h fun _ z => by cases z)))
    · exact .inl (.inr ⟨o, k _ _ h (ne _ h fun _ z => by cases z)⟩)
  · exact .inr h
/-- all is right: the rule is made -/
def RMade (K : PySem.W.Frag) (CR : Addr) (H : Hp) (p dx : Addr) (x y z : V) (xs : List V) (zs : List Str) (Q : VK) : Prop := ∀ tw ts ys H', ys.Perm zs → sortedS ys = true → SqT K H' tw xs → SqT K H' ts (ys.map V.str) →
  H' p = some (.ins CR dx (rfl5 x y z (.ref tw) (.ref ts))) → (∀ b o, H b = some o → b ≠ p → H' b = some o) → Q .non H'
def RWhen (K : PySem.W.Frag) (CR CC CK : Addr) (H : Hp) (p dx : Addr) (x y z wn : V) (zs : List Str) (Q : VK) (E : XK) : Prop :=
  ((∀ H', Same H H' → Kl K H' wn false) ∧ RaisedF H CK "index" (.int 0) E) ∨ ∃ b xs cs, wn = .ref b ∧ Sq K H b xs ∧ Paired (KnCs K CC H) xs cs ∧
    (∀ i : Nat, cs[i]? = some false → (∀ j, j < i → cs[j]? = some true) → RaisedF H CK "index" (.int i) E) ∧ ((∀ j, j < cs.length → cs[j]? = some true) → RMade K CR H p dx x y z xs zs Q)
def RSays (K : PySem.W.Frag) (CR CC CW CK : Addr) (H : Hp) (p dx : Addr) (x y z wn sy : V) (Q : VK) (E : XK) : Prop :=
  ((∀ H', Same H H' → Kl K H' sy false) ∧ RaisedF H CW "word" sy E) ∨ ∃ a ss, sy = .ref a ∧ Sq K H a ss ∧ (∀ u ∈ ss, ∀ H', Same H H' → Kn K H' u) ∧ ss.length ≤ 50 ∧
    (∀ (i : Nat) u, ss[i]? = some u → badAt ss i = true → (∀ j, j < i → badAt ss j = false) → RaisedF H CW "word" u E) ∧
    ((∀ j, j < ss.length → badAt ss j = false) → ∃ zs : List Str, ss = zs.map V.str ∧ RWhen K CR CC CK H p dx x y z wn zs Q E)
def spRInit (K : PySem.W.Frag) (CR CC CW CK : Addr) : Sp := fun vs H Q E => ∃ p dx x y z wn sy, vs = [.ref p, x, y, z, wn, sy] ∧ H p = some (.ins CR dx []) ∧ (∀ u ∈ [x, y, z], ∀ H', Same H H' → Kn K H' u) ∧
  (∀ (i : Nat) u, [x, y, z][i]? = some u → isW u = false → (∀ (j : Nat) v, j < i → [x, y, z][j]? = some v → isW v = true) → RaisedF H CW "word" u E) ∧
  ((∀ u ∈ [x, y, z], isW u = true) → RSays K CR CC CW CK H p dx x y z wn sy Q E)
abbrev nRI : List Str := ["self", "name", "start", "end", "when", "says", "word", "index"]
theorem scRI : FnScope nRI ["self", "name", "start", "end", "when", "says"] (defScope sRInit) := ⟨rfl, rfl, rfl, by decide +kernel, rfl, by decide +kernel, by decide +kernel⟩
section
variable {P : Program} {w : World} {K : PySem.W.Frag} {mg : Str → Option Value} {base : Heap} {CR CC CW CK : Addr}
structure RIT (P : Program) (w : World) (K : PySem.W.Frag) (mg : Str → Option Value) (base : Heap) (CR CC CW CK fC : Addr) : Prop where
  rt : RT K mg CR
  bw : Err P w K mg base "BadWord" CW "word"
  bc : Err P w K mg base "BadCondition" CK "index"
  gW : Dn P w K mg base CX0 1 "is_word" ["thing"] (spIsWord K)
  gL : Dn P w K mg base CX0 1 "is_list" ["thing"] (spIsList K)
  gU : Dn P w K mg base CX0 2 "first_unfit" ["words"] (spFirstS K)
  gF : Dn P w K mg base CX0 3 "_first_without" ["test", "things"] (spFwo K CC fC)
  gC : mg "is_condition" = some (.ref fC)
  kC : Cls K CR
theorem ok_rinit {dvs : List V} {kws : List (Str × V)} {fC f : Addr} {fd : FuncData} (F : FunD K "__init__" "Rule.__init__" (defArgs sRInit) (defBody sRInit) (defScope sRInit) dvs kws f fd) (T : RIT P w K mg base CR CC CW CK fC) :
    FnOk P w K mg base (L2.CX P w) 4 f fd ["self", "name", "start", "end", "when", "says"] (spRInit K CR CC CW CK) := by
  refine F.ok scRI (fun vs H Q E h => ?_) (fun cdv A outer s H vs Q E hr h => ?_)
  · obtain ⟨p, dx, x, y, z, wn, sy, rfl, _⟩ := h
    rfl
  · obtain ⟨p, dx, x, y, z, wn, sy, rfl, hp, hk, hA, h⟩ := h
    refine ⟨_, pss_cons (ps_for (passes_of rfl) rfl (pi_tup (pe_tup (pa_cons (pv 1) (pa_cons (pv 2) (pa_cons (pv 3) pa_nil))))) (pg_name (i := 6) scRI.nd rfl (Or.inl rfl))
        (pss_one (ps_if (pt_not (pt_val (pe_d (E := E0) T.gW hr (by decide) rfl pass0 (pa_cons (pv 6) pa_nil)))) (pss_one (ps_raiseErr rfl T.bw hr (takes_of rfl rfl rfl rfl) rfl (pv 6))) pss_nil)))
      (pss_cons (ps_if (pt_not (pt_val (pe_d (E := E0) T.gL hr (by decide) rfl pass0 (pa_cons (pv 5) pa_nil)))) (pss_one (ps_raiseErr rfl T.bw hr (takes_of rfl rfl rfl rfl) rfl (pv 5))) pss_nil)
      (pss_cons (ps_set (i := 7) scRI.nd rfl (.inl rfl) (pe_d (E := E0) T.gU hr (by decide) rfl pass0 (pa_cons (pv 5) pa_nil)))
      (pss_cons (ps_if (pt_cmp (pc_notN (pv 7))) (pss_one (ps_raiseErr rfl T.bw hr (takes_of rfl rfl rfl rfl) rfl (pe_ix ix_seq (pv 5) (pv 7) (fun _ _ => rfl)))) pss_nil)
      (pss_cons (ps_set (i := 7) scRI.nd rfl (.inl rfl) (pe_d (E := E0) T.gF hr (by decide) rfl pass0 (pa_cons (pe_glob (v := .ref fC) rfl T.gC rfl) (pa_cons (pv 4) pa_nil))))
      (pss_cons (ps_if (pt_cmp (pc_notN (pv 7))) (pss_one (ps_raiseErr rfl T.bc hr (takes_of rfl rfl rfl rfl) rfl (pv 7))) pss_nil)
      (pss_cons (ps_fld (pv 0) (pv 1) rfl) (pss_cons (ps_fld (pv 0) (pv 2) rfl) (pss_cons (ps_fld (pv 0) (pv 3) rfl)
      (pss_cons (ps_fld (pv 0) (pe_callTy call_tupS (by rfl) T.rt.tuple (by decide +kernel) (pa_cons (pv 4) pa_nil)) rfl)
      (pss_one (ps_fld (pv 0) (pe_callTy call_tupS (by rfl) T.rt.tuple (by decide +kernel) (pa_cons (pe_callB call_sortQ (by rfl) T.rt.sorted (by decide +kernel) (pa_cons (pv 5) pa_nil)) pa_nil)) rfl))))))))))), ?_⟩
    refine ⟨_, rfl, _, rfl, _, rfl, (by show 3 ≤ sizeLine; decide), fun tt ht => ?_⟩
    have s0 := same_new (o := .tup [x, y, z]) ht
    refine ⟨tt, rfl, ⟨_, .inl (.inl upd_same)⟩, ?_⟩
    refine for_it (walk_tup (xs := [x, y, z])) (fun i σ H' => (∃ v, σ = [some (.ref p), some x, some y, some z, some wn, some sy, v, none]) ∧ Same (upd H tt (.tup [x, y, z])) H' ∧ ∀ (j : Nat) v, j < i → [x, y, z][j]? = some v → isW v = true) ⟨⟨none, rfl⟩, Same.refl _, fun j v hj => absurd hj (Nat.not_lt_zero j)⟩ (fun i _ H' _ q => .inl (.inl (q.2.1 _ _ upd_same))) ?_ ?_
    · rintro i u σ H1 H2 hi ⟨⟨v6, rfl⟩, sm, good⟩ ⟨rfl, hu⟩
      refine ⟨_, rfl, u, rfl, hk u (List.mem_of_getElem? hu) _ (s0.trans sm), fun H3 s3 => ⟨_, rfl, ?_⟩⟩
      have s03 := s0.trans (sm.trans s3)
      cases e : isW u with
      | false =>
        refine iteT ?_
        refine ⟨_, rfl, fun d hd => ?_⟩
        exact hA i u hu e good d H3 s03 hd
      | true =>
        refine iteF ?_
        refine ⟨⟨_, rfl⟩, sm.trans s3, fun j v hj hv => ?_⟩
        rcases Nat.lt_succ_iff_lt_or_eq.mp hj with q | q
        · exact good j v q hv
        · rw [q, hu] at hv
          cases hv
          exact e
    · rintro σ H1 ⟨⟨v6, rfl⟩, sm, good⟩
      have s1 := s0.trans sm
      have aw : ∀ u ∈ [x, y, z], isW u = true := fun u hu => by
        obtain ⟨j, hj⟩ := List.mem_iff_getElem?.mp hu
        exact good j u (List.getElem?_eq_some_iff.mp hj).1 hj
      rcases h aw with ⟨hl, hR⟩ | ⟨a, ss, rfl, hS, hks, hl50, kb, kg⟩
      · refine ⟨_, rfl, _, false, rfl, fun H2 s2 => hl H2 (s1.trans s2), fun H2 s2 => ⟨_, rfl, ?_⟩⟩
        refine iteT ?_
        exact ⟨_, rfl, fun d hd => hR d H2 (s1.trans s2) hd⟩
      refine ⟨_, rfl, _, true, rfl, fun H2 s2 => kl_seq (hS.same (s1.trans s2)), fun H2 s2 => ⟨_, rfl, ?_⟩⟩
      refine iteF ?_
      have s12 := s1.trans s2
      refine ⟨_, rfl, a, ss, rfl, hS.same s12, fun u hu H3 s3 => hks u hu H3 (s12.trans s3), fun i hi hb hg H3 s3 => ?_, fun hg H3 s3 => ?_⟩
      · refine ⟨_, rfl, _, rfl, ?_⟩
        refine iteT ?_
        have eu := List.getElem?_eq_getElem hi
        have hR := kb i _ eu hb hg
        refine ⟨_, rfl, _, rfl, ?_⟩
        have s13 := s12.trans s3
        have fin : ∀ d, H3 d = none → _ := fun d hd => hR d H3 s13 hd
        rcases hS with hS | hS
        · exact .inl ⟨a, ss, _, _, rfl, rfl, same_sqL s13 hS, atI_nat eu, fin⟩
        · exact .inr (.inl ⟨a, ss, _, _, rfl, rfl, same_sqT s13 hS, atI_nat eu, fin⟩)
      refine ⟨_, rfl, _, rfl, ?_⟩
      refine iteF ?_
      have s13 := s12.trans s3
      obtain ⟨zs, rfl, hW⟩ := kg hg
      rcases hW with ⟨hl, hR⟩ | ⟨b, xs, cs, rfl, hB, pr, ki, km⟩
      · refine ⟨_, rfl, _, rfl, .inl ⟨fun H4 s4 => hl H4 (s13.trans s4), fun H4 s4 => ?_⟩⟩
        refine ⟨_, rfl, _, rfl, ?_⟩
        refine iteT ?_
        exact ⟨_, rfl, fun d hd => hR d H4 (s13.trans s4) hd⟩
      refine ⟨_, rfl, _, rfl, .inr ⟨b, xs, cs, rfl, hB.same s13, L2.Paired.mapP pr fun _ _ g => g.same s13, fun i hi hg2 H4 s4 => ?_, fun hg2 H4 s4 => ?_⟩⟩
      · refine ⟨_, rfl, _, rfl, ?_⟩
        refine iteT ?_
        exact ⟨_, rfl, fun d hd => ki i hi hg2 d H4 (s13.trans s4) hd⟩
      refine ⟨_, rfl, _, rfl, ?_⟩
      refine iteF ?_
      have s14 := s13.trans s4
      have p4 := s14 _ _ hp
      have md := km hg2
      have hS4 := hS.same s14
      have hB4 := hB.same s14
      have lz : zs.length < 64 := by rw [List.length_map] at hl50; omega
      refine ⟨_, rfl, _, rfl, p, CR, dx, [], rfl, p4, T.rt.cl, T.rt.nN, (by show 0 < 1000; decide), ?_⟩
      refine ⟨_, rfl, _, rfl, p, CR, dx, _, rfl, upd_same, T.rt.cl, T.rt.nS, (by show 1 < 1000; decide), ?_⟩
      refine ⟨_, rfl, _, rfl, p, CR, dx, _, rfl, upd_same, T.rt.cl, T.rt.nE, (by show 2 < 1000; decide), ?_⟩
      obtain ⟨G, eG⟩ : ∃ G, G = upd (upd (upd H4 p (.ins CR dx (rfl1 x))) p (.ins CR dx (rfl2 x y))) p (.ins CR dx (rfl3 x y z)) := ⟨_, rfl⟩
      have gp : G p = some (.ins CR dx (rfl3 x y z)) := by rw [eG]; exact upd_same
      have gk : ∀ b o, H4 b = some o → b ≠ p → G b = some o := fun b o e n => by rw [eG, upd_ne n, upd_ne n, upd_ne n]; exact e
      have hSG : Sq K G a (zs.map V.str) := hS4.elim (fun h => .inl (sqL_keep p4 gk h)) fun h => .inr (sqT_keep p4 gk h)
      have hBG : Sq K G b xs := hB4.elim (fun h => .inl (sqL_keep p4 gk h)) fun h => .inr (sqT_keep p4 gk h)
      show tSeq _ _ _ _ (upd (upd (upd H4 p (.ins CR dx (rfl1 x))) p (.ins CR dx (rfl2 x y))) p (.ins CR dx (rfl3 x y z)))
      rw [← eG]
      have kpH : ∀ b o, H b = some o → b ≠ p → G b = some o := fun b o e n => gk b o (s14 _ _ e) n
      clear eG
      refine ⟨_, rfl, b, xs, rfl, hBG, fun tw G1 sg ht2 => ?_⟩
      refine ⟨_, rfl, p, CR, dx, _, rfl, sg _ _ gp, T.rt.cl, T.rt.nW, (by show 3 < 1000; decide), ?_⟩
      obtain ⟨G2, eG2⟩ : ∃ G2, G2 = upd G1 p (.ins CR dx (rfl4 x y z (.ref tw))) := ⟨_, rfl⟩
      have gp2 : G2 p = some (.ins CR dx (rfl4 x y z (.ref tw))) := by rw [eG2]; exact upd_same
      have gk2 : ∀ b o, G1 b = some o → b ≠ p → G2 b = some o := fun b o e n => by rw [eG2, upd_ne n]; exact e
      have hSG2 : Sq K G2 a (zs.map V.str) := (hSG.same sg).elim (fun h => .inl (sqL_keep (sg _ _ gp) gk2 h)) fun h => .inr (sqT_keep (sg _ _ gp) gk2 h)
      have ht3 := sqT_keep (sg _ _ gp) gk2 ht2
      refine cast (congrArg _ eG2) ?_
      refine ⟨_, rfl, a, zs, rfl, hSG2, lz, fun ys lp pm so hlp => ?_⟩
      refine ⟨lp, ys.map V.str, rfl, .inl (.inl (.inl upd_same)), fun ts G3 s3 ht4 => ?_⟩
      have s23 := (same_new (o := .lst (ys.map V.str)) hlp).trans s3
      refine ⟨_, rfl, p, CR, dx, _, rfl, s23 _ _ gp2, T.rt.cl, T.rt.nY, (by show 4 < 1000; decide), ?_⟩
      have gk3 : ∀ b o, G3 b = some o → b ≠ p → upd G3 p (.ins CR dx (rfl5 x y z (.ref tw) (.ref ts))) b = some o := fun b o e n => by rw [upd_ne n]; exact e
      exact md tw ts ys _ pm so (sqT_keep (s23 _ _ gp2) gk3 (same_sqT s23 ht3)) (sqT_keep (s23 _ _ gp2) gk3 ht4) upd_same (fun b o e n => gk3 b o (s23 _ _ (gk2 b o (sg _ _ (kpH b o e n)) n)) n)
end
end Mv
/-! at_least; comparisons of written terms -/
namespace Mv
open PySem PySem.Spec PyProof.Rows L2
def spCmp2 (K : PySem.W.Frag) (C CF CC CN CB : Addr) (l : Int) : Sp := fun vs H Q E => ∃ x y, vs = [x, y] ∧ spCmp K C CF CC CN CB [x, y, .int l] H Q E
section
variable {P : Program} {w : World} {K : PySem.W.Frag} {mg : Str → Option Value} {base : Heap} {C CF CC CN CB fT fI : Addr} {fdT fdI : FuncData}
theorem ok_cmp2 {st : Stmt} {nm : Str} {l : Int} {f : Addr} {fd : FuncData} {p1 p2 p3 p4 p5 p6 : Pos} {j : Nat} (hbody : defBody st = [.Return (some (.Call (.Name "_compared" p1) [.Name "one" p2, .Name "other" p3, .Constant (.int l) j p4] [] p5)) p6])
    (sc : FnScope ["one", "other"] ["one", "other"] (defScope st)) (hg : (defScope st).names.lookup ("_compared" : Str) = some .globalImplicit) (h1 : (defScope st).names.lookup ("one" : Str) = some .local) (h2 : (defScope st).names.lookup ("other" : Str) = some .local)
    (F : Fun K nm nm st f fd) (D : Dn P w K mg base (L2.CX P w) 6 "_compared" ["one", "other", "least"] (spCmp K C CF CC CN CB)) : FnOk P w K mg base (L2.CX P w) 7 f fd ["one", "other"] (spCmp2 K C CF CC CN CB l) := by
  refine F.okX sc (fun vs H Q E h => ?_) (fun cdv A outer s H vs Q E hr h => ?_)
  · obtain ⟨x, y, rfl, _⟩ := h
    rfl
  · obtain ⟨x, y, rfl, h⟩ := h
    rw [hbody]
    refine ⟨_, pss_one (ps_ret (pe_d (E := E) D hr (by decide) hg (passes_call (takes_of rfl rfl rfl rfl) (fun _ _ _ _ q => q)) (pa_cons (pe_var (i := 0) rfl (.inl h1)) (pa_cons (pe_var (i := 1) rfl (.inl h2)) (pa_cons pe_int pa_nil))))), ?_⟩
    exact ⟨_, rfl, _, rfl, h⟩
end
/-- checks -/
def canB (ps : Prs) : Bool := decide (ps.Pairwise fun p q => rkLt p.1 q.1 = true) && ps.all fun p => decide (p.2 ≠ 0) && (!p.1.isEmpty && (decide (p.1.headD default ∈ KINDL) && (p.1.all PyData.strOk && decide (p.1.length ≤ 60))))
theorem canon_of {ps : Prs} (h : canB ps = true) : Canon ps := by
  unfold canB at h
  rw [Bool.and_eq_true, decide_eq_true_eq, List.all_eq_true] at h
  obtain ⟨h1, h2⟩ := h
  have q : ∀ p ∈ ps, p.2 ≠ 0 ∧ TermOk p.1 := fun p hp => by
    have z := h2 p hp
    simp only [Bool.and_eq_true, decide_eq_true_eq, Bool.not_eq_true'] at z
    obtain ⟨z1, z2, z3, z4, z5⟩ := z
    refine ⟨z1, ?_, fun y hy => List.all_eq_true.mp z4 y hy, z5⟩
    obtain ⟨t, i⟩ := p
    cases t with
    | nil => cases z2
    | cons a r => exact ⟨a, r, rfl, z3⟩
  exact ⟨h1, fun p hp => (q p hp).1, fun p hp => (q p hp).2⟩
def gpB (rs ps qs : Prs) : Bool := (rs.map (·.1) ++ (ps.map (·.1) ++ qs.map (·.1))).all fun t => decide (getP rs t = getP ps t - getP qs t)
theorem gp_of {rs ps qs : Prs} (h : gpB rs ps qs = true) (t : Term) : getP rs t = getP ps t - getP qs t := by
  unfold gpB at h
  rw [List.all_eq_true] at h
  by_cases m : t ∈ rs.map (·.1) ++ (ps.map (·.1) ++ qs.map (·.1))
  · exact of_decide_eq_true (h t m)
  · rw [List.mem_append, List.mem_append] at m
    have n1 : t ∉ rs.map (·.1) := fun z => m (.inl z)
    have n2 : t ∉ ps.map (·.1) := fun z => m (.inr (.inl z))
    have n3 : t ∉ qs.map (·.1) := fun z => m (.inr (.inr z))
    have no : ∀ {xs : Prs}, t ∉ xs.map (·.1) → getP xs t = 0 := fun {xs} n => getP_no fun p hp e => n (e ▸ List.mem_map_of_mem hp)
    rw [no n1, no n2, no n3]
    rfl
section
variable {K : PySem.W.Frag} {C CF CC CN CB : Addr}
def tAs (K : PySem.W.Frag) (C : Addr) (ps : Prs) (r : Int) : TE := fun _ H Q => ∀ y H', Same H H' → AsF K C H' y ps r → Q y H'
def tForm (K : PySem.W.Frag) (C : Addr) (ps : Prs) (r : Int) : TE := fun _ H Q => ∀ p H', Same H H' → H p = none → FormAt K C H' p ps r → Q (.ref p) H'
def tCmp (K : PySem.W.Frag) (CC : Addr) (ps : Prs) (r : Int) : TE := fun _ H Q => ∀ p H', Same H H' → H p = none → CmpAt K CC H' p ps r → Q (.ref p) H'
theorem pe_imp {X : Cx} {e : Expr} {t t' : TE} (h : PE X e t) (k : ∀ σ H Q, t' σ H Q → t σ H Q) : PE X e t' := ⟨fun pins s σ H Q I q => h.run pins s σ H Q I (k σ H Q q)⟩
theorem pe_asI {X : Cx} {e : Expr} {i : Int} (h : PE X e (tC (.int i))) : PE X e (tAs K C [] i) := pe_imp h fun σ H Q k => k _ H (Same.refl H) (.inr ⟨rfl, rfl⟩)
theorem pe_asF {X : Cx} {e : Expr} {ps : Prs} {r : Int} (h : PE X e (tForm K C ps r)) : PE X e (tAs K C ps r) := pe_imp h fun σ H Q k p H' s n f => k _ H' s (.inl ⟨p, rfl, f⟩)
/-- what is known of a comparison of two known ones -/
def okB (ps qs rs : Prs) (d l : Int) : Bool := canB ps && (canB qs && (canB rs && (gpB rs ps qs && (decide (ps.length ≤ 100) && (decide (qs.length ≤ 100) && (rs.all (fun p => decide (p.2.natAbs < 1000000)) && (!rs.isEmpty && (decide (conI rs d l = 0) || decide (conI rs d l = 1)))))))))
theorem pe_atl {X : Cx} {e1 e2 : Expr} {p pos : Pos} {ps qs rs : Prs} {r r2 l : Int} {nm : Str} {k : Nat} (A : Dn X.prog X.w X.K X.mg X.base (L2.CX X.prog X.w) 7 nm ["one", "other"] (spCmp2 X.K C CF CC CN CB l)) (hr : Room k X.A) (hk : 7 ≤ k) (hg : Gl X nm) (ha : PA X [e1, e2] (tCons (tAs X.K C ps r) (tCons (tAs X.K C qs r2) tNil)))
    (ok : okB ps qs rs (r - r2) l = true) (hd : (nm == ("__debug__" : Str)) = false := by decide) (he : starEach (e1 :: [e2]) X.env = (false, eval e1 X.env) :: starEach [e2] X.env := by rfl) (hpl : (backTo pos (starEach [e2] X.env)).any (·.1) = false := by rfl) :
    PE X (.Call (.Name nm p) [e1, e2] [] pos) (tCmp X.K CC (divP rs (gI rs)) (conI rs (r - r2) l)) := by
  unfold okB at ok
  simp only [Bool.and_eq_true, decide_eq_true_eq, Bool.or_eq_true, Bool.not_eq_true'] at ok
  obtain ⟨c1, c2, c3, gg, l1, l2, bd, ne, hc⟩ := ok
  refine pe_imp (pe_d (E := E0) A hr hk hg passX ha hd he hpl) fun σ H Q q => ?_
  intro y H1 s1 f1 z H2 s2 f2
  refine ⟨y, z, rfl, y, z, l, rfl, .inr ⟨ps, r, f1.same s2, canon_of c1, l1, .inr ⟨qs, r2, f2, canon_of c2, l2, fun rs2 cz gz lz => ?_⟩⟩⟩
  have er : rs2 = rs := cz.uniq (canon_of c3) fun t => by rw [gz t, gp_of gg t]
  subst er
  refine ⟨fun p hp => of_decide_eq_true (List.all_eq_true.mp bd p hp), fun e => ?_, fun _ _ p H' s n hp => q p H' (s1.trans (s2.trans s)) (s1.free (s2.free n)) hp, fun _ h => absurd hc h⟩
  rw [e] at ne
  cases ne
theorem pe_h1 {X : Cx} {e : Expr} {pos : Pos} {z : Str} {f : Addr} {p : Pos} {k : Nat} (G : FnR X.prog X.w X.K X.mg X.base (L2.CX X.prog X.w) 4 f (fun xs H Q E => xs.length ≤ 50 ∧ spHeard X.K C CB xs H Q E)) (hr : Room k X.A) (hk4 : 4 ≤ k) (hk : PySem.W.keepIn X.K (.ref f) = true) (hg : Gl X "heard") (hm : X.mg "heard" = some (.ref f))
    (he : PA X [e] (tCons (tC (.str z)) tNil)) (hz : z.length ≤ 8) (hb : badAt [V.str z] 0 = false) (hs : starEach (e :: []) X.env = (false, eval e X.env) :: starEach [] X.env := by rfl) (hpl : (backTo pos (starEach [] X.env)).any (·.1) = false := by rfl) : PE X (.Call (.Name "heard" p) [e] [] pos) (tForm X.K C [(["heard", z], 1)] 0) :=
  pe_imp (pe_callR (E := E0) G (hr.mono hk4) hk hg hm passX he (by decide) hs hpl) fun σ H Q q =>
    heard_of (zs := [z]) (ys := [z]) (by show 1 ≤ 50; decide) (by simp) (fun y hy => by rw [List.mem_singleton.mp hy]; exact Nat.le_trans hz (by show 8 ≤ sizeLine; decide)) (fun j hj => by
      have : j = 0 := by
        have : j < 1 := hj
        omega
      subst this
      exact hb) (fun us hp _ => List.perm_singleton.mp hp) fun p H1 s1 n1 hf => q p H1 s1 n1 hf
theorem pe_h2 {X : Cx} {e1 e2 : Expr} {pos : Pos} {f : Addr} {p : Pos} {k : Nat} (G : FnR X.prog X.w X.K X.mg X.base (L2.CX X.prog X.w) 4 f (fun xs H Q E => xs.length ≤ 50 ∧ spHeard X.K C CB xs H Q E)) (hr : Room k X.A) (hk4 : 4 ≤ k) (hk : PySem.W.keepIn X.K (.ref f) = true) (hg : Gl X "heard") (hm : X.mg "heard" = some (.ref f))
    (ha : PA X [e1, e2] (tCons (tC (.str "a")) (tCons (tC (.str "b")) tNil))) (hs : starEach (e1 :: [e2]) X.env = (false, eval e1 X.env) :: starEach [e2] X.env := by rfl) (hpl : (backTo pos (starEach [e2] X.env)).any (·.1) = false := by rfl) : PE X (.Call (.Name "heard" p) [e1, e2] [] pos) (tForm X.K C [(["heard", "a", "b"], 1)] 0) :=
  pe_imp (pe_callR (E := E0) G (hr.mono hk4) hk hg hm passX ha (by decide) hs hpl) fun σ H Q q => by
    refine heard_of (zs := ["a", "b"]) (ys := ["a", "b"]) (by show 2 ≤ 50; decide) (by simp) (fun y hy => ?_) (fun j hj => ?_) (fun us hp hs => ?_) fun p H1 s1 n1 hf => q p H1 s1 n1 hf
    · have : ∀ y ∈ (["a", "b"] : List Str), y.length ≤ 8 := by decide +kernel
      exact Nat.le_trans (this y hy) (by show 8 ≤ sizeLine; decide)
    · have e : ∀ j, j < 2 → badAt ((["a", "b"] : List Str).map V.str) j = false := by decide +kernel
      exact e j hj
    · rcases perm_two hp with rfl | rfl
      · rfl
      · have : sortedS ["b", "a"] = false := by decide +kernel
        rw [this] at hs
        cases hs
/-- form + integer -/
theorem pe_addI {X : Cx} {e1 e2 : Expr} {pos : Pos} {ps : Prs} {r i : Int} {k : Nat} (F : FOp X.prog X.w X.K X.mg X.base C CF) (hr : Room k X.A) (hk : 5 ≤ k) (h1 : PE X e1 (tForm X.K C ps r)) (h2 : PE X e2 (tC (.int i))) (c : canB ps = true) (hl : ps.length ≤ 1000) : PE X (.BinOp e1 .Add e2 pos) (tForm X.K C ps (r + i)) :=
  pe_imp (pe_op (op_addL F (hr.mono hk) passX) h1 h2) fun σ H Q q p H1 s1 n1 hf => by
    refine ownL_int F (by simp) hf (lin_int hf (canon_of c) hl fun x H2 rs s2 nx hx cx gx _ => ?_)
    have e : rs = ps := cx.uniq (canon_of c) fun t => by rw [gx t]; omega
    subst e
    have e2 : 1 * r + 1 * i = r + i := by omega
    rw [e2] at hx
    exact q x H2 (s1.trans s2) (s1.free nx) hx
/-- integer * form -/
theorem pe_mulI {X : Cx} {e1 e2 : Expr} {pos : Pos} {ps : Prs} {r i : Int} {k : Nat} (F : FOp X.prog X.w X.K X.mg X.base C CF) (hr : Room k X.A) (hk : 5 ≤ k) (h1 : PE X e1 (tC (.int i))) (h2 : PE X e2 (tForm X.K C ps r)) (hl : ps.length ≤ 1000) (b1 : -2 ^ 64 < i) (b2 : i < 2 ^ 64) : PE X (.BinOp e1 .Mult e2 pos) (tForm X.K C (tmP ps i) (r * i)) :=
  pe_imp (pe_op (op_mulR F (hr.mono hk) passX) h1 h2) fun σ H Q q p H1 s1 n1 hf => by
    refine ownR_int F (by simp) hf (times_int hf hl b1 b2 fun x H2 s2 nx hx => ?_)
    exact q x H2 (s1.trans s2) (s1.free nx) hx
theorem pe_cst {X : Cx} {pos p : Pos} {nm x : Str} {k : Nat} (D : Dn X.prog X.w X.K X.mg X.base CX0 4 nm [] (spConst X.K C x)) (hr : Room k X.A) (hk : 4 ≤ k) (hg : Gl X nm) (hd : (nm == ("__debug__" : Str)) = false := by decide) : PE X (.Call (.Name nm p) [] [] pos) (tForm X.K C [([x], 1)] 0) :=
  pe_imp (pe_d0 (E := E0) D hr hk hg pass0 hd) fun σ H Q q => ⟨rfl, fun p H' s n f => q p H' s n f⟩
theorem pe_trm {X : Cx} {e : Expr} {pos p : Pos} {nm par z : Str} {k : Nat} {t : Str} (D : Dn X.prog X.w X.K X.mg X.base (L2.CX X.prog X.w) 5 nm [par] (spTerm X.K C CB t)) (hr : Room k X.A) (hk : 5 ≤ k) (hg : Gl X nm) (he : PA X [e] (tCons (tC (.str z)) tNil)) (hz : z.length ≤ 8) (hw : isWS z = true) (hd : (nm == ("__debug__" : Str)) = false := by decide)
    (hs : starEach (e :: []) X.env = (false, eval e X.env) :: starEach [] X.env := by rfl) (hpl : (backTo pos (starEach [] X.env)).any (·.1) = false := by rfl) : PE X (.Call (.Name nm p) [e] [] pos) (tForm X.K C [([t, z], 1)] 0) :=
  pe_imp (pe_d (E := E0) D hr hk hg passX he hd hs hpl) fun σ H Q q => ⟨_, rfl, .str (Nat.le_trans hz (by show 8 ≤ sizeLine; decide)), fun y e _ p H' s n f => by cases e; exact q p H' s n f, fun e => by
    have e2 : isWS z = false := e
    rw [hw] at e2
    cases e2⟩
end
end Mv
namespace Mv
open PySem PySem.Spec PySem.W PyProof.Rows L2 NdefX
/-! ### the head's facts: the kit's Hook, the statics beside, and the __init__ of error classes (functions with a cell) -/
/-! ### the addresses within reach, each once: those that were seen are the bits of a number -/
def seenB (m a : Nat) : Bool := Nat.beq (Nat.mod (Nat.shiftRight m a) 2) 1
def addB {β : Type} : List Addr → Nat → List Addr → (Nat → List Addr → β) → β
  | [], m, nw, k => k m nw
  | a :: r, m, nw, k => HandSHeadRun.frNat a fun a => match seenB m a with
    | true => addB r m nw k
    | false => HandSHeadRun.frNat (Nat.lor m (Nat.shiftLeft 1 a)) fun m => addB r m (a :: nw) k
def refsB (g : Addr → Option Obj) : List Addr → List Addr
  | [] => []
  | a :: r => match g a with
    | some o => He.refsD o ++ refsB g r
    | none => refsB g r
def growB (g : Addr → Option Obj) : Nat → Nat → List Addr → List Addr → List Addr
  | 0, _, _, acc => acc
  | n + 1, m, fr, acc => addB (refsB g fr) m [] fun m nw => growB g n m nw (acc ++ nw)
def asB (g : Addr → Option Obj) (n : Nat) : List Addr := growB g n (Nat.shiftLeft 1 mainGlobals) [mainGlobals] [mainGlobals]
def frM (g : Addr → Option Obj) (n : Nat) : Frag := He.frT g (cStatics :: asB g n)
abbrev FnC : Type := Option (Str × Str × Arguments × FuncBody × Scope × Addr × Value × Addr)
/-- an error class of one field: its name, its field; its __init__: name, qualified name, parameters, body, scope -/
structure ErrD where
  cls : Str
  fld : Str
  qual : Str
  params : Arguments
  body : List Stmt
  scope : Scope
def ErrD.fn (d : ErrD) (K : Frag) : Addr := He.ma K (He.ga K d.cls) "__init__"
def fnC (K : Frag) (f : Addr) : FnC := match K.lookup f with
  | some ⟨_, _, .func fd, _⟩ => some (fd.name, fd.qualname, fd.params, fd.body, fd.scope, fd.globals, fd.defaults, fd.builtins)
  | _ => none
def ErrD.val (d : ErrD) : FnC := some ("__init__", d.qual, d.params, .stmts d.body, d.scope, mainGlobals, .none, builtinsNs)
def cellB (K : Frag) (cc C : Addr) : Bool := match K.lookup cc with
  | some ⟨_, _, .cell (some (.ref c)), _⟩ => c == C
  | _ => false
def fileB (K : Frag) (cda : Addr) (file : Str) : Bool := match K.lookup cda with
  | some ⟨_, _, .fields vs, _⟩ => (match (vs[2]? : Option Value) with
    | some (.str f _) => f == file
    | _ => false)
  | _ => false
def clo2 (K : Frag) (C : Addr) (qual file : Str) (cl : List (Str × Addr)) (cv : Value) : Bool := match cl, cv with
  | [(x, cc)], .ref cda => decide (x = "__class__") && (cellB K cc C && (codeIn K (.ref cda) qual && fileB K cda file))
  | _, _ => false
def closB (K : Frag) (f C : Addr) (qual file : Str) : Bool := match K.lookup f with
  | some ⟨_, _, .func fd, _⟩ => clo2 K C qual file fd.closure fd.code
  | _ => false
theorem clo2_ok {K : Frag} {C : Addr} {qual file : Str} {cl : List (Str × Addr)} {cv : Value} (h : clo2 K C qual file cl cv = true) : ∃ cc cda, cl = [(("__class__" : Str), cc)] ∧ cv = Value.ref cda ∧ cellB K cc C = true ∧ codeIn K (.ref cda) qual = true ∧ fileB K cda file = true := by
  unfold clo2 at h
  split at h
  · rename_i x cc cda
    obtain ⟨k1, k2⟩ := He.ba h
    obtain ⟨k3, k4⟩ := He.ba k2
    obtain ⟨k5, k6⟩ := He.ba k4
    exact ⟨cc, cda, by rw [of_decide_eq_true k1], rfl, k3, k5, k6⟩
  · cases h
/-- an error class's object -/
def exClsB (K : Frag) (C : Addr) : Bool := match K.lookup C with
  | some ⟨.type "type", _, .cls cd, sl⟩ => (match cd.mro, sl.toList with
    | .ref C' :: bm, [_, _, _, _, some (.builtin n), _] => C' == C && (n == "ValueError.__new__" && (!cd.hasDel && (cd.hasDict && PySem.HandSPX.refsVE bm)))
    | _, _ => false)
  | _ => false
def oB1 (a b : Option Bool) : Bool := decide (a = b)
def ErrD.ok (d : ErrD) (file : Str) (K : Frag) : Bool :=
  let C := He.ga K d.cls
  exClsB K C && (He.eqO (findIn K (.ref C) "__setattr__") (some (some (.builtin "object.__setattr__"))) && (oB1 (subIn K (.ref C) (.type "BaseException")) (some true) && (decide (typeIn K (.ref C) = some (.type "type")) && (keepIn K (.ref C) &&
  (He.eqO (findIn K (.ref C) "__init__") (some (some (.ref (d.fn K)))) && (decide (typeIn K (.ref (d.fn K)) = some (.type "function")) && (He.eqO (findIn K (.ref C) d.fld) (some none) && (He.eqO (findIn K (.ref C) "__getattribute__") (some (some (.builtin "BaseException.__getattribute__"))) &&
  (He.eqO (findIn K (.ref C) "__getattr__") (some none) && (hasDictIn K C && (oB1 (exmOne K (.ref C) (.ref C)) (some true) && (closB K (d.fn K) C d.qual file && (oB1 (mroIn K C (.ref C)) (some true) &&
  (He.eqO (ks_superIn K C C "__init__") (some (some (.builtin "ValueError.__init__"))) && (oB1 (subIn K (.ref C) (.type "ValueError")) (some true) && He.eqO (nsIn K cStatics "thirdparty.any") (some none))))))))))))))))
theorem exCls_of {K : Frag} {C : Addr} (q : exClsB K C = true) : (∃ nm q N bs bm sn sub ab col dd k0 k1 k2 k3 k5, K.lookup C = some (excClassObj nm q C N bs bm true sn sub ab col dd k0 k1 k2 k3 k5 "ValueError.__new__") ∧ PySem.HandSPX.refsVE bm = true) ∧ ∃ cd, clsIn K C = some cd := by
  unfold exClsB at q
  split at q
  · rename_i dd cd sl ho
    split at q
    · rename_i C' bm k0 k1 k2 k3 n k5 hm hs
      simp only [Bool.and_eq_true, beq_iff_eq, Bool.not_eq_true'] at q
      obtain ⟨rfl, rfl, hdel, hdi, ht⟩ := q
      refine ⟨?_, cd, by unfold clsIn; rw [ho]⟩
      obtain ⟨nm, bs, mro, ns, qn, hd, sn, sub, ab, col, del⟩ := cd
      dsimp only at hm hdel hdi
      subst hm hdel hdi
      have hsl : sl = #[k0, k1, k2, k3, some (.builtin "ValueError.__new__"), k5] := by
        obtain ⟨l⟩ := sl
        simp only at hs
        rw [hs]
      subst hsl
      exact ⟨nm, qn, ns, bs, bm, sn, sub, ab, col, dd, k0, k1, k2, k3, k5, ho, ht⟩
    · cases q
  · cases q
theorem closB_ok {K : Frag} {f C : Addr} {qual file : Str} {d : ErrD} (h : closB K f C qual file = true) (e : fnC K f = d.val) (hq : d.qual = qual) :
    ∃ oc od osl kV doc pm an ct cc cda, K.lookup f = some ⟨oc, od, .func (fnX "__init__" qual d.params d.body d.scope [("__class__", cc)] .none kV doc pm an (.ref cda) ct), osl⟩ ∧ codeIn K (.ref cda) qual = true ∧
      (∃ cl cld csl, K.lookup cc = some ⟨cl, cld, .cell (some (.ref C)), csl⟩) ∧ ∃ ccl cdd vs ccs tf, K.lookup cda = some ⟨ccl, cdd, .fields vs, ccs⟩ ∧ vs[2]? = some (Value.str file tf) := by
  unfold closB at h
  unfold fnC at e
  cases q : K.lookup f with
  | none =>
    rw [q] at h
    cases h
  | some o =>
    obtain ⟨oc, od, dt, osl⟩ := o
    rw [q] at h e
    cases dt with
    | func fd =>
      obtain ⟨n1, n2, n3, n4, n5, n6, n7, n8, n9, n10, n11, n12, n13, n14, n15⟩ := fd
      have e2 : (some (n1, n2, n3, n4, n5, n6, n8, n15) : FnC) = some (("__init__" : Str), d.qual, d.params, FuncBody.stmts d.body, d.scope, mainGlobals, Value.none, builtinsNs) := e
      simp only [Option.some.injEq, Prod.mk.injEq] at e2
      obtain ⟨h1, h2, h3, h4, h5, h6, h7, h8⟩ := e2
      subst h1 h2 h3 h4 h5 h6 h7 h8
      have h' : clo2 K C qual file n7 n13 = true := h
      obtain ⟨cc, cda, e7, e13, k3, k5, k6⟩ := clo2_ok h'
      subst e7 e13 hq
      refine ⟨oc, od, osl, n9, n10, n11, n12, n14, cc, cda, rfl, k5, ?_, ?_⟩
      · unfold cellB at k3
        split at k3
        · rename_i cl cld c csl hz
          rw [beq_iff_eq.mp k3] at hz
          exact ⟨cl, cld, csl, hz⟩
        · cases k3
      · unfold fileB at k6
        split at k6
        · rename_i ccl cdd vs ccs hz
          split at k6
          · rename_i f tf hv
            rw [beq_iff_eq.mp k6] at hv
            exact ⟨ccl, cdd, vs, ccs, tf, hz, hv⟩
          · cases k6
        · cases k6
    | _ => cases h
/-- the facts of an error class -/
theorem err_of {P : Program} {w : World} {K : Frag} {mg : Str → Option Value} {base : Heap} {d : ErrD} {txt par : Str} {ar : Arg} {p0 p1 p2 p3 p4 p5 q1 q2 q3 q4 : Pos} {j : Nat} (h : d.ok P.main.file K = true) (e : fnC K (d.fn K) = d.val) (hg : mg d.cls = some (.ref (He.ga K d.cls))) (sup : mg "super" = none)
    (top : (P.main.scope.names.lookup ("super" : Str)).isSome = false)
    (hbody : d.body = [.Expr (.Call (.Attribute (.Call (.Name "super" p0) [] [] p1) "__init__" p2) [.Constant (.str txt) j p3] [] p4) p5, .Assign [.Attribute (.Name "self" q1) d.fld q2] (.Name par q3) q4])
    (S : NScope ["self", par, "__class__"] ["self", par] ["__class__"] d.scope) (hks : d.scope.names.lookup ("super" : Str) = some .globalImplicit) (hpos : (p2.endLine == p4.line) = true) (hp : (d.params.posonlyargs ++ d.params.args).head? = some ar) (har : ar.arg = "self") (hdb : (par == ("__debug__" : Str)) = false) (hcl : (par == ("__classdict__" : Str)) = false)
    (hbind : ∀ (kV doc pm : Value) (an : Option Addr) (cl : List (Str × Addr)) (cdv ct : Value) (us : List Value), us.length = 2 → bindArgs (fnX "__init__" d.qual d.params d.body d.scope cl .none kV doc pm an cdv ct) ⟨us, []⟩ = pure ((["self", par] : List Str).zip us)) : Err P w K mg base d.cls (He.ga K d.cls) d.fld := by
  unfold ErrD.ok at h
  obtain ⟨c1, h⟩ := He.ba h
  obtain ⟨c2, h⟩ := He.ba h
  obtain ⟨c3, h⟩ := He.ba h
  obtain ⟨c4, h⟩ := He.ba h
  obtain ⟨c5, h⟩ := He.ba h
  obtain ⟨c6, h⟩ := He.ba h
  obtain ⟨c7, h⟩ := He.ba h
  obtain ⟨c8, h⟩ := He.ba h
  obtain ⟨c9, h⟩ := He.ba h
  obtain ⟨c10, h⟩ := He.ba h
  obtain ⟨c11, h⟩ := He.ba h
  obtain ⟨c12, h⟩ := He.ba h
  obtain ⟨c13, h⟩ := He.ba h
  obtain ⟨c14, h⟩ := He.ba h
  obtain ⟨c15, h⟩ := He.ba h
  obtain ⟨c16, c17⟩ := He.ba h
  obtain ⟨hcls, hcd⟩ := exCls_of c1
  obtain ⟨oc, od, osl, kV, doc, pm, an, ct, cc, cda, lk, hcode, hcell, ccl, cdd, vs, ccs, tf, hco, hv⟩ := closB_ok c13 e rfl
  have T : OexC K (He.ga K d.cls) := ⟨hcls, He.eqO_ok c2, of_decide_eq_true c3, of_decide_eq_true c4, c5⟩
  have D : SupK P K mg (He.ga K d.cls) cc cda := ⟨T, ⟨ccl, cdd, vs, ccs, _, tf, hco, hv, beq_self_eq_true _⟩, hcell, hcd, of_decide_eq_true c14, sup, top, He.eqO_ok c15, of_decide_eq_true c16, He.eqO_ok c17⟩
  rw [hbody] at lk
  have G := init1 (P := P) (w := w) (mg := mg) (base := base) (CX := CX0) D (He.eqO_ok c8) lk hcode S hks hpos hp har hdb hcl
  refine ⟨hg, T, ⟨_, _, _, He.eqO_ok c6, of_decide_eq_true c7, G.mono (by decide), .all fun us hl => ?_⟩, He.eqO_ok c8, He.eqO_ok c9, He.eqO_ok c10, c11, of_decide_eq_true c12⟩
  have q := hbind kV doc pm an [("__class__", cc)] (.ref cda) ct us hl
  rw [hbody] at q
  exact q
end Mv
namespace Mv
open PySem PySem.Spec PySem.W PyProof.Rows L2
abbrev AlM : Type := He.AlX × List FnC
def obsM (n : Nat) (fa : List He.Fa) (fn : List He.DefD) (ts : List He.Tab) (tf : List He.Defn) (ex : Frag → Bool) (es : List ErrD) (g : Addr → Option Obj) : AlM :=
  ((He.obsT fa fn ts (frM g n), ex (frM g n) && He.tabsB g tf (frM g n)), es.map fun d => fnC (frM g n) (d.fn (frM g n)))
def valM (fn : List He.DefD) (ts : List He.Tab) (es : List ErrD) (w : World) : AlM := ((He.valT fn ts w, true), es.map ErrD.val)
structure SaysM (fa : List He.Fa) (fn : List He.DefD) (ts : List He.Tab) (tf : List He.Defn) (ex : Frag → Bool) (es : List ErrD) (w : World) (h : Heap) (K : Frag) : Prop where
  x : He.SaysX fa fn ts tf ex w h K
  e : es.map (fun d => fnC K (d.fn K)) = es.map ErrD.val
theorem saysM_of {n : Nat} {fa : List He.Fa} {fn : List He.DefD} {ts : List He.Tab} {tf : List He.Defn} {ex : Frag → Bool} {es : List ErrD} {w : World} {h : Heap} (e : obsM n fa fn ts tf ex es h.get? = valM fn ts es w) : SaysM fa fn ts tf ex es w h (frM h.get? n) := by
  have e1 : He.obsT fa fn ts (frM h.get? n) = He.valT fn ts w := congrArg (fun z : AlM => z.1.1) e
  have e2 : (ex (frM h.get? n) && He.tabsB h.get? tf (frM h.get? n)) = true := congrArg (fun z : AlM => z.1.2) e
  have e3 : es.map (fun d => fnC (frM h.get? n) (d.fn (frM h.get? n))) = es.map ErrD.val := congrArg (fun z : AlM => z.2) e
  obtain ⟨h1, h2⟩ := He.ba e2
  have key : ∀ p ∈ tf, codeHdIn (frM h.get? n) (He.cT (frM h.get? n) p).1 (He.cT (frM h.get? n) p).2 = true ∧ ∃ o, h.get? (He.cT (frM h.get? n) p).2 = some o ∧ He.emptyTab o = true := fun p hp => by
    obtain ⟨h3, h4⟩ := He.ba (List.all_eq_true.mp h2 p hp)
    refine ⟨h3, ?_⟩
    cases q : h.get? (He.cT (frM h.get? n) p).2 with
    | none =>
      rw [q] at h4
      cases h4
    | some o =>
      rw [q] at h4
      exact ⟨o, rfl, h4⟩
  refine ⟨⟨e1, h1, fun p hp => (key p hp).1, fun p hp => ?_, fun p hp => ?_⟩, e3⟩
  · obtain ⟨_, o, q, z⟩ := key p hp
    exact He.frT_none q z
  · obtain ⟨_, o, q, z⟩ := key p hp
    rw [q, He.emptyTab_eq z]
def hookM (n : Nat) (fa : List He.Fa) (fn : List He.DefD) (ts : List He.Tab) (tf : List He.Defn) (ex : Frag → Bool) (es : List ErrD) : Hook where
  α := AlM
  obs := fun s => obsM n fa fn ts tf ex es s.heap.get?
  val := fun w => valM fn ts es w
  says := fun w h => ∃ K : Frag, K.In h ∧ SaysM fa fn ts tf ex es w h K
  of := fun _ _ e => ⟨_, He.frT_in, saysM_of e⟩
  keeps := fun _ _ _ ⟨K, hK, c⟩ k => ⟨K, Frag.In.keeps hK k, ⟨⟨c.x.t, c.x.more, c.x.hd, c.x.out, fun p hp => k _ _ (c.x.empty p hp)⟩, c.e⟩⟩
theorem obsM_eq {n : Nat} {fa : List He.Fa} {fn : List He.DefD} {ts : List He.Tab} {tf : List He.Defn} {ex : Frag → Bool} {es : List ErrD} {g : Addr → Option Obj} {s : Shared} (h : ∀ a, g a = s.heap.get? a) : obsM n fa fn ts tf ex es g = (hookM n fa fn ts tf ex es).obs s := by
  have e : g = s.heap.get? := funext h
  rw [e] <;> rfl
section
variable {fa : List He.Fa} {fn : List He.DefD} {ts : List He.Tab} {tf : List He.Defn} {ex : Frag → Bool} {es : List ErrD} {w : World} {h : Heap} {K : Frag}
theorem SaysM.err (c : SaysM fa fn ts tf ex es w h K) {d : ErrD} (hd : d ∈ es) : fnC K (d.fn K) = d.val := by
  obtain ⟨i, hi, e⟩ := List.mem_iff_getElem.mp hd
  have e2 : (es.map fun d => fnC K (d.fn K))[i]? = (es.map ErrD.val)[i]? := by rw [c.e]
  rw [List.getElem?_map, List.getElem?_map, List.getElem?_eq_getElem hi, e] at e2
  exact Option.some.inj e2
theorem SaysM.fact (c : SaysM fa fn ts tf ex es w h K) {f : He.Fa} (hf : f ∈ fa) : f.ok K = true := c.x.t.d.facts hf
theorem SaysM.glo (c : SaysM fa fn ts tf ex es w h K) {mg : Str → Option Value} (X : K.In h) (G : h.Ns mainGlobals mg) {x : Str} (hf : He.Fa.glo x ∈ fa) : mg x = some (.ref (He.ga K x)) := He.glo_ok X G (c.fact hf)
theorem SaysM.free (c : SaysM fa fn ts tf ex es w h K) {mg : Str → Option Value} (X : K.In h) (G : h.Ns mainGlobals mg) {x : Str} (hf : He.Fa.free x ∈ fa) : mg x = none := He.free_ok X G (c.fact hf)
/-- a def of no defaults -/
def dD (a : Str × Option Str) (x q : Str) (st : Stmt) : He.DefD := ⟨a, x, q, defArgs st, defBody st, defScope st, [], []⟩
theorem SaysM.dfn (c : SaysM fa fn ts tf ex es w h K) {a : Str × Option Str} {x q : Str} {st : Stmt} (hd : dD a x q st ∈ fn) : ∃ fd, Fun K x q st (He.fAd K a) fd ∧ FunD K x q (defArgs st) (defBody st) (defScope st) [] [] (He.fAd K a) fd := by
  obtain ⟨fd, F⟩ := c.x.t.d.defs hd
  have F' : FunD K x q (defArgs st) (defBody st) (defScope st) [] [] (He.fAd K a) fd := F
  refine ⟨fd, ?_, F'⟩
  obtain ⟨⟨oc, od, dV, kV, doc, pm, an, cdv, ct, osl, ef, lk, hcd, dfl, kwd⟩, kp⟩ := F'
  rcases dfl with ⟨_, e⟩ | ⟨z, _⟩
  · subst e
    exact ⟨⟨oc, od, kV, doc, pm, an, cdv, ct, osl, ef, lk, hcd⟩, kp⟩
  · exact absurd rfl z
end
end Mv
namespace Mv
open PySem PySem.Spec PySem.W PyProof.Rows L2 NdefX
/-! ### the facts of error classes whose objects are kept -/
section
variable {P : Program} {w : World} {K : Frag} {mg : Str → Option Value} {base : Heap} {C fI cc cda : Addr}
/-- __init__(self): super().__init__(a text) -/
theorem init0 {CX : CXT} {qual txt : Str} {params : Arguments} {scope : Scope} {ar : Arg} {p0 p1 p2 p3 p4 p5 : Pos} {j : Nat} {kV doc pm ct oc : Value} {an od : Option Addr} {osl : Array (Option Value)}
    (D : SupK P K mg C cc cda)
    (lk : K.lookup fI = some ⟨oc, od, .func (fnX "__init__" qual params [.Expr (.Call (.Attribute (.Call (.Name "super" p0) [] [] p1) "__init__" p2) [.Constant (.str txt) j p3] [] p4) p5] scope [("__class__", cc)] .none kV doc pm an (.ref cda) ct), osl⟩)
    (hcd : codeIn K (.ref cda) qual = true) (S : NScope ["self", "__class__"] ["self"] ["__class__"] scope) (hks : scope.names.lookup ("super" : Str) = some .globalImplicit)
    (hpos : (p2.endLine == p4.line) = true) (hp : (params.posonlyargs ++ params.args).head? = some ar) (har : ar.arg = "self") :
    FnOk P w K mg base CX 1 fI (fnX "__init__" qual params [.Expr (.Call (.Attribute (.Call (.Name "super" p0) [] [] p1) "__init__" p2) [.Constant (.str txt) j p3] [] p4) p5] scope [("__class__", cc)] .none kV doc pm an (.ref cda) ct) ["self"] (spErr0 C) := by
  refine sup_of (k := 0) D lk hcd S hks hpos hp har (fun vs H Q E h => ?_) (fun A outer s H vs Q E F hF hr h => ?_)
  · obtain ⟨a, rfl, _⟩ := h
    rfl
  · obtain ⟨a, rfl, ha, k⟩ := h
    exact ⟨⟨a, rfl, ha⟩, _, pss_nil, k⟩
/-- what the head's facts say of an error class -/
theorem errS_of {d : ErrD} (h : d.ok P.main.file K = true) (e : fnC K (d.fn K) = d.val) (sup : mg "super" = none) (top : (P.main.scope.names.lookup ("super" : Str)).isSome = false) :
    OexC K (He.ga K d.cls) ∧ findIn K (.ref (He.ga K d.cls)) "__init__" = some (some (.ref (d.fn K))) ∧ typeIn K (.ref (d.fn K)) = some (.type "function") ∧ findIn K (.ref (He.ga K d.cls)) d.fld = some none ∧
    ∃ oc od osl kV doc pm an ct cc cda, K.lookup (d.fn K) = some ⟨oc, od, .func (fnX "__init__" d.qual d.params d.body d.scope [("__class__", cc)] .none kV doc pm an (.ref cda) ct), osl⟩ ∧ codeIn K (.ref cda) d.qual = true ∧ SupK P K mg (He.ga K d.cls) cc cda := by
  unfold ErrD.ok at h
  obtain ⟨c1, h⟩ := He.ba h
  obtain ⟨c2, h⟩ := He.ba h
  obtain ⟨c3, h⟩ := He.ba h
  obtain ⟨c4, h⟩ := He.ba h
  obtain ⟨c5, h⟩ := He.ba h
  obtain ⟨c6, h⟩ := He.ba h
  obtain ⟨c7, h⟩ := He.ba h
  obtain ⟨c8, h⟩ := He.ba h
  obtain ⟨c9, h⟩ := He.ba h
  obtain ⟨c10, h⟩ := He.ba h
  obtain ⟨c11, h⟩ := He.ba h
  obtain ⟨c12, h⟩ := He.ba h
  obtain ⟨c13, h⟩ := He.ba h
  obtain ⟨c14, h⟩ := He.ba h
  obtain ⟨c15, h⟩ := He.ba h
  obtain ⟨c16, c17⟩ := He.ba h
  obtain ⟨hcls, hcd⟩ := exCls_of c1
  obtain ⟨oc, od, osl, kV, doc, pm, an, ct, cc, cda, lk, hcode, hcell, ccl, cdd, vs, ccs, tf, hco, hv⟩ := closB_ok c13 e rfl
  have T : OexC K (He.ga K d.cls) := ⟨hcls, He.eqO_ok c2, of_decide_eq_true c3, of_decide_eq_true c4, c5⟩
  have D : SupK P K mg (He.ga K d.cls) cc cda := ⟨T, ⟨ccl, cdd, vs, ccs, _, tf, hco, hv, beq_self_eq_true _⟩, hcell, hcd, of_decide_eq_true c14, sup, top, He.eqO_ok c15, of_decide_eq_true c16, He.eqO_ok c17⟩
  exact ⟨T, He.eqO_ok c6, of_decide_eq_true c7, He.eqO_ok c8, oc, od, osl, kV, doc, pm, an, ct, cc, cda, lk, hcode, D⟩
theorem errV_of {d : ErrD} {txt par : Str} {ar : Arg} {p0 p1 p2 p3 p4 p5 q1 q2 q3 q4 : Pos} {j : Nat} (h : d.ok P.main.file K = true) (e : fnC K (d.fn K) = d.val) (hg : mg d.cls = some (.ref (He.ga K d.cls))) (sup : mg "super" = none)
    (top : (P.main.scope.names.lookup ("super" : Str)).isSome = false)
    (hbody : d.body = [.Expr (.Call (.Attribute (.Call (.Name "super" p0) [] [] p1) "__init__" p2) [.Constant (.str txt) j p3] [] p4) p5, .Assign [.Attribute (.Name "self" q1) d.fld q2] (.Name par q3) q4])
    (S : NScope ["self", par, "__class__"] ["self", par] ["__class__"] d.scope) (hks : d.scope.names.lookup ("super" : Str) = some .globalImplicit) (hpos : (p2.endLine == p4.line) = true) (hp : (d.params.posonlyargs ++ d.params.args).head? = some ar) (har : ar.arg = "self") (hdb : (par == ("__debug__" : Str)) = false) (hcl : (par == ("__classdict__" : Str)) = false)
    (hbind : ∀ (kV doc pm : Value) (an : Option Addr) (cl : List (Str × Addr)) (cdv ct : Value) (u v : Value), bindArgs (fnX "__init__" d.qual d.params d.body d.scope cl .none kV doc pm an cdv ct) ⟨[u, v], []⟩ = pure [(("self" : Str), u), (par, v)])
    (hbindK : ∀ (kV doc pm : Value) (an : Option Addr) (cl : List (Str × Addr)) (cdv ct : Value) (u v : Value), bindArgs (fnX "__init__" d.qual d.params d.body d.scope cl .none kV doc pm an cdv ct) ⟨[u], [(par, v)]⟩ = pure [(("self" : Str), u), (par, v)]) :
    ErrV P w K mg base d.cls (He.ga K d.cls) d.fld par ∧ findIn K (.ref (He.ga K d.cls)) d.fld = some none := by
  obtain ⟨T, iC, tI, noF, oc, od, osl, kV, doc, pm, an, ct, cc, cda, lk, hcode, D⟩ := errS_of (mg := mg) h e sup top
  rw [hbody] at lk hbind hbindK
  have G := init1 (P := P) (w := w) (mg := mg) (base := base) (CX := CX0) D noF lk hcode S hks hpos hp har hdb hcl
  exact ⟨⟨hg, T, _, _, _, iC, tI, G.mono (by decide), fun s u v => BindsTo.of_eq (hbind kV doc pm an [("__class__", cc)] (.ref cda) ct u v), fun s u v => BindsTo.of_eq (hbindK kV doc pm an [("__class__", cc)] (.ref cda) ct u v)⟩, noF⟩
theorem errV0_of {d : ErrD} {txt : Str} {ar : Arg} {p0 p1 p2 p3 p4 p5 : Pos} {j : Nat} (h : d.ok P.main.file K = true) (e : fnC K (d.fn K) = d.val) (hg : mg d.cls = some (.ref (He.ga K d.cls))) (sup : mg "super" = none)
    (top : (P.main.scope.names.lookup ("super" : Str)).isSome = false)
    (hbody : d.body = [.Expr (.Call (.Attribute (.Call (.Name "super" p0) [] [] p1) "__init__" p2) [.Constant (.str txt) j p3] [] p4) p5])
    (S : NScope ["self", "__class__"] ["self"] ["__class__"] d.scope) (hks : d.scope.names.lookup ("super" : Str) = some .globalImplicit) (hpos : (p2.endLine == p4.line) = true) (hp : (d.params.posonlyargs ++ d.params.args).head? = some ar) (har : ar.arg = "self")
    (hbind : ∀ (kV doc pm : Value) (an : Option Addr) (cl : List (Str × Addr)) (cdv ct : Value) (u : Value), bindArgs (fnX "__init__" d.qual d.params d.body d.scope cl .none kV doc pm an cdv ct) ⟨[u], []⟩ = pure [(("self" : Str), u)]) :
    ErrV0 P w K mg base d.cls (He.ga K d.cls) := by
  obtain ⟨T, iC, tI, noF, oc, od, osl, kV, doc, pm, an, ct, cc, cda, lk, hcode, D⟩ := errS_of (mg := mg) h e sup top
  rw [hbody] at lk hbind
  have G := init0 (P := P) (w := w) (mg := mg) (base := base) (CX := CX0) D lk hcode S hks hpos hp har
  exact ⟨hg, T, _, _, _, iC, tI, G.mono (by decide), fun s u => BindsTo.of_eq (hbind kV doc pm an [("__class__", cc)] (.ref cda) ct u)⟩
end
end Mv
/-! Rule.__eq__ -/
namespace Mv
open PySem PySem.Spec PyProof.Rows L2
theorem r5_says (x y z w s : V) : (rfl5 x y z w s).lookup ("says" : Str) = some s := by
  unfold rfl5
  rw [lookup_putF, if_pos rfl]
theorem r5_when (x y z w s : V) : (rfl5 x y z w s).lookup ("when" : Str) = some w := by
  unfold rfl5 rfl4
  rw [lookup_putF, if_neg (by decide +kernel), lookup_putF, if_pos rfl]
theorem r5_end (x y z w s : V) : (rfl5 x y z w s).lookup ("end" : Str) = some z := by
  unfold rfl5 rfl4 rfl3
  rw [lookup_putF, if_neg (by decide +kernel), lookup_putF, if_neg (by decide +kernel), lookup_putF, if_pos rfl]
theorem r5_start (x y z w s : V) : (rfl5 x y z w s).lookup ("start" : Str) = some y := by
  unfold rfl5 rfl4 rfl3 rfl2
  rw [lookup_putF, if_neg (by decide +kernel), lookup_putF, if_neg (by decide +kernel), lookup_putF, if_neg (by decide +kernel), lookup_putF, if_pos rfl]
theorem r5_name (x y z w s : V) : (rfl5 x y z w s).lookup ("name" : Str) = some x := by
  unfold rfl5 rfl4 rfl3 rfl2 rfl1
  rw [lookup_putF, if_neg (by decide +kernel), lookup_putF, if_neg (by decide +kernel), lookup_putF, if_neg (by decide +kernel), lookup_putF, if_neg (by decide +kernel), lookup_putF, if_pos rfl]
/-- a rule -/
structure RuleAt (K : PySem.W.Frag) (CR : Addr) (H : Hp) (p : Addr) (x y z : Str) (ws : List V) (ss : List Str) : Prop where
  ob : ∃ dx tw ts, H p = some (.ins CR dx (rfl5 (.str x) (.str y) (.str z) (.ref tw) (.ref ts))) ∧ SqT K H tw ws ∧ SqT K H ts (ss.map V.str)
theorem RuleAt.same {K : PySem.W.Frag} {CR : Addr} {H H' : Hp} {p : Addr} {x y z : Str} {ws : List V} {ss : List Str} (s : Same H H') (h : RuleAt K CR H p x y z ws ss) : RuleAt K CR H' p x y z ws ss := by
  obtain ⟨dx, tw, ts, h1, h2, h3⟩ := h.ob
  exact ⟨dx, tw, ts, s _ _ h1, same_sqT s h2, same_sqT s h3⟩
section
variable {P : Program} {w : World} {K : PySem.W.Frag} {mg : Str → Option Value} {base : Heap} {CR : Addr}
theorem ty_rule {f : Addr} {H : Hp} {p : Addr} {x y z : Str} {ws : List V} {ss : List Str} (T : RT K mg CR) (U : FQ K mg CR f) (h : RuleAt K CR H p x y z ws ss) : TyX K H (.ref p) (.ref CR) := by
  obtain ⟨dx, tw, ts, h1, _⟩ := h.ob
  exact .base (.ins h1 T.cl U.ca U.cn U.ct U.cm)
end
end Mv
/-! _is_promise; the all of a comprehension over pairs of terms -/
namespace Mv
open PySem PySem.Spec PyProof.Rows L2
abbrev sIsProm : Stmt := top 43
def isP (ps : Prs) : Bool := ps.all fun p => ntV p.1
/-- what may be asked whether it is a promise -/
def KnP (K : PySem.W.Frag) (CC : Addr) : KnG := fun H x b =>
  (∃ p ps c, x = .ref p ∧ CmpAt K CC H p ps c ∧ (∀ q ∈ ps, q.1 ≠ []) ∧ ps.length ≤ 900 ∧ b = isP ps) ∨ (b = false ∧ ∃ t, TyX K H x t ∧ PySem.W.kitOne K t (.ref CC) = some false)
abbrev nIP : List Str := ["thing", "term", "_"]
theorem scIP : FnScope nIP ["thing"] (defScope sIsProm) := ⟨rfl, rfl, rfl, by decide +kernel, rfl, by decide +kernel, by decide +kernel⟩
structure PmT (P : Program) (w : World) (K : PySem.W.Frag) (mg : Str → Option Value) (base : Heap) (CC fT fE : Addr) (fdT : FuncData) : Prop where
  ct : CT K mg CC
  mt : Meth K CC "terms" fT
  gt : FnOk P w K mg base CX0 1 fT fdT ["self"] (spCTerms K CC)
  bt : Binds K fdT ["self"] []
  fq : FQ K mg CC fE
  all : mg "all" = none
/-! ### all(.. for term, integer in pairs) -/
section
variable {K : PySem.W.Frag} {l R : Addr} {as : List Addr} {ps : Prs} {g : Term → Bool} {i j : Nat} {te : TE} {σ : L2.St} {G : Hp} {Qd : Hp → Prop}
theorem lc_heads (hL : SqL K G l (as.map V.ref)) (pr : Paired (PairAt K G) as ps) (ok : ∀ q ∈ ps, q.1 ≠ []) (hl : ps.length ≤ 900) (hR : G R = none) (hw : ∀ x y, wipe (((wipe σ [i, j]).set i x).set j y) [i, j] = wipe σ [i, j])
    (hte : ∀ (b : Addr) (t : Term) (n : Int) (Hi : Hp) (Qv : VK), Same G Hi → TermAt K Hi b t → t ≠ [] → (∀ H', Same Hi H' → Qv (.bl (g t)) H') → te (((wipe σ [i, j]).set i (some (.ref b))).set j (some (.int n))) Hi Qv)
    (k : ∀ H', Same G H' → H' R = some (.lst ((ps.map fun p => g p.1).map V.bl)) → Qd H') :
    ∃ W : Nat → Nat → Hp → Prop, (∃ m, W 0 m (upd G R (.lst []))) ∧ ∀ n m H, W n m H →
      ((Itl K l).stop n H ∧ Qd H) ∨ ((Itl K l).go n H ∧ ∃ Nx : Hp → Prop, (∀ H', Nx H' → ∃ m', m' < m ∧ W (n + 1) m' H') ∧ ∀ x H', (Itl K l).yld n H x H' → gTup K 2 (gCons (gName i) (gCons (gName j) gNil)) x (wipe σ [i, j]) H' fun σ2 H2 => wipe σ2 [i, j] = wipe σ [i, j] ∧ tYes σ2 H2 fun b H3 =>
        if b = true then te σ2 H3 fun y H4 => ∃ acc, H4 R = some (.lst acc) ∧ acc.length < sizeLine ∧ Nx (upd H4 R (.lst (acc ++ [y]))) else Nx H3) := by
  have ln := paired_n pr
  refine lc_it (walk_list (xs := as.map V.ref)) (fun n H' => Same G H' ∧ H' R = some (.lst (((ps.take n).map fun p => g p.1).map V.bl))) ⟨same_new hR, upd_same⟩ (fun n H' _ q => same_sqL q.1 hL) ?_ ?_
  · rintro n x Hi0 Hi hi ⟨sm, hv⟩ ⟨rfl, hx⟩
    rw [List.getElem?_map] at hx
    obtain ⟨a, ha, rfl⟩ := Option.map_eq_some_iff.mp hx
    obtain ⟨⟨t, m⟩, ht2, b, h1, h2⟩ := pairAtI pr ha
    refine ⟨a, _, rfl, same_sqT sm h1, rfl, _, _, rfl, _, _, rfl, rfl, hw _ _, ?_⟩
    unfold tYes
    refine iteT ?_
    refine hte b t m Hi _ sm (sm _ _ h2) (ok _ (List.mem_of_getElem? ht2)) fun H' s => ⟨_, s _ _ hv, ?_, same_put (sm.trans s) hR, ?_⟩
    · rw [List.length_map, List.length_map, List.length_take]
      exact small1000 (by omega)
    · rw [upd_same, take_next ht2, List.map_append, List.map_append]
      rfl
  · rintro H2 ⟨sm, hv⟩
    rw [List.length_map, ln, List.take_length] at hv
    exact k H2 sm hv
end
section
variable {P : Program} {w : World} {K : PySem.W.Frag} {mg : Str → Option Value} {base : Heap} {CC fT fE : Addr} {fdT : FuncData}
theorem ok_isprom {f : Addr} {fd : FuncData} (F : Fun K "_is_promise" "_is_promise" sIsProm f fd) (T : PmT P w K mg base CC fT fE fdT) : FnOk P w K mg base CX0 2 f fd ["thing"] (spTest (KnP K CC)) := by
  refine F.ok scIP (fun vs H Q E h => ?_) (fun cdv A outer s H vs Q E hr h => ?_)
  · obtain ⟨x, b, rfl, _⟩ := h
    rfl
  · obtain ⟨x, b, rfl, hk, k⟩ := h
    refine ⟨_, pss_one (ps_ret (pe_and (pe_callB call_isi (by rfl) T.fq.isi (by decide +kernel) (pa_cons (pv 0) (pa_cons (pe_glob (v := .ref CC) rfl T.ct.gC rfl) pa_nil)))
      (pe_one (pe_callB (cr_all rfl) (by rfl) T.all (by decide +kernel) (pa_cons (pe_lc (own := [("term", 1), ("_", 2)]) (g := gTup K 2 (gCons (gName 1) (gCons (gName 2) gNil))) (tt := tYes) rfl scIP.nd (pi_list (pe_meth0 (pv 0) T.ct.cl T.mt T.gt hr T.bt .nil pass0)) (blkOk_by (N := nIP) (sc := defScope sIsProm) (by decide +kernel))
        (fun _ _ _ _ _ => pg_tup rfl (pgs_cons (pg_name (i := 1) scIP.nd rfl (Or.inl rfl)) (pgs_cons (pg_name (i := 2) scIP.nd rfl (Or.inl rfl)) pgs_nil))) (fun _ _ _ _ _ => pts_nil)
        (fun _ _ _ _ _ => pe_cmpR (show OpR _ (compareOp .In) (rIn K false) from op_in_seq) (pe_ix (show IxR _ (rIxT K) from ix_tup) (pv 1) pe_int (fun _ _ => rfl)) (pe_tup (pa_cons pe_str (pa_cons pe_str pa_nil))) (by with_unfolding_all rfl))) pa_nil))))), ?_⟩
    rcases hk with ⟨p, ps, c, rfl, hp, ok, hl, rfl⟩ | ⟨rfl, t, ty, hb⟩
    · refine ⟨_, rfl, _, _, _, _, true, rfl, .own CC, ty_cmp T.ct T.fq hp, T.fq.kit, ?_⟩
      refine ⟨_, rfl, ?_⟩
      refine ifT rfl ?_
      obtain ⟨dx, tp, as, e1, e2, e3⟩ := hp.ob
      refine ⟨_, rfl, p, dx, _, rfl, e1, cfl_no _ _ (by decide +kernel) (by decide +kernel), p, dx, tp, c, _, rfl, e1, e2, fun l hl0 => ?_⟩
      have s1 := same_new (o := .lst (as.map V.ref)) hl0
      obtain ⟨G, eG⟩ : ∃ G, G = upd H l (.lst (as.map V.ref)) := ⟨_, rfl⟩
      have hL : G l = some (.lst (as.map V.ref)) := by rw [eG]; exact upd_same
      rw [← eG] at s1 ⊢
      clear eG
      refine ⟨l, rfl, ⟨_, sqL_of hL⟩, fun R hR => ?_⟩
      refine lc_heads (g := ntV) (sqL_of hL) (L2.Paired.mapP e3 fun _ _ g => g.same s1) ok hl hR (fun _ _ => rfl) (fun b t n Hi Qv sm h2 okt kq => ?_) (fun H' sm hv => ⟨R, _, rfl, SqL.of hv, ?_⟩)
      · exact ⟨_, rfl, b, _, 0, _, rfl, rfl, .inl (.inl h2), hd_at okt, (by show 2 ≤ sizeLine; decide), fun w hw => ⟨w, _, rfl, .inr (.inl (.inl upd_same)), rfl, rfl, kq _ (same_new hw)⟩⟩
      · have e : (ps.map fun p => ntV p.1).all id = isP ps := by
          unfold isP
          rw [List.all_map]
          rfl
        rw [e]
        exact k _ (s1.trans sm)
    · refine ⟨_, rfl, _, _, _, _, false, rfl, .own CC, ty, hb, ?_⟩
      refine ⟨_, rfl, ?_⟩
      refine ifF rfl ?_
      exact k H (Same.refl H)
end
end Mv
/-! rules; _places_behind -/
namespace Mv
open PySem PySem.Spec PyProof.Rows L2
/-- a rule: its name, its start, its end, what it says -/
structure Ru where
  n : Str
  s : Str
  e : Str
  ss : List Str
def RuAt (K : PySem.W.Frag) (CR : Addr) (H : Hp) (a : Addr) (r : Ru) : Prop := ∃ ws, RuleAt K CR H a r.n r.s r.e ws r.ss
theorem RuAt.same {K : PySem.W.Frag} {CR : Addr} {H H' : Hp} {a : Addr} {r : Ru} (s : Same H H') (h : RuAt K CR H a r) : RuAt K CR H' a r := let ⟨ws, h⟩ := h; ⟨ws, h.same s⟩
def bhNew (R : List Ru) (b : List Str) : List Str := (R.filter fun r => decide (r.s ∈ b) && !decide (r.e ∈ b)).map Ru.e
def bhStep (R : List Ru) (b : List Str) : List Str := b ++ bhNew R b
def bhIt (R : List Ru) : Nat → List Str → List Str
  | 0, b => b
  | n + 1, b => bhStep R (bhIt R n b)
def behind (R : List Ru) (p : Str) : List Str := bhIt R R.length [p]
theorem bhNew_len (R : List Ru) (b : List Str) : (bhNew R b).length ≤ R.length := by
  unfold bhNew
  rw [List.length_map]
  exact List.length_filter_le ..
theorem bhIt_len (R : List Ru) (n : Nat) (b : List Str) : (bhIt R n b).length ≤ b.length + n * R.length := by
  induction n with
  | zero => simp [bhIt]
  | succ n ih =>
    show (bhStep R (bhIt R n b)).length ≤ _
    unfold bhStep
    rw [List.length_append, Nat.succ_mul]
    have := bhNew_len R (bhIt R n b)
    omega
theorem inV_mem (y : Str) (zs : List Str) : inV (.str y) (zs.map V.str) = decide (y ∈ zs) := by
  unfold inV
  rw [List.any_map]
  by_cases h : y ∈ zs
  · rw [decide_eq_true h]
    exact List.any_eq_true.mpr ⟨y, h, by show (y == y) = true; exact beq_self_eq_true y⟩
  · rw [decide_eq_false h, List.any_eq_false]
    intro z hz e
    have e2 : (z == y) = true := e
    exact h ((beq_iff_eq.mp e2) ▸ hz)
theorem flat_strs (zs : List Str) : (zs.map V.str).all flatV = true := List.all_eq_true.mpr fun x hx => by
  obtain ⟨z, _, rfl⟩ := List.mem_map.mp hx
  rfl
end Mv
/-! _says_twice -/
namespace Mv
open PySem PySem.Spec PyProof.Rows L2
def shareS (q r : Ru) : Bool := r.ss.any fun z => decide (z ∈ q.ss)
def saysTwice (R : List Ru) : Bool := R.any fun q => R.any fun r => decide (r.s ∈ behind R q.e) && shareS q r
theorem behind_len {R : List Ru} (h : R.length ≤ 20) (p : Str) : (behind R p).length ≤ 401 := by
  have h1 := bhIt_len R R.length [p]
  have h2 : R.length * R.length ≤ 400 := Nat.le_trans (Nat.mul_le_mul h h) (by decide)
  have h3 : ([p] : List Str).length = 1 := rfl
  unfold behind
  omega
theorem any_take {α : Type} {p : α → Bool} {l : List α} {i : Nat} {x : α} (h : l[i]? = some x) : (l.take (i + 1)).any p = ((l.take i).any p || p x) := by
  rw [take_next h, List.any_append]
  simp
theorem any_hit {α : Type} {p : α → Bool} {l : List α} {i : Nat} {x : α} (h : l[i]? = some x) (e : p x = true) : l.any p = true := List.any_eq_true.mpr ⟨x, List.mem_of_getElem? h, e⟩
end Mv
/-! what is reached by rules, looked for from the new ends; a rule more -/
namespace Mv
open PySem PySem.Spec PyProof.Rows L2
def mayS (zs : List Str) (R : List Ru) (r : Ru) : Bool := !decide (r.n ∈ R.map Ru.n) && (decide (r.s ∈ zs) && (decide (r.e ∈ zs) && (!decide (r.s ∈ behind (R ++ [r]) r.e) && !saysTwice (R ++ [r]))))
namespace Rq
inductive Rch (S : List Ru) : Str → Str → Prop
  | refl (a : Str) : Rch S a a
  | head {q : Ru} {b : Str} (hq : q ∈ S) (h : Rch S q.e b) : Rch S q.s b
theorem Rch.trans {S : List Ru} {a b c : Str} (h : Rch S a b) (g : Rch S b c) : Rch S a c := by
  induction h with
  | refl => exact g
  | head hq _ ih => exact .head hq (ih g)
theorem Rch.step {S : List Ru} {a : Str} {q : Ru} (h : Rch S a q.s) (hq : q ∈ S) : Rch S a q.e := h.trans (.head hq (.refl _))
theorem Rch.mono {S S' : List Ru} (hs : ∀ q ∈ S, q ∈ S') {a b : Str} (h : Rch S a b) : Rch S' a b := by
  induction h with
  | refl => exact .refl _
  | head hq _ ih => exact .head (hs _ hq) ih
theorem Rch.last {S : List Ru} {a b : Str} (h : Rch S a b) : a = b ∨ ∃ q ∈ S, Rch S a q.s ∧ q.e = b := by
  induction h with
  | refl => exact .inl rfl
  | @head q b hq _ ih =>
    rcases ih with e | ⟨r, hr, g, e⟩
    · exact .inr ⟨q, hq, .refl _, e⟩
    · exact .inr ⟨r, hr, .head hq g, e⟩
/-- a rule more: without it, or by it -/
theorem Rch.split {S : List Ru} {r : Ru} {a b : Str} (h : Rch (S ++ [r]) a b) : Rch S a b ∨ (Rch (S ++ [r]) a r.s ∧ Rch (S ++ [r]) r.e b) := by
  induction h with
  | refl => exact .inl (.refl _)
  | @head q b hq g ih =>
    rcases List.mem_append.mp hq with h | h
    · rcases ih with i | ⟨i1, i2⟩
      · exact .inl (.head h i)
      · exact .inr ⟨.head hq i1, i2⟩
    · rw [List.mem_singleton.mp h]
      rw [List.mem_singleton.mp h] at g
      exact .inr ⟨.refl _, g⟩
/-! behind -/
def Closed (S : List Ru) (b : List Str) : Prop := ∀ q ∈ S, q.s ∈ b → q.e ∈ b
theorem mem_bhNew {S : List Ru} {b : List Str} {x : Str} : x ∈ bhNew S b ↔ ∃ q ∈ S, q.s ∈ b ∧ q.e ∉ b ∧ q.e = x := by
  unfold bhNew
  rw [List.mem_map]
  constructor
  · rintro ⟨q, hq, e⟩
    obtain ⟨h1, h2⟩ := List.mem_filter.mp hq
    rw [Bool.and_eq_true, decide_eq_true_eq, Bool.not_eq_true', decide_eq_false_iff_not] at h2
    exact ⟨q, h1, h2.1, h2.2, e⟩
  · rintro ⟨q, hq, h1, h2, e⟩
    exact ⟨q, List.mem_filter.mpr ⟨hq, by rw [decide_eq_true h1, decide_eq_false h2]; rfl⟩, e⟩
theorem mem_bhStep {S : List Ru} {b : List Str} {x : Str} : x ∈ bhStep S b ↔ x ∈ b ∨ x ∈ bhNew S b := by
  unfold bhStep
  exact List.mem_append
theorem bhIt_succ (S : List Ru) : ∀ (n : Nat) (b : List Str), bhIt S (n + 1) b = bhIt S n (bhStep S b)
  | 0, _ => rfl
  | n + 1, b => by
    show bhStep S (bhIt S (n + 1) b) = bhStep S (bhIt S n (bhStep S b))
    rw [bhIt_succ S n b]
theorem bh_sound {S : List Ru} {p : Str} : ∀ (n : Nat), ∀ x ∈ bhIt S n [p], Rch S p x
  | 0, x, h => by rw [List.mem_singleton.mp h]; exact .refl _
  | n + 1, x, h => by
    rcases mem_bhStep.mp h with h | h
    · exact bh_sound n x h
    · obtain ⟨q, hq, h1, _, e⟩ := mem_bhNew.mp h
      rw [← e]
      exact (bh_sound n _ h1).step hq
/-- how many rules' ends are not there yet -/
def lack (S : List Ru) (b : List Str) : Nat := (S.filter fun q => !decide (q.e ∈ b)).length
theorem lack_lt {S : List Ru} {b : List Str} {x : Str} (h : x ∈ bhNew S b) : lack S (bhStep S b) < lack S b := by
  obtain ⟨q, hq, h1, h2, e⟩ := mem_bhNew.mp h
  unfold lack
  have sub : (S.filter fun q => !decide (q.e ∈ bhStep S b)).Sublist ((S.filter fun q => !decide (q.e ∈ b)).filter fun q => !decide (q.e ∈ bhStep S b)) := by
    rw [List.filter_filter]
    have e : (S.filter fun q => !decide (q.e ∈ bhStep S b)) = S.filter fun a => (!decide (a.e ∈ bhStep S b)) && !decide (a.e ∈ b) := by
      refine List.filter_congr fun a _ => ?_
      by_cases m : a.e ∈ b
      · rw [decide_eq_true (mem_bhStep.mpr (.inl m)), decide_eq_true m]
        rfl
      · rw [decide_eq_false m, Bool.not_false, Bool.and_true]
    rw [e]
    exact List.Sublist.refl _
  refine Nat.lt_of_le_of_lt sub.length_le ?_
  have hm : q ∈ S.filter fun q => !decide (q.e ∈ b) := List.mem_filter.mpr ⟨hq, by rw [decide_eq_false h2]; rfl⟩
  refine List.length_filter_lt_length_iff_exists.mpr ⟨q, hm, ?_⟩
  rw [decide_eq_true (mem_bhStep.mpr (.inr (mem_bhNew.mpr ⟨q, hq, h1, h2, rfl⟩)))]
  decide
theorem closed_of {S : List Ru} {b : List Str} (h : bhNew S b = []) : Closed S b := fun q hq hs => by
  by_cases m : q.e ∈ b
  · exact m
  · have : q.e ∈ bhNew S b := mem_bhNew.mpr ⟨q, hq, hs, m, rfl⟩
    rw [h] at this
    cases this
theorem bh_stay {S : List Ru} {b : List Str} (h : bhNew S b = []) : ∀ n, bhIt S n b = b
  | 0 => rfl
  | n + 1 => by
    show bhStep S (bhIt S n b) = b
    rw [bh_stay h n]
    unfold bhStep
    rw [h, List.append_nil]
theorem bh_closed {S : List Ru} : ∀ (n : Nat) (b : List Str), lack S b ≤ n → Closed S (bhIt S n b)
  | 0, b, h => by
    refine closed_of (show bhNew S b = [] from ?_)
    cases e : bhNew S b with
    | nil => rfl
    | cons x l =>
      have := lack_lt (S := S) (b := b) (x := x) (by rw [e]; exact List.mem_cons_self)
      omega
  | n + 1, b, h => by
    rw [bhIt_succ]
    cases e : bhNew S b with
    | nil =>
      have es : bhStep S b = b := by unfold bhStep; rw [e, List.append_nil]
      rw [es, bh_stay e]
      exact closed_of e
    | cons x l =>
      have := lack_lt (S := S) (b := b) (x := x) (by rw [e]; exact List.mem_cons_self)
      exact bh_closed n _ (by omega)
theorem bh_in {S : List Ru} {b : List Str} {x : Str} (h : x ∈ b) : ∀ n, x ∈ bhIt S n b
  | 0 => h
  | n + 1 => mem_bhStep.mpr (.inl (bh_in h n))
theorem mem_behind {S : List Ru} {p x : Str} : x ∈ behind S p ↔ Rch S p x := by
  constructor
  · exact fun h => bh_sound _ x h
  · intro h
    have c : Closed S (behind S p) := bh_closed S.length [p] (List.length_filter_le ..)
    have h0 : p ∈ behind S p := bh_in (List.mem_singleton.mpr rfl) _
    have key : ∀ {a b : Str}, Rch S a b → a ∈ behind S p → b ∈ behind S p := fun {a b} h => by
      induction h with
      | refl => exact id
      | head hq _ ih => exact fun m => ih (c _ hq m)
    exact key h h0
/-! a cycle; two that say the same -/
def Cyc (S : List Ru) : Prop := ∃ q ∈ S, Rch S q.e q.s
def Tw (S : List Ru) : Prop := ∃ q ∈ S, ∃ r ∈ S, Rch S q.e r.s ∧ shareS q r = true
theorem tw_iff {S : List Ru} : saysTwice S = true ↔ Tw S := by
  unfold saysTwice Tw
  rw [List.any_eq_true]
  constructor
  · rintro ⟨q, hq, h⟩
    obtain ⟨r, hr, h⟩ := List.any_eq_true.mp h
    obtain ⟨h1, h2⟩ := Bool.and_eq_true_iff.mp h
    exact ⟨q, hq, r, hr, mem_behind.mp (of_decide_eq_true h1), h2⟩
  · rintro ⟨q, hq, r, hr, h1, h2⟩
    exact ⟨q, hq, List.any_eq_true.mpr ⟨r, hr, by rw [decide_eq_true (mem_behind.mpr h1), h2]; rfl⟩⟩
theorem cyc_more {S : List Ru} {r : Ru} (h : Cyc (S ++ [r])) (n : ¬ Cyc S) : Rch (S ++ [r]) r.e r.s := by
  obtain ⟨q, hq, g⟩ := h
  rcases List.mem_append.mp hq with m | m
  · rcases g.split with g1 | ⟨g1, g2⟩
    · exact absurd ⟨q, m, g1⟩ n
    · exact g2.trans (.head hq g1)
  · rw [List.mem_singleton.mp m] at g
    exact g
theorem cyc_nil : ¬ Cyc [] := fun ⟨_, h, _⟩ => by cases h
/-! ways that are looked for from the ends that are new -/
def lkNew (S : List Ru) (last lk : List Str) : List Str := (S.filter fun r => decide (r.s ∈ last) && !decide (r.e ∈ lk)).map Ru.e
theorem mem_lkNew {S : List Ru} {la lk : List Str} {x : Str} : x ∈ lkNew S la lk ↔ ∃ q ∈ S, q.s ∈ la ∧ q.e ∉ lk ∧ q.e = x := by
  unfold lkNew
  rw [List.mem_map]
  constructor
  · rintro ⟨q, hq, e⟩
    obtain ⟨h1, h2⟩ := List.mem_filter.mp hq
    rw [Bool.and_eq_true, decide_eq_true_eq, Bool.not_eq_true', decide_eq_false_iff_not] at h2
    exact ⟨q, h1, h2.1, h2.2, e⟩
  · rintro ⟨q, hq, h1, h2, e⟩
    exact ⟨q, List.mem_filter.mpr ⟨hq, by rw [decide_eq_true h1, decide_eq_false h2]; rfl⟩, e⟩
theorem filter_two {S : List Ru} {f g h : Ru → Bool} (fg : ∀ q ∈ S, f q = true → g q = true → False) (fh : ∀ q ∈ S, f q = true → h q = true) (gh : ∀ q ∈ S, g q = true → h q = true) : (S.filter f).length + (S.filter g).length ≤ (S.filter h).length := by
  induction S with
  | nil => exact Nat.le_refl _
  | cons q S ih =>
    have i := ih (fun r hr => fg r (List.mem_cons_of_mem _ hr)) (fun r hr => fh r (List.mem_cons_of_mem _ hr)) fun r hr => gh r (List.mem_cons_of_mem _ hr)
    have m : q ∈ q :: S := List.mem_cons_self
    rw [List.filter_cons, List.filter_cons, List.filter_cons]
    cases ef : f q with
    | true =>
      have e1 := fh q m ef
      have e2 : g q = false := by
        cases eg : g q with
        | false => rfl
        | true => exact (fg q m ef eg).elim
      rw [e1, e2]
      simp only [if_true, List.length_cons, Bool.false_eq_true, if_false]
      omega
    | false =>
      cases eg : g q with
      | true =>
        rw [gh q m eg]
        simp only [if_true, List.length_cons, Bool.false_eq_true, if_false]
        omega
      | false =>
        cases eh : h q <;> simp only [if_true, List.length_cons, Bool.false_eq_true, if_false] <;> omega
theorem lack_step (S : List Ru) (la lk : List Str) : (lkNew S la lk).length + lack S (lk ++ lkNew S la lk) ≤ lack S lk := by
  unfold lack
  rw [show (lkNew S la lk).length = (S.filter fun r => decide (r.s ∈ la) && !decide (r.e ∈ lk)).length from by unfold lkNew; rw [List.length_map]]
  refine filter_two (fun q hq h1 h2 => ?_) (fun q hq h1 => ?_) fun q hq h2 => ?_
  · have n : q.e ∉ lk ++ lkNew S la lk := of_decide_eq_false (by simpa using h2)
    obtain ⟨a, b⟩ := Bool.and_eq_true_iff.mp h1
    exact n (List.mem_append_right _ (mem_lkNew.mpr ⟨q, hq, of_decide_eq_true a, of_decide_eq_false (by simpa using b), rfl⟩))
  · exact (Bool.and_eq_true_iff.mp h1).2
  · have n : q.e ∉ lk ++ lkNew S la lk := of_decide_eq_false (by simpa using h2)
    rw [decide_eq_false fun z => n (List.mem_append_left _ z)]
    rfl
structure Lk (S : List Ru) (p : Str) (la lk : List Str) : Prop where
  h0 : p ∈ lk
  sound : ∀ x ∈ lk, Rch S p x
  sub : ∀ x ∈ la, x ∈ lk
  closed : ∀ q ∈ S, q.s ∈ lk → q.s ∉ la → q.e ∈ lk
  len : lk.length + lack S lk ≤ 1 + S.length
theorem Lk.start (S : List Ru) (p : Str) : Lk S p [p] [p] := by
  refine ⟨List.mem_singleton.mpr rfl, fun x hx => by rw [List.mem_singleton.mp hx]; exact .refl _, fun x hx => hx, fun q _ h n => (n h).elim, ?_⟩
  have : lack S [p] ≤ S.length := List.length_filter_le ..
  have : ([p] : List Str).length = 1 := rfl
  omega
theorem Lk.step {S : List Ru} {p : Str} {la lk : List Str} (h : Lk S p la lk) : Lk S p (lkNew S la lk) (lk ++ lkNew S la lk) := by
  refine ⟨List.mem_append_left _ h.h0, fun x hx => ?_, fun x hx => List.mem_append_right _ hx, fun q hq hs n => ?_, ?_⟩
  · rcases List.mem_append.mp hx with hx | hx
    · exact h.sound x hx
    · obtain ⟨q, hq, h1, _, e⟩ := mem_lkNew.mp hx
      rw [← e]
      exact (h.sound _ (h.sub _ h1)).step hq
  · have hs1 : q.s ∈ lk := (List.mem_append.mp hs).resolve_right n
    by_cases hl : q.s ∈ la
    · by_cases m : q.e ∈ lk
      · exact List.mem_append_left _ m
      · exact List.mem_append_right _ (mem_lkNew.mpr ⟨q, hq, hl, m, rfl⟩)
    · exact List.mem_append_left _ (h.closed q hq hs1 hl)
  · have := lack_step S la lk
    have := h.len
    rw [List.length_append]
    omega
theorem Lk.done {S : List Ru} {p : Str} {lk : List Str} (h : Lk S p [] lk) (x : Str) : x ∈ lk ↔ Rch S p x := by
  refine ⟨h.sound x, fun r => ?_⟩
  have key : ∀ {a b : Str}, Rch S a b → a ∈ lk → b ∈ lk := fun {a b} h2 => by
    induction h2 with
    | refl => exact id
    | head hq _ ih => exact fun m => ih (h.closed _ hq m (by simp))
  exact key r h.h0
def mu (S : List Ru) (la lk : List Str) : Nat := 2 * lack S lk + if la = [] then 0 else 1
theorem mu_dec {S : List Ru} {la lk : List Str} (hl : la ≠ []) : mu S (lkNew S la lk) (lk ++ lkNew S la lk) < mu S la lk := by
  have h := lack_step S la lk
  unfold mu
  rw [if_neg hl]
  by_cases e : lkNew S la lk = []
  · rw [if_pos e]
    omega
  · rw [if_neg e]
    have : 0 < (lkNew S la lk).length := List.length_pos_iff.mpr e
    omega
theorem Lk.len2 {S : List Ru} {p : Str} {la lk : List Str} (h : Lk S p la lk) : lk.length ≤ 1 + S.length := by have := h.len; omega
/-! turned about -/
def rev (q : Ru) : Ru := ⟨q.n, q.e, q.s, q.ss⟩
theorem rch_revT {S : List Ru} {a b : Str} (h : Rch (S.map rev) a b) : Rch S b a := by
  induction h with
  | refl => exact .refl _
  | @head q b hq _ ih =>
    obtain ⟨q0, h0, rfl⟩ := List.mem_map.mp hq
    exact ih.step h0
theorem rch_rev {S : List Ru} {a b : Str} : Rch (S.map rev) a b ↔ Rch S b a := by
  refine ⟨rch_revT, fun h => rch_revT ?_⟩
  have e : (S.map rev).map rev = S := by
    rw [List.map_map]
    exact List.map_id'' (fun _ => rfl) S
  rw [e]
  exact h
/-! a rule more, where all was right ahead -/
theorem Rch.first {S : List Ru} {r : Ru} {a b : Str} (h : Rch (S ++ [r]) a b) (e : b = r.s) : Rch S a b := by
  induction h with
  | refl => exact .refl _
  | @head q b hq _ ih =>
    rcases List.mem_append.mp hq with m | m
    · exact .head m (ih e)
    · rw [List.mem_singleton.mp m, e]
      exact .refl _
theorem Rch.by {S : List Ru} {r : Ru} {a b : Str} (h : Rch (S ++ [r]) a b) : Rch S a b ∨ (Rch S a r.s ∧ Rch (S ++ [r]) r.e b) := by
  rcases h.split with h | ⟨h1, h2⟩
  · exact .inl h
  · exact .inr ⟨h1.first rfl, h2⟩
theorem rch_app {S : List Ru} {r : Ru} {a b : Str} (h : Rch S a b) : Rch (S ++ [r]) a b := h.mono fun q hq => List.mem_append_left _ hq
theorem beh_iff {S : List Ru} {r : Ru} : r.s ∈ behind (S ++ [r]) r.e ↔ Rch S r.e r.s := mem_behind.trans ⟨fun h => h.first rfl, rch_app⟩
theorem may_nocyc {zs : List Str} {S : List Ru} {r : Ru} (n : ¬ Cyc S) (h : mayS zs S r = true) : ¬ Cyc (S ++ [r]) := fun c => by
  unfold mayS at h
  have h := (Bool.and_eq_true_iff.mp (Bool.and_eq_true_iff.mp (Bool.and_eq_true_iff.mp (Bool.and_eq_true_iff.mp h).2).2).2).1
  rw [decide_eq_true (mem_behind.mpr (cyc_more c n))] at h
  cases h
/-- rules, each of which might stand -/
inductive FineR (zs : List Str) : List Ru → Prop
  | nil : FineR zs []
  | snoc {S : List Ru} {r : Ru} (h : FineR zs S) (m : mayS zs S r = true) : FineR zs (S ++ [r])
theorem FineR.cyc {zs : List Str} {S : List Ru} (h : FineR zs S) : ¬ Cyc S := by
  induction h with
  | nil => exact cyc_nil
  | snoc _ m ih => exact may_nocyc ih m
theorem FineR.tw {zs : List Str} {S : List Ru} (h : FineR zs S) : ¬ Tw S := by
  cases h with
  | nil => exact fun ⟨_, h, _⟩ => by cases h
  | @snoc S r h m =>
    intro t
    unfold mayS at m
    have q := (Bool.and_eq_true_iff.mp (Bool.and_eq_true_iff.mp (Bool.and_eq_true_iff.mp (Bool.and_eq_true_iff.mp m).2).2).2).2
    rw [tw_iff.mpr t] at q
    cases q
theorem FineR.nd {zs : List Str} {S : List Ru} (h : FineR zs S) : (S.map Ru.n).Nodup := by
  induction h with
  | nil => exact List.nodup_nil
  | @snoc S r h m ih =>
    unfold mayS at m
    have q : r.n ∉ S.map Ru.n := of_decide_eq_false (by simpa using (Bool.and_eq_true_iff.mp m).1)
    rw [List.map_append, List.nodup_append]
    refine ⟨ih, by simp, fun a ha b hb e => ?_⟩
    rw [show b = r.n from List.mem_singleton.mp hb] at e
    exact q (e ▸ ha)
def stw (r : Ru) (R : List Ru) (ah be : List Str) : Bool := (r :: R.filter fun q => decide (q.e ∈ ah)).any fun one => (r :: R.filter fun q => decide (q.s ∈ be)).any fun ot => !decide (one.n = ot.n) && shareS one ot
theorem same_nm {S : List Ru} (nd : (S.map Ru.n).Nodup) {q t : Ru} (hq : q ∈ S) (ht : t ∈ S) (e : q.n = t.n) : q = t := by
  obtain ⟨i, hi, e1⟩ := List.mem_iff_getElem.mp hq
  obtain ⟨j, hj, e2⟩ := List.mem_iff_getElem.mp ht
  have h1 : (S.map Ru.n)[i]? = (S.map Ru.n)[j]? := by
    rw [List.getElem?_map, List.getElem?_map, List.getElem?_eq_getElem hi, List.getElem?_eq_getElem hj, e1, e2]
    show some q.n = some t.n
    rw [e]
  have h2 := (List.getElem?_inj (by rw [List.length_map]; exact hi) nd).mp h1
  subst h2
  exact e1.symm.trans e2
theorem stw_eq {R : List Ru} {r : Ru} {ah be : List Str} (nc : ¬ Cyc R) (nt : ¬ Tw R) (nd : (R.map Ru.n).Nodup) (nn : r.n ∉ R.map Ru.n) (nr : ¬ Rch R r.e r.s) (ha : ∀ x, x ∈ ah ↔ Rch R x r.s) (hb : ∀ x, x ∈ be ↔ Rch R r.e x) : stw r R ah be = saysTwice (R ++ [r]) := by
  have mr : r ∈ R ++ [r] := List.mem_append_right _ (List.mem_singleton.mpr rfl)
  have ml : ∀ {q}, q ∈ R → q ∈ R ++ [r] := fun h => List.mem_append_left _ h
  have one_iff : ∀ q, q ∈ r :: R.filter (fun q => decide (q.e ∈ ah)) ↔ q = r ∨ (q ∈ R ∧ Rch R q.e r.s) := fun q => by
    rw [List.mem_cons, List.mem_filter, decide_eq_true_iff, ha]
  have oth_iff : ∀ q, q ∈ r :: R.filter (fun q => decide (q.s ∈ be)) ↔ q = r ∨ (q ∈ R ∧ Rch R r.e q.s) := fun q => by
    rw [List.mem_cons, List.mem_filter, decide_eq_true_iff, hb]
  have nm : ∀ {q}, q ∈ R → q.n ≠ r.n := fun {q} hq e => nn (List.mem_map.mpr ⟨q, hq, e⟩)
  rw [Bool.eq_iff_iff, tw_iff]
  unfold stw Tw
  rw [List.any_eq_true]
  constructor
  · rintro ⟨q, hq, h⟩
    obtain ⟨t, ht, h⟩ := List.any_eq_true.mp h
    obtain ⟨hn, sh⟩ := Bool.and_eq_true_iff.mp h
    have hn : q.n ≠ t.n := of_decide_eq_false (by simpa using hn)
    rcases (one_iff q).mp hq with e1 | ⟨hq2, g1⟩
    · rcases (oth_iff t).mp ht with e2 | ⟨ht2, g2⟩
      · exact absurd (by rw [e1, e2]) hn
      · exact ⟨q, by rw [e1]; exact mr, t, ml ht2, by rw [e1]; exact rch_app g2, sh⟩
    · rcases (oth_iff t).mp ht with e2 | ⟨ht2, g2⟩
      · exact ⟨q, ml hq2, t, by rw [e2]; exact mr, by rw [e2]; exact rch_app g1, sh⟩
      · exact ⟨q, ml hq2, t, ml ht2, (rch_app g1).trans (.head mr (rch_app g2)), sh⟩
  · rintro ⟨q, hq, t, ht, g, sh⟩
    have re : ∀ {b}, Rch (R ++ [r]) r.e b → Rch R r.e b := fun {b} h => h.by.resolve_right fun z => nr z.1
    have fin : ∀ {q t : Ru}, (q = r ∨ (q ∈ R ∧ Rch R q.e r.s)) → (t = r ∨ (t ∈ R ∧ Rch R r.e t.s)) → q.n ≠ t.n → shareS q t = true → ∃ x ∈ r :: R.filter (fun q => decide (q.e ∈ ah)), ((r :: R.filter fun q => decide (q.s ∈ be)).any fun ot => !decide (x.n = ot.n) && shareS x ot) = true := fun {q t} h1 h2 hn hs =>
      ⟨q, (one_iff q).mpr h1, List.any_eq_true.mpr ⟨t, (oth_iff t).mpr h2, by rw [decide_eq_false hn, hs]; rfl⟩⟩
    rcases List.mem_append.mp hq with hq2 | hq2
    · rcases List.mem_append.mp ht with ht2 | ht2
      · rcases g.by with g1 | ⟨g1, g2⟩
        · exact (nt ⟨q, hq2, t, ht2, g1, sh⟩).elim
        · have g3 := re g2
          refine fin (.inr ⟨hq2, g1⟩) (.inr ⟨ht2, g3⟩) (fun e => ?_) sh
          have eq := same_nm nd hq2 ht2 e
          subst eq
          exact nr ((g3.step hq2).trans g1)
      · have e := List.mem_singleton.mp ht2
        rw [e] at g sh
        exact fin (q := q) (t := r) (.inr ⟨hq2, g.first rfl⟩) (.inl rfl) (nm hq2) sh
    · have e := List.mem_singleton.mp hq2
      rw [e] at g sh
      rcases List.mem_append.mp ht with ht2 | ht2
      · exact fin (q := r) (t := t) (.inl rfl) (.inr ⟨ht2, re g⟩) (fun e => nm ht2 e.symm) sh
      · have e := List.mem_singleton.mp ht2
        rw [e] at g sh
        exact (nr (g.first rfl)).elim
end Rq
end Mv
/-! _places_linked -/
namespace Mv
open PySem PySem.Spec PyProof.Rows L2 Rq
abbrev sPB : Stmt := top 48
abbrev nPL : List Str := ["steps", "place", "linked", "last", "start", "end"]
theorem scPL : FnScope nPL ["steps", "place"] (defScope sPB) := ⟨rfl, rfl, rfl, by decide +kernel, rfl, by decide +kernel, by decide +kernel⟩
def StepAt (K : PySem.W.Frag) (H : Hp) (a : Addr) (r : Ru) : Prop := SqT K H a [.str r.s, .str r.e]
def spPL (K : PySem.W.Frag) : Sp := fun vs H Q _ => ∃ (a : Addr) (as : List Addr) (S : List Ru) (p : Str), vs = [.ref a, .str p] ∧ SqL K H a (as.map V.ref) ∧ Paired (StepAt K H) as S ∧ S.length ≤ 20 ∧
  ∀ (b : Addr) (L : List Str) (H' : Hp), Same H H' → H b = none → H' b = some (.lst (L.map V.str)) → (∀ x, x ∈ L ↔ Rch S p x) → Q (.ref b) H'
section
variable {P : Program} {w : World} {K : PySem.W.Frag} {mg : Str → Option Value} {base : Heap} {CR : Addr}
theorem ok_pl {f : Addr} {fd : FuncData} (F : Fun K "_places_linked" "_places_linked" sPB f fd) : FnOk P w K mg base CX0 1 f fd ["steps", "place"] (spPL K) := by
  refine F.ok scPL (fun vs H Q E h => ?_) (fun cdv A outer s H vs Q E hr h => ?_)
  · obtain ⟨a, as, S, p, rfl, _⟩ := h
    rfl
  · obtain ⟨a, as, S, p, rfl, hS, pr, lS, k⟩ := h
    refine ⟨_, pss_cons (ps_set (i := 2) scPL.nd rfl (.inr rfl) (pe_lst (pa_cons (pv 1) pa_nil)))
      (pss_cons (ps_set (i := 3) scPL.nd rfl (.inr rfl) (pe_lst (pa_cons (pv 1) pa_nil)))
      (pss_cons (ps_while PassesOwn.never (pt_truth (pv 3) (by intro _; rfl))
        (pss_cons (ps_set (i := 3) scPL.nd rfl (.inr rfl) (pe_lc (own := [("start", 4), ("end", 5)]) (g := gTup K 2 (gCons (gName 4) (gCons (gName 5) gNil))) rfl scPL.nd (pi_list (pv 0)) (blkOk_by (N := nPL) (sc := defScope sPB) (by decide +kernel))
          (fun _ _ _ _ _ => pg_tup rfl (pgs_cons (pg_name (i := 4) scPL.nd rfl (Or.inl rfl)) (pgs_cons (pg_name (i := 5) scPL.nd rfl (Or.inl rfl)) pgs_nil)))
          (fun _ _ _ _ _ => pts_one (PW.pt (pw_and (pt_cmpR (show OpR _ (compareOp .In) (rIn K false) from op_in_seq) (pv 4) (pv 3) (by with_unfolding_all rfl))
            (pw_and1 (pt_cmpR (show OpR _ (compareOp .NotIn) (rIn K true) from op_notIn_seq) (pv 5) (pv 2) (by with_unfolding_all rfl))))))
          (fun _ _ _ _ _ => pv 5)))
        (pss_one (ps_set (i := 2) scPL.nd rfl (.inr rfl) (pe_op op_cat (pv 2) (pv 3))))))
      (pss_one (ps_ret (pv 2))))), ?_⟩
    refine ⟨_, rfl, (by show 1 ≤ sizeLine; decide), fun b0 hb0 => ?_⟩
    refine ⟨_, rfl, (by show 1 ≤ sizeLine; decide), fun l0 hl0 => ?_⟩
    have la := paired_n pr
    have s0 := (same_new (o := .lst [V.str p]) hb0).trans (same_new (o := .lst [V.str p]) hl0)
    refine ⟨fun m σ H' => ∃ b l u v la lk, σ = [some (.ref a), some (.str p), some (.ref b), some (.ref l), u, v] ∧ Same H H' ∧ H b = none ∧ H' b = some (.lst (lk.map V.str)) ∧ H' l = some (.lst (la.map V.str)) ∧ Lk S p la lk ∧ la.length ≤ 21 ∧ m = mu S la lk,
      ⟨_, b0, l0, none, none, [p], [p], rfl, s0, hb0, (same_new hl0) _ _ upd_same, upd_same, Lk.start S p, (by show 1 ≤ 21; decide), rfl⟩, ?_⟩
    rintro m σ H1 ⟨b, l, u, v, ls, lk, rfl, sm, nb, hb, hl, L, ll, rfl⟩
    refine ⟨_, rfl, !(ls.map V.str).isEmpty, .inl ⟨_, sqL_of hl, rfl⟩, ?_⟩
    by_cases e : ls = []
    · subst e
      refine iteF ?_
      exact ⟨_, rfl, k b lk H1 sm nb hb L.done⟩
    · have ne : (ls.map V.str).isEmpty = false := by
        cases ls with
        | nil => exact absurd rfl e
        | cons _ _ => rfl
      refine ifT (by rw [ne]; rfl) ?_
      refine ⟨fun σ' H' => ∃ b l u v la' lk', σ' = [some (.ref a), some (.str p), some (.ref b), some (.ref l), u, v] ∧ Same H H' ∧ H b = none ∧ H' b = some (.lst (lk'.map V.str)) ∧ H' l = some (.lst (la'.map V.str)) ∧ Lk S p la' lk' ∧ la'.length ≤ 21 ∧ mu S la' lk' < mu S ls lk,
        fun σ' H' ⟨b, l, u, v, la', lk', e1, e2, e3, e4, e5, e6, e7, lt⟩ => ⟨_, lt, b, l, u, v, la', lk', e1, e2, e3, e4, e5, e6, e7, rfl⟩, ?_⟩
      refine ⟨_, rfl, a, rfl, ⟨_, same_sqL sm hS⟩, fun D hD => ?_⟩
      refine lc_it (walk_list (xs := as.map V.ref)) (fun j H' => Same H1 H' ∧ H' D = some (.lst ((lkNew (S.take j) ls lk).map V.str))) ⟨same_new hD, upd_same⟩ (fun j H' _ q => same_sqL (sm.trans q.1) hS) ?_ ?_
      · rintro j x2 Hj0 Hj hj ⟨sj, hv⟩ ⟨rfl, hx2⟩
        rw [List.getElem?_map] at hx2
        obtain ⟨q, hq, rfl⟩ := Option.map_eq_some_iff.mp hx2
        obtain ⟨r, hr2, hra⟩ := pairAtI pr hq
        have hra2 : SqT K Hj q [.str r.s, .str r.e] := same_sqT (sm.trans sj) hra
        have st : lkNew (S.take (j + 1)) ls lk = lkNew (S.take j) ls lk ++ lkNew [r] ls lk := by
          unfold lkNew
          rw [take_next hr2, List.filter_append, List.map_append]
        refine ⟨q, _, rfl, hra2, rfl, _, _, rfl, _, _, rfl, rfl, rfl, ?_⟩
        refine ⟨_, rfl, _, rfl, l, _, rfl, .inl (sqL_of (sj _ _ hl)), rfl, flat_strs _, _, rfl, ?_⟩
        rw [show (if false = true then !inV (V.str r.s) (ls.map V.str) else inV (V.str r.s) (ls.map V.str)) = decide (r.s ∈ ls) from inV_mem _ _]
        by_cases e1 : r.s ∈ ls
        · refine ifT (decide_eq_true e1) ?_
          refine ⟨_, rfl, _, rfl, b, _, rfl, .inl (sqL_of (sj _ _ hb)), rfl, flat_strs _, _, rfl, ?_⟩
          rw [show (if true = true then !inV (V.str r.e) (lk.map V.str) else inV (V.str r.e) (lk.map V.str)) = !decide (r.e ∈ lk) from by rw [← inV_mem]; rfl]
          by_cases e2 : r.e ∈ lk
          · refine ifF (by rw [decide_eq_true e2]; rfl) ?_
            refine ⟨sj, ?_⟩
            rw [hv, st, show lkNew [r] ls lk = [] from by unfold lkNew; rw [List.filter_cons]; simp [e1, e2], List.append_nil]
          · refine ifT (by rw [decide_eq_false e2]; rfl) ?_
            refine ⟨_, rfl, _, hv, ?_, same_put sj hD, ?_⟩
            · have h4 : (lkNew (S.take j) ls lk).length ≤ (S.take j).length := by
                unfold lkNew
                rw [List.length_map]
                exact List.length_filter_le ..
              have h5 := List.length_take_le' j S
              rw [List.length_map]
              exact small1000 (by omega)
            · rw [upd_same, st, show lkNew [r] ls lk = [r.e] from by unfold lkNew; rw [List.filter_cons]; simp [e1, e2], List.map_append]
              rfl
        · refine ifF (decide_eq_false e1) ?_
          refine ⟨sj, ?_⟩
          rw [hv, st, show lkNew [r] ls lk = [] from by unfold lkNew; rw [List.filter_cons]; simp [e1], List.append_nil]
      · rintro H2 ⟨sj, hv⟩
        rw [List.length_map, la, List.take_length] at hv
        have lL := L.step.len2
        rw [List.length_append] at lL
        refine ⟨_, rfl, _, rfl, b, D, _, _, rfl, rfl, sj _ _ hb, hv, ?_, fun c hc => ?_⟩
        · rw [List.length_map, List.length_map]
          exact Nat.le_of_lt (small1000 (by omega))
        · have s3 := same_new (o := .lst (lk.map V.str ++ (lkNew S ls lk).map V.str)) hc
          refine ⟨c, D, _, _, lkNew S ls lk, lk ++ lkNew S ls lk, rfl, (sm.trans sj).trans s3, (sm.trans sj).free hc, ?_, s3 _ _ hv, L.step, by omega, mu_dec e⟩
          rw [upd_same, ← List.map_append]
end
end Mv
/-! _says_twice -/
namespace Mv
open PySem PySem.Spec PyProof.Rows L2 Rq StX
abbrev sST : Stmt := top 49
abbrev stB : List Stmt := defBody sST
abbrev nST : List Str := ["new", "earlier", "ahead", "behind", "ones", "others", "one", "other", "rule", "sort"]
theorem scST : FnScope nST ["new", "earlier", "ahead", "behind"] (defScope sST) := ⟨rfl, rfl, rfl, by decide +kernel, rfl, by decide +kernel, by decide +kernel⟩
def spST (K : PySem.W.Frag) (CR : Addr) : Sp := fun vs H Q _ => ∃ (q0 ea ah be : Addr) (r : Ru) (as : List Addr) (R : List Ru) (A B : List Str), vs = [.ref q0, .ref ea, .ref ah, .ref be] ∧ RuAt K CR H q0 r ∧ Sq K H ea (as.map V.ref) ∧ Paired (RuAt K CR H) as R ∧ R.length ≤ 10 ∧ (∀ q ∈ r :: R, q.ss.length ≤ 900) ∧
  SqL K H ah (A.map V.str) ∧ SqL K H be (B.map V.str) ∧ ∀ H', Same H H' → Q (.bl (stw r R A B)) H'
section
variable {P : Program} {w : World} {K : PySem.W.Frag} {mg : Str → Option Value} {base : Heap} {CR : Addr}
/-- an iteration over a list or a tuple -/
theorem pi_or2 {X : Cx} {tg e : Expr} {w1 w2 : TI} (h1 : PI X tg e w1) (h2 : PI X tg e w2) : PI X tg e (fun σ H R => w1 σ H R ∨ w2 σ H R) := ⟨fun pins s σ H R I h => h.elim (h1.run pins s σ H R I) (h2.run pins s σ H R I)⟩
/-- the rules of which something is true -/
theorem st_lc {σ : L2.St} {H : Hp} {Q : VK} {tt : TT} {ea : Addr} {as : List Addr} {R : List Ru} {pd : Ru → Bool} (h1 : σ[1]? = some (some (.ref ea))) (hS : Sq K H ea (as.map V.ref)) (pr : Paired (RuAt K CR H) as R) (lR : R.length ≤ 10)
    (hw : ∀ x, wipe ((wipe σ [8]).set 8 x) [8] = wipe σ [8]) (hv8 : ∀ x, ((wipe σ [8]).set 8 (some x))[8]? = some (some x))
    (htt : ∀ q r H1 (Qb : Bool → Hp → Prop), Same H H1 → RuAt K CR H1 q r → Qb (pd r) H1 → tt ((wipe σ [8]).set 8 (some (.ref q))) H1 Qb)
    (k : ∀ D H' bs, Same H H' → H D = none → H' D = some (.lst (bs.map V.ref)) → Paired (RuAt K CR H) bs (R.filter pd) → Q (.ref D) H') :
    tLc (fun σ H R => iList K (tVar 1) σ H R ∨ iTup K (tVar 1) σ H R) (gName 8) tt (tVar 8) [8] σ H Q := by
  have la := paired_n pr
  have step : ∀ D, H D = none → ∀ (i : Nat) (x : V) (H1 H1' : Hp), i < (as.map V.ref).length → (Same H H1 ∧ ∃ bs : List Addr, H1 D = some (.lst (bs.map V.ref)) ∧ Paired (RuAt K CR H) bs ((R.take i).filter pd)) → YAt (as.map V.ref) i H1 x H1' →
      gName 8 x (wipe σ [8]) H1' fun σ2 H2 => wipe σ2 [8] = wipe σ [8] ∧ tt σ2 H2 fun b H3 => if b = true then tVar 8 σ2 H3 fun y H4 => ∃ acc, H4 D = some (.lst acc) ∧ acc.length < sizeLine ∧ (Same H (upd H4 D (.lst (acc ++ [y]))) ∧ ∃ bs : List Addr, (upd H4 D (.lst (acc ++ [y]))) D = some (.lst (bs.map V.ref)) ∧ Paired (RuAt K CR H) bs ((R.take (i + 1)).filter pd))
        else (Same H H3 ∧ ∃ bs : List Addr, H3 D = some (.lst (bs.map V.ref)) ∧ Paired (RuAt K CR H) bs ((R.take (i + 1)).filter pd)) := by
    rintro D hD i x H1 H1' hi ⟨sm, bs, hv, pb⟩ ⟨rfl, hx⟩
    rw [List.getElem?_map] at hx
    obtain ⟨q, hq, rfl⟩ := Option.map_eq_some_iff.mp hx
    obtain ⟨r, hr, hra⟩ := pairAtI pr hq
    have st : (R.take (i + 1)).filter pd = (R.take i).filter pd ++ (if pd r = true then [r] else []) := by
      rw [take_next hr, List.filter_append, List.filter_cons]
      rfl
    refine ⟨hw _, ?_⟩
    refine htt q r _ _ sm (hra.same sm) ?_
    by_cases e : pd r = true
    · refine ifT e ?_
      refine ⟨_, hv8 _, _, hv, ?_, same_put sm hD, bs ++ [q], ?_, ?_⟩
      · have h1 := paired_n pb
        have h2 := List.length_filter_le pd (R.take i)
        have h3 := List.length_take_le' i R
        rw [List.length_map]
        exact small1000 (by omega)
      · rw [upd_same, List.map_append]
        rfl
      · rw [st, if_pos e]
        exact pairedApp pb (.cons hra .nil)
    · refine ifF (by simpa using e) ?_
      refine ⟨sm, bs, hv, ?_⟩
      rw [st, if_neg e, List.append_nil]
      exact pb
  have fin : ∀ D, H D = none → ∀ H', (Same H H' ∧ ∃ bs : List Addr, H' D = some (.lst (bs.map V.ref)) ∧ Paired (RuAt K CR H) bs ((R.take (as.map V.ref).length).filter pd)) → Q (.ref D) H' := fun D hD H' ⟨sm, bs, hv, pb⟩ => by
    rw [List.length_map, la, List.take_length] at pb
    exact k D H' bs sm hD hv pb
  rcases hS with hS | hS
  · refine .inl ⟨_, h1, ea, rfl, ⟨_, hS⟩, fun D hD => ?_⟩
    exact lc_it (walk_list (xs := as.map V.ref)) (fun i H' => Same H H' ∧ ∃ bs : List Addr, H' D = some (.lst (bs.map V.ref)) ∧ Paired (RuAt K CR H) bs ((R.take i).filter pd)) ⟨same_new hD, [], upd_same, .nil⟩ (fun i H' _ q => same_sqL q.1 hS) (step D hD) (fin D hD)
  · refine .inr ⟨_, h1, ea, rfl, ⟨_, hS⟩, fun D hD => ?_⟩
    exact lc_it (walk_tup (xs := as.map V.ref)) (fun i H' => Same H H' ∧ ∃ bs : List Addr, H' D = some (.lst (bs.map V.ref)) ∧ Paired (RuAt K CR H) bs ((R.take i).filter pd)) ⟨same_new hD, [], upd_same, .nil⟩ (fun i H' _ q => same_sqT q.1 hS) (step D hD) (fin D hD)
theorem ok_st {f : Addr} {fd : FuncData} (F : Fun K "_says_twice" "_says_twice" sST f fd) (T : RT K mg CR) (any : mg "any" = none) : FnOk P w K mg base CX0 2 f fd ["new", "earlier", "ahead", "behind"] (spST K CR) := by
  refine F.ok scST (fun vs H Q E h => ?_) (fun cdv A outer s H vs Q E hr h => ?_)
  · obtain ⟨q0, ea, ah, be, r, as, R, A0, B0, rfl, _⟩ := h
    rfl
  · obtain ⟨q0, ea, ah, be, r0, as, R, A0, B0, rfl, hq0, hS, pr, lR, lS, hA, hB, k⟩ := h
    refine ⟨_, pss_cons (ps_set (i := 4) scST.nd rfl (.inl rfl) (pe_lst (pa_cons (pv 0) (pa_star (pe_lc (own := [("rule", 8)]) (g := gName 8) rfl scST.nd (pi_or2 (pi_list (pv 1)) (pi_tup (pv 1))) (blkOk_by (N := nST) (sc := defScope sST) (by decide +kernel))
        (fun _ _ _ _ _ => pg_name (i := 8) scST.nd rfl (Or.inl rfl)) (fun _ _ _ _ _ => pts_one (pt_cmpR (show OpR _ (compareOp .In) (rIn K false) from op_in_seq) (show PE _ _ (tFld K (tVar 8) "end") from pe_fld (pv 8) rfl) (pv 2) (by with_unfolding_all rfl))) (fun _ _ _ _ _ => pv 8)) pa_nil))))
      (pss_cons (ps_set (i := 5) scST.nd rfl (.inl rfl) (pe_lst (pa_cons (pv 0) (pa_star (pe_lc (own := [("rule", 8)]) (g := gName 8) rfl scST.nd (pi_or2 (pi_list (pv 1)) (pi_tup (pv 1))) (blkOk_by (N := nST) (sc := defScope sST) (by decide +kernel))
        (fun _ _ _ _ _ => pg_name (i := 8) scST.nd rfl (Or.inl rfl)) (fun _ _ _ _ _ => pts_one (pt_cmpR (show OpR _ (compareOp .In) (rIn K false) from op_in_seq) (show PE _ _ (tFld K (tVar 8) "start") from pe_fld (pv 8) rfl) (pv 3) (by with_unfolding_all rfl))) (fun _ _ _ _ _ => pv 8)) pa_nil))))
      (pss_cons (ps_for PassesOwn.never rfl (pi_list (pv 4)) (pg_name (i := 6) scST.nd rfl (Or.inr rfl))
        (pss_one (ps_for PassesOwn.never rfl (pi_list (pv 5)) (pg_name (i := 7) scST.nd rfl (Or.inl rfl))
          (pss_one (ps_if (PW.pt (pw_and (pt_cmpR op_ne (pe_fld (pv 6) rfl) (pe_fld (pv 7) rfl) (by rfl)) (pw_and1 (pt_val (pe_callB (cr_any rfl) (by rfl) any (by decide +kernel) (pa_cons (pe_lc (own := [("sort", 9)]) (g := gName 9) (tt := tYes) rfl scST.nd (pi_tup (pe_fld (pv 7) rfl)) (blkOk_by (N := nST) (sc := defScope sST) (by decide +kernel))
            (fun _ _ _ _ _ => pg_name (i := 9) scST.nd rfl (Or.inl rfl)) (fun _ _ _ _ _ => pts_nil)
            (fun _ _ _ _ _ => pe_cmpR (show OpR _ (compareOp .In) (rIn K false) from op_in_seq) (pv 9) (show PE _ _ (tFld K (tVar 6) "says") from pe_fld (pv 6) rfl) (by with_unfolding_all rfl))) pa_nil))))))
            (pss_one (ps_ret pe_bl)) pss_nil)))))
      (pss_one (ps_ret pe_bl)))), ?_⟩
    refine ⟨_, rfl, ?_⟩
    refine st_lc (CR := CR) (pd := fun q => decide (q.e ∈ A0)) rfl hS pr lR (fun _ => rfl) (fun _ => rfl) (fun q r H1 Qb sm hq hQ => ?_) fun D1 H1 bs1 s1 n1 hv1 pb1 => ?_
    · obtain ⟨ws, hq⟩ := hq
      obtain ⟨dx, tw, ts, h1, h2, h3⟩ := hq.ob
      refine ⟨_, rfl, q, CR, dx, _, _, rfl, h1, T.cl, T.nE, r5_end .., _, rfl, ah, _, rfl, .inl (same_sqL sm hA), rfl, flat_strs _, _, rfl, ?_⟩
      rw [show (if false = true then !inV (V.str r.e) (A0.map V.str) else inV (V.str r.e) (A0.map V.str)) = decide (r.e ∈ A0) from inV_mem _ _]
      exact hQ
    have lb1 := paired_n pb1
    have lf1 := List.length_filter_le (fun q : Ru => decide (q.e ∈ A0)) R
    refine ⟨D1, bs1.map V.ref, rfl, .inr (SqL.of hv1), ?_, fun L1 hL1 => ?_⟩
    · rw [List.append_nil, List.length_cons, List.length_map]
      exact Nat.le_of_lt (small1000 (by omega))
    have s2 := s1.trans (same_new (o := .lst (V.ref q0 :: (bs1.map V.ref ++ []))) hL1)
    have e1 : V.ref q0 :: (bs1.map V.ref ++ []) = (q0 :: bs1).map V.ref := by rw [List.append_nil]; rfl
    have hO1 : upd H1 L1 (.lst (V.ref q0 :: (bs1.map V.ref ++ []))) L1 = some (.lst ((q0 :: bs1).map V.ref)) := by rw [upd_same, e1]
    generalize upd H1 L1 (.lst (V.ref q0 :: (bs1.map V.ref ++ []))) = G1 at s2 hO1 ⊢
    refine ⟨_, rfl, ?_⟩
    refine st_lc (CR := CR) (pd := fun q => decide (q.s ∈ B0)) rfl (hS.same s2) (L2.Paired.mapP pr fun _ _ g => RuAt.same s2 g) lR (fun _ => rfl) (fun _ => rfl) (fun q r H1 Qb sm hq hQ => ?_) fun D2 H2 bs2 s3 n2 hv2 pb2 => ?_
    · obtain ⟨ws, hq⟩ := hq
      obtain ⟨dx, tw, ts, h1, h2, h3⟩ := hq.ob
      refine ⟨_, rfl, q, CR, dx, _, _, rfl, h1, T.cl, T.nS, r5_start .., _, rfl, be, _, rfl, .inl (same_sqL (s2.trans sm) hB), rfl, flat_strs _, _, rfl, ?_⟩
      rw [show (if false = true then !inV (V.str r.s) (B0.map V.str) else inV (V.str r.s) (B0.map V.str)) = decide (r.s ∈ B0) from inV_mem _ _]
      exact hQ
    have lb2 := paired_n pb2
    have lf2 := List.length_filter_le (fun q : Ru => decide (q.s ∈ B0)) R
    refine ⟨D2, bs2.map V.ref, rfl, .inr (SqL.of hv2), ?_, fun L2' hL2 => ?_⟩
    · rw [List.append_nil, List.length_cons, List.length_map]
      exact Nat.le_of_lt (small1000 (by omega))
    have s4 := s3.trans (same_new (o := .lst (V.ref q0 :: (bs2.map V.ref ++ []))) hL2)
    have e2 : V.ref q0 :: (bs2.map V.ref ++ []) = (q0 :: bs2).map V.ref := by rw [List.append_nil]; rfl
    have hO2 : upd H2 L2' (.lst (V.ref q0 :: (bs2.map V.ref ++ []))) L2' = some (.lst ((q0 :: bs2).map V.ref)) := by rw [upd_same, e2]
    generalize upd H2 L2' (.lst (V.ref q0 :: (bs2.map V.ref ++ []))) = G at s4 hO2 ⊢
    have sG := s2.trans s4
    have hO1 := s4 _ _ hO1
    have p1 : Paired (RuAt K CR G) (q0 :: bs1) (r0 :: R.filter fun q => decide (q.e ∈ A0)) := .cons (hq0.same sG) (L2.Paired.mapP pb1 fun _ _ g => RuAt.same sG g)
    have p2 : Paired (RuAt K CR G) (q0 :: bs2) (r0 :: R.filter fun q => decide (q.s ∈ B0)) := .cons (hq0.same sG) (L2.Paired.mapP pb2 fun _ _ g => RuAt.same s4 g)
    have ls1 : ∀ q ∈ (r0 :: R.filter fun q => decide (q.e ∈ A0)), q.ss.length ≤ 900 := fun q hq => lS q (by
      rcases List.mem_cons.mp hq with e | m
      · exact List.mem_cons.mpr (.inl e)
      · exact List.mem_cons_of_mem _ (List.mem_filter.mp m).1)
    have ls2 : ∀ q ∈ (r0 :: R.filter fun q => decide (q.s ∈ B0)), q.ss.length ≤ 900 := fun q hq => lS q (by
      rcases List.mem_cons.mp hq with e | m
      · exact List.mem_cons.mpr (.inl e)
      · exact List.mem_cons_of_mem _ (List.mem_filter.mp m).1)
    have k : ∀ H', Same G H' → Q (.bl ((r0 :: R.filter fun q => decide (q.e ∈ A0)).any fun one => (r0 :: R.filter fun q => decide (q.s ∈ B0)).any fun ot => !decide (one.n = ot.n) && shareS one ot)) H' := fun H' s => k H' (sG.trans s)
    generalize (r0 :: R.filter fun q => decide (q.e ∈ A0)) = O1 at p1 ls1 k
    generalize (r0 :: R.filter fun q => decide (q.s ∈ B0)) = O2 at p2 ls2 k
    generalize (q0 :: bs1) = as1 at p1 hO1
    generalize (q0 :: bs2) = as2 at p2 hO2
    have l1 := paired_n p1
    have l2 := paired_n p2
    clear s4 sG s2 s3 s1
    refine ⟨_, rfl, L1, rfl, ⟨_, sqL_of hO1⟩, ?_⟩
    refine for_it (walk_list (xs := as1.map V.ref)) (fun i σ H' => Same G H' ∧ ((O1.take i).any fun one => O2.any fun ot => !decide (one.n = ot.n) && shareS one ot) = false ∧ ∃ v6 v7 v8 v9, σ = [some (.ref q0), some (.ref ea), some (.ref ah), some (.ref be), some (.ref L1), some (.ref L2'), v6, v7, v8, v9])
      ⟨Same.refl G, by simp, none, none, none, none, rfl⟩ (fun i σ H' _ q => sqL_of (q.1 _ _ hO1)) ?_ ?_
    · rintro i x σ H1' Hi hi ⟨sm, good, v6, v7, v8, v9, rfl⟩ ⟨rfl, hx⟩
      rw [List.getElem?_map] at hx
      obtain ⟨q, hq, rfl⟩ := Option.map_eq_some_iff.mp hx
      obtain ⟨rq, hrq, wq, haq⟩ := pairAtI p1 hq
      refine ⟨_, rfl, L2', rfl, ⟨_, sqL_of (sm _ _ hO2)⟩, ?_⟩
      refine for_it (walk_list (xs := as2.map V.ref)) (fun j σ H' => Same G H' ∧ ((O2.take j).any fun ot => !decide (rq.n = ot.n) && shareS rq ot) = false ∧ ∃ v7 v8 v9, σ = [some (.ref q0), some (.ref ea), some (.ref ah), some (.ref be), some (.ref L1), some (.ref L2'), some (.ref q), v7, v8, v9])
        ⟨sm, by simp, v7, v8, v9, rfl⟩ (fun j σ H' _ z => sqL_of (z.1 _ _ hO2)) ?_ ?_
      · rintro j y σ H3' H3 hj ⟨sj, gj, u7, u8, u9, rfl⟩ ⟨rfl, hy⟩
        rw [List.getElem?_map] at hy
        obtain ⟨c, hc, rfl⟩ := Option.map_eq_some_iff.mp hy
        obtain ⟨rc, hrc, wc, hac⟩ := pairAtI p2 hc
        obtain ⟨dc, twc, tsc, c1, c2, c3⟩ := (hac.same sj).ob
        obtain ⟨dx3, tw3, ts3, z1, z2, z3⟩ := (haq.same sj).ob
        have one : (O2.any fun ot => !decide (rq.n = ot.n) && shareS rq ot) = true → (O1.any fun one => O2.any fun ot => !decide (one.n = ot.n) && shareS one ot) = true := fun e => any_hit (p := fun (one : Ru) => O2.any fun ot => !decide (one.n = ot.n) && shareS one ot) hrq e
        refine ⟨_, rfl, q, CR, dx3, _, _, rfl, z1, T.cl, T.nN, r5_name .., _, rfl, c, CR, dc, _, _, rfl, c1, T.cl, T.nN, r5_name .., rfl, _, rfl, ?_⟩
        by_cases e1 : rq.n = rc.n
        · refine ifF (by simp [e1]) ?_
          refine iteF ?_
          refine ⟨sj, ?_, _, u8, u9, rfl⟩
          rw [any_take hrc, gj, decide_eq_true e1]
          rfl
        refine ifT (by simp [e1]) ?_
        refine ⟨_, rfl, c, CR, dc, _, _, rfl, c1, T.cl, T.nY, r5_says .., ?_⟩
        refine ⟨tsc, rfl, ⟨_, c3⟩, fun D hD => ?_⟩
        refine lc_it (walk_tup (xs := rc.ss.map V.str)) (fun n H' => Same H3 H' ∧ H' D = some (.lst (((rc.ss.take n).map fun z => decide (z ∈ rq.ss)).map V.bl))) ⟨same_new hD, upd_same⟩ (fun n H' _ q => same_sqT q.1 c3) ?_ ?_
        · rintro n x2 Hn0 Hn hn ⟨sn, hv⟩ ⟨rfl, hx2⟩
          rw [List.getElem?_map] at hx2
          obtain ⟨z, hz, rfl⟩ := Option.map_eq_some_iff.mp hx2
          refine ⟨rfl, ?_⟩
          unfold tYes
          refine iteT ?_
          refine ⟨_, rfl, _, rfl, q, CR, dx3, _, _, rfl, sn _ _ z1, T.cl, T.nY, r5_says .., ts3, _, rfl, .inr (same_sqT sn z3), rfl, flat_strs _, _, hv, ?_, same_put sn hD, ?_⟩
          · have h5 := List.length_take_le' n rc.ss
            have h6 := ls2 rc (List.mem_of_getElem? hrc)
            rw [List.length_map, List.length_map]
            exact small1000 (by omega)
          · rw [upd_same, take_next hz, List.map_append, List.map_append]
            show some (HO.lst (_ ++ [V.bl (inV (V.str z) (rq.ss.map V.str))])) = _
            rw [inV_mem]
            rfl
        · rintro H4 ⟨sn, hv⟩
          rw [List.length_map, List.take_length] at hv
          refine ⟨D, _, rfl, SqL.of hv, ?_⟩
          have e0 : (rc.ss.map fun z => decide (z ∈ rq.ss)).any id = shareS rq rc := by
            unfold shareS
            rw [List.any_map]
            rfl
          rw [e0]
          refine ⟨_, rfl, ?_⟩
          cases e2 : shareS rq rc with
          | true =>
            refine iteT ?_
            have : (O1.any fun one => O2.any fun ot => !decide (one.n = ot.n) && shareS one ot) = true := one (any_hit hrc (by rw [decide_eq_false e1, e2]; rfl))
            rw [this] at k
            exact k H4 (sj.trans sn)
          | false =>
            refine iteF ?_
            refine ⟨sj.trans sn, ?_, _, _, _, rfl⟩
            rw [any_take hrc, gj, e2]
            simp
      · rintro σ H3 ⟨sj, gj, u7, u8, u9, rfl⟩
        rw [List.length_map, l2, List.take_length] at gj
        refine ⟨sj, ?_, _, u7, u8, u9, rfl⟩
        rw [any_take hrq, good, gj]
        rfl
    · rintro σ H1 ⟨sm, good, v6, v7, v8, v9, rfl⟩
      rw [List.length_map, l1, List.take_length] at good
      rw [good] at k
      exact k H1 sm
end
end Mv
/-! _may_stand -/
namespace Mv
open PySem PySem.Spec PyProof.Rows L2 Rq
def mayO (zs : List Str) (R : List Ru) : Option Ru → Bool
  | none => false
  | some r => mayS zs R r
/-- a rule, or another thing -/
def TRu (K : PySem.W.Frag) (CR : Addr) (H : Hp) (x : V) (o : Option Ru) : Prop := (∃ a r, x = .ref a ∧ o = some r ∧ RuAt K CR H a r ∧ r.ss.length ≤ 900) ∨ (o = none ∧ ∀ H', Same H H' → ∃ t, TyX K H' x t ∧ PySem.W.kitOne K t (.ref CR) = some false)
theorem TRu.same {K : PySem.W.Frag} {CR : Addr} {H H' : Hp} {x : V} {o : Option Ru} (s : Same H H') (h : TRu K CR H x o) : TRu K CR H' x o := by
  rcases h with ⟨a, r, e1, e2, h, l⟩ | ⟨e, h⟩
  · exact .inl ⟨a, r, e1, e2, h.same s, l⟩
  · exact .inr ⟨e, fun H2 s2 => h H2 (s.trans s2)⟩
abbrev sMS : Stmt := top 47
abbrev msB : List Stmt := defBody sMS
abbrev nMS : List Str := ["places", "earlier", "thing", "behind", "ahead", "rule"]
theorem scMS : FnScope nMS ["places", "earlier", "thing"] (defScope sMS) := ⟨rfl, rfl, rfl, by decide +kernel, rfl, by decide +kernel, by decide +kernel⟩
def spMS (K : PySem.W.Frag) (CR : Addr) : Sp := fun vs H Q _ => ∃ (pl ea : Addr) (x : V) (zs : List Str) (as : List Addr) (R : List Ru) (o : Option Ru), vs = [.ref pl, .ref ea, x] ∧ Sq K H pl (zs.map V.str) ∧ Sq K H ea (as.map V.ref) ∧ Paired (RuAt K CR H) as R ∧ R.length ≤ 10 ∧ FineR zs R ∧ (∀ r ∈ R, r.ss.length ≤ 900) ∧ TRu K CR H x o ∧ ∀ H', Same H H' → Q (.bl (mayO zs R o)) H'
abbrev MsX (P : Program) (w : World) (K : PySem.W.Frag) (mg : Str → Option Value) (base : Heap) (f : Addr) (cdv : Value) (A : Around) (outer : List Env) (s : Shared) (H : Hp) (E : XK) : Cx := (cxOf CX0 P w K mg base nMS "_may_stand" (defScope sMS) f cdv A outer s H E).nox
structure MsT (P : Program) (w : World) (K : PySem.W.Frag) (mg : Str → Option Value) (base : Heap) (CR fE : Addr) : Prop where
  rt : RT K mg CR
  fq : FQ K mg CR fE
  gR : mg "Rule" = some (.ref CR)
  pb : Dn P w K mg base CX0 1 "_places_linked" ["steps", "place"] (spPL K)
  st : Dn P w K mg base CX0 2 "_says_twice" ["new", "earlier", "ahead", "behind"] (spST K CR)
section
variable {P : Program} {w : World} {K : PySem.W.Frag} {mg : Str → Option Value} {base : Heap} {CR fE : Addr}
variable {f : Addr} {cdv : Value} {A : Around} {outer : List Env} {s : Shared} {H0 : Hp} {E0' : XK}
/-- the names of the earlier rules -/
theorem ms_names {as : List Addr} {R : List Ru} {G : Hp} {D : Addr} {J : It} {Yg : Hp → Prop} {σ : L2.St} {Qd : Hp → Prop} (T : RT K mg CR) (wk : Walk J (as.map V.ref).length Yg (YAt (as.map V.ref))) (hY : ∀ H', Same G H' → Yg H') (pr : Paired (RuAt K CR G) as R) (lR : R.length ≤ 10) (hD : G D = none) (hw : ∀ x, wipe ((wipe σ [5]).set 5 x) [5] = wipe σ [5]) (hv5 : ∀ x, ((wipe σ [5]).set 5 (some x))[5]? = some (some x))
    (k : ∀ H', Same G H' → H' D = some (.lst ((R.map Ru.n).map V.str)) → Qd H') :
    ∃ W : Nat → Nat → Hp → Prop, (∃ m, W 0 m (upd G D (.lst []))) ∧ ∀ n m H, W n m H →
      (J.stop n H ∧ Qd H) ∨ (J.go n H ∧ ∃ Nx : Hp → Prop, (∀ H', Nx H' → ∃ m', m' < m ∧ W (n + 1) m' H') ∧ ∀ x H', J.yld n H x H' → gName 5 x (wipe σ [5]) H' fun σ2 H2 => wipe σ2 [5] = wipe σ [5] ∧ tYes σ2 H2 fun b H3 =>
        if b = true then (tFld K (tVar 5) "name") σ2 H3 fun y H4 => ∃ acc, H4 D = some (.lst acc) ∧ acc.length < sizeLine ∧ Nx (upd H4 D (.lst (acc ++ [y]))) else Nx H3) := by
  have la := paired_n pr
  refine lc_it wk (fun j H' => Same G H' ∧ H' D = some (.lst (((R.take j).map Ru.n).map V.str))) ⟨same_new hD, upd_same⟩ (fun j H' _ q => hY H' q.1) ?_ ?_
  · rintro j x2 Hj0 Hj hj ⟨sj, hv⟩ ⟨rfl, hx2⟩
    rw [List.getElem?_map] at hx2
    obtain ⟨q, hq, rfl⟩ := Option.map_eq_some_iff.mp hx2
    obtain ⟨r, hr2, ws, hra⟩ := pairAtI pr hq
    obtain ⟨dx, tw, ts, h1, h2, h3⟩ := (hra.same sj).ob
    refine ⟨hw _, ?_⟩
    unfold tYes
    refine iteT ?_
    refine ⟨_, hv5 _, q, CR, dx, _, _, rfl, h1, T.cl, T.nN, r5_name .., _, hv, ?_, same_put sj hD, ?_⟩
    · rw [List.length_map, List.length_map, List.length_take]
      exact small1000 (by omega)
    · rw [upd_same, take_next hr2, List.map_append, List.map_append]
      rfl
  · rintro H2 ⟨sj, hv⟩
    rw [List.length_map, la, List.take_length] at hv
    exact k H2 sj hv
/-- the first statement: what is no rule, or has a name that was there -/
theorem ms_0 {pl ea : Addr} {x : V} {as : List Addr} {R : List Ru} {o : Option Ru} {H : Hp} (T : MsT P w K mg base CR fE) (hS : Sq K H ea (as.map V.ref)) (pr : Paired (RuAt K CR H) as R) (lR : R.length ≤ 10) (hx : TRu K CR H x o) :
    ∃ t, PS (MsX P w K mg base f cdv A outer s H0 E0') (stAt msB 0) t ∧ ∀ D, (mayO [] R o = false → (∀ r, o = some r → r.n ∈ R.map Ru.n) → ∀ H', Same H H' → D.rt (.bl false) H') → (∀ a r, x = .ref a → o = some r → RuAt K CR H a r → r.ss.length ≤ 900 → r.n ∉ R.map Ru.n → ∀ H', Same H H' → D.nx [some (.ref pl), some (.ref ea), some x, none, none, none] H') → t D [some (.ref pl), some (.ref ea), some x, none, none, none] H := by
  rcases hS with hS | hS
  · refine ⟨_, ps_if (PW.pt (pw_or (pt_not (pt_val (pe_callB call_isi (by rfl) T.fq.isi (by decide +kernel) (pa_cons (pv 2) (pa_cons (pe_glob (v := .ref CR) rfl T.gR rfl) pa_nil)))))
      (pw_or1 (pt_cmpR op_in_seq (pe_fld (pv 2) rfl) (pe_lc (own := [("rule", 5)]) (g := gName 5) (tt := tYes) rfl scMS.nd (pi_list (pv 1)) (blkOk_by (N := nMS) (sc := defScope sMS) (by decide +kernel))
        (fun _ _ _ _ _ => pg_name (i := 5) scMS.nd rfl (Or.inl rfl)) (fun _ _ _ _ _ => pts_nil) (fun _ _ _ _ _ => show PE _ _ (tFld K (tVar 5) "name") from pe_fld (pv 5) rfl)) (by rfl))))) (pss_one (ps_ret pe_bl)) pss_nil, fun D kf kt => ?_⟩
    rcases hx with ⟨q, r, rfl, rfl, hq, lr⟩ | ⟨rfl, hx⟩
    · obtain ⟨ws, hr0⟩ := hq
      obtain ⟨dx, tw, ts, h1, h2, h3⟩ := hr0.ob
      refine ⟨_, rfl, _, _, _, _, true, rfl, .own CR, ty_rule T.rt T.fq hr0, T.fq.kit, true, rfl, ?_⟩
      refine iteF ?_
      refine ⟨_, rfl, q, CR, dx, _, _, rfl, h1, T.rt.cl, T.rt.nN, r5_name .., _, rfl, ea, rfl, ⟨_, hS⟩, fun R0 hR0 => ?_⟩
      refine ms_names T.rt (walk_list (xs := as.map V.ref)) (fun H' s => same_sqL s hS) pr lR hR0 (fun _ => rfl) (fun _ => rfl) fun H1 s1 hv => ?_
      refine ⟨R0, _, rfl, .inl (SqL.of hv), rfl, flat_strs _, _, rfl, ?_⟩
      rw [show (if false = true then !inV (V.str r.n) ((R.map Ru.n).map V.str) else inV (V.str r.n) ((R.map Ru.n).map V.str)) = decide (r.n ∈ R.map Ru.n) from inV_mem _ _]
      by_cases e : r.n ∈ R.map Ru.n
      · refine ifT (decide_eq_true e) ?_
        exact kf (by show mayS [] R r = false; unfold mayS; rw [decide_eq_true e]; rfl) (fun r2 e2 => by cases e2; exact e) H1 s1
      · refine ifF (decide_eq_false e) ?_
        exact kt q r rfl rfl ⟨ws, hr0⟩ lr e H1 s1
    · obtain ⟨t, ty, ht⟩ := hx H (Same.refl H)
      refine ⟨_, rfl, _, _, _, _, false, rfl, .own CR, ty, ht, false, rfl, ?_⟩
      refine iteT ?_
      refine iteT ?_
      exact kf rfl (fun r e => by cases e) H (Same.refl H)
  · refine ⟨_, ps_if (PW.pt (pw_or (pt_not (pt_val (pe_callB call_isi (by rfl) T.fq.isi (by decide +kernel) (pa_cons (pv 2) (pa_cons (pe_glob (v := .ref CR) rfl T.gR rfl) pa_nil)))))
      (pw_or1 (pt_cmpR op_in_seq (pe_fld (pv 2) rfl) (pe_lc (own := [("rule", 5)]) (g := gName 5) (tt := tYes) rfl scMS.nd (pi_tup (pv 1)) (blkOk_by (N := nMS) (sc := defScope sMS) (by decide +kernel))
        (fun _ _ _ _ _ => pg_name (i := 5) scMS.nd rfl (Or.inl rfl)) (fun _ _ _ _ _ => pts_nil) (fun _ _ _ _ _ => show PE _ _ (tFld K (tVar 5) "name") from pe_fld (pv 5) rfl)) (by rfl))))) (pss_one (ps_ret pe_bl)) pss_nil, fun D kf kt => ?_⟩
    rcases hx with ⟨q, r, rfl, rfl, hq, lr⟩ | ⟨rfl, hx⟩
    · obtain ⟨ws, hr0⟩ := hq
      obtain ⟨dx, tw, ts, h1, h2, h3⟩ := hr0.ob
      refine ⟨_, rfl, _, _, _, _, true, rfl, .own CR, ty_rule T.rt T.fq hr0, T.fq.kit, true, rfl, ?_⟩
      refine iteF ?_
      refine ⟨_, rfl, q, CR, dx, _, _, rfl, h1, T.rt.cl, T.rt.nN, r5_name .., _, rfl, ea, rfl, ⟨_, hS⟩, fun R0 hR0 => ?_⟩
      refine ms_names T.rt (walk_tup (xs := as.map V.ref)) (fun H' s => same_sqT s hS) pr lR hR0 (fun _ => rfl) (fun _ => rfl) fun H1 s1 hv => ?_
      refine ⟨R0, _, rfl, .inl (SqL.of hv), rfl, flat_strs _, _, rfl, ?_⟩
      rw [show (if false = true then !inV (V.str r.n) ((R.map Ru.n).map V.str) else inV (V.str r.n) ((R.map Ru.n).map V.str)) = decide (r.n ∈ R.map Ru.n) from inV_mem _ _]
      by_cases e : r.n ∈ R.map Ru.n
      · refine ifT (decide_eq_true e) ?_
        exact kf (by show mayS [] R r = false; unfold mayS; rw [decide_eq_true e]; rfl) (fun r2 e2 => by cases e2; exact e) H1 s1
      · refine ifF (decide_eq_false e) ?_
        exact kt q r rfl rfl ⟨ws, hr0⟩ lr e H1 s1
    · obtain ⟨t, ty, ht⟩ := hx H (Same.refl H)
      refine ⟨_, rfl, _, _, _, _, false, rfl, .own CR, ty, ht, false, rfl, ?_⟩
      refine iteT ?_
      refine iteT ?_
      exact kf rfl (fun r e => by cases e) H (Same.refl H)
theorem callC {sp : Sp} {dvs : List V} {E : XK} {te : TE} {t : TA} {σ : L2.St} {H : Hp} {Q : VK} (h : te σ H fun x H1 => t σ H1 fun xs H2 => sp ((x :: xs) ++ dvs) H2 Q E) : tCall sp dvs E (tCons te t) σ H Q := h
/-- pairs of places of rules -/
theorem ms_lc {σ : L2.St} {H : Hp} {Q : VK} {te : TE} {ea : Addr} {as : List Addr} {R : List Ru} {g : Ru → Ru} (h1 : σ[1]? = some (some (.ref ea))) (hS : Sq K H ea (as.map V.ref)) (pr : Paired (RuAt K CR H) as R) (lR : R.length ≤ 10)
    (hw : ∀ x, wipe ((wipe σ [5]).set 5 x) [5] = wipe σ [5])
    (hte : ∀ q r H1 (Qb : VK), Same H H1 → RuAt K CR H1 q r → (∀ c, H1 c = none → Qb (.ref c) (upd H1 c (.tup [.str (g r).s, .str (g r).e]))) → te ((wipe σ [5]).set 5 (some (.ref q))) H1 Qb)
    (k : ∀ D H' ts, Same H H' → H' D = some (.lst (ts.map V.ref)) → Paired (StepAt K H') ts (R.map g) → Q (.ref D) H') :
    tLc (fun σ H R => iList K (tVar 1) σ H R ∨ iTup K (tVar 1) σ H R) (gName 5) tYes te [5] σ H Q := by
  have la := paired_n pr
  have step : ∀ D, H D = none → ∀ (i : Nat) (x : V) (H1 H1' : Hp), i < (as.map V.ref).length → (Same H H1 ∧ ∃ bs : List Addr, H1 D = some (.lst (bs.map V.ref)) ∧ Paired (StepAt K H1) bs ((R.take i).map g)) → YAt (as.map V.ref) i H1 x H1' →
      gName 5 x (wipe σ [5]) H1' fun σ2 H2 => wipe σ2 [5] = wipe σ [5] ∧ tYes σ2 H2 fun b H3 => if b = true then te σ2 H3 fun y H4 => ∃ acc, H4 D = some (.lst acc) ∧ acc.length < sizeLine ∧ (Same H (upd H4 D (.lst (acc ++ [y]))) ∧ ∃ bs : List Addr, (upd H4 D (.lst (acc ++ [y]))) D = some (.lst (bs.map V.ref)) ∧ Paired (StepAt K (upd H4 D (.lst (acc ++ [y])))) bs ((R.take (i + 1)).map g))
        else (Same H H3 ∧ ∃ bs : List Addr, H3 D = some (.lst (bs.map V.ref)) ∧ Paired (StepAt K H3) bs ((R.take (i + 1)).map g)) := by
    rintro D hD i x H1 H1' hi ⟨sm, bs, hv, pb⟩ ⟨rfl, hx⟩
    rw [List.getElem?_map] at hx
    obtain ⟨q, hq, rfl⟩ := Option.map_eq_some_iff.mp hx
    obtain ⟨r, hr, hra⟩ := pairAtI pr hq
    refine ⟨hw _, ?_⟩
    unfold tYes
    refine iteT ?_
    refine hte q r _ _ sm (hra.same sm) fun c hc => ?_
    have sc := same_new (o := .tup [V.str (g r).s, V.str (g r).e]) hc
    have hv2 := sc _ _ hv
    refine ⟨_, hv2, ?_, same_put (sm.trans sc) hD, bs ++ [c], ?_, ?_⟩
    · have h1 := paired_n pb
      rw [List.length_map] at h1
      have h3 := List.length_take_le' i R
      rw [List.length_map]
      exact small1000 (by omega)
    · rw [upd_same, List.map_append]
      rfl
    · rw [take_next hr, List.map_append]
      exact pairedApp (L2.Paired.mapP pb fun _ _ h => sqT_put hv2 (same_sqT sc h)) (.cons (sqT_put hv2 (.inl (.inl upd_same))) .nil)
  have fin : ∀ D, H D = none → ∀ H', (Same H H' ∧ ∃ bs : List Addr, H' D = some (.lst (bs.map V.ref)) ∧ Paired (StepAt K H') bs ((R.take (as.map V.ref).length).map g)) → Q (.ref D) H' := fun D hD H' ⟨sm, bs, hv, pb⟩ => by
    rw [List.length_map, la, List.take_length] at pb
    exact k D H' bs sm hv pb
  rcases hS with hS | hS
  · refine .inl ⟨_, h1, ea, rfl, ⟨_, hS⟩, fun D hD => ?_⟩
    exact lc_it (walk_list (xs := as.map V.ref)) (fun i H' => Same H H' ∧ ∃ bs : List Addr, H' D = some (.lst (bs.map V.ref)) ∧ Paired (StepAt K H') bs ((R.take i).map g)) ⟨same_new hD, [], upd_same, .nil⟩ (fun i H' _ q => same_sqL q.1 hS) (step D hD) (fin D hD)
  · refine .inr ⟨_, h1, ea, rfl, ⟨_, hS⟩, fun D hD => ?_⟩
    exact lc_it (walk_tup (xs := as.map V.ref)) (fun i H' => Same H H' ∧ ∃ bs : List Addr, H' D = some (.lst (bs.map V.ref)) ∧ Paired (StepAt K H') bs ((R.take i).map g)) ⟨same_new hD, [], upd_same, .nil⟩ (fun i H' _ q => same_sqT q.1 hS) (step D hD) (fin D hD)
theorem msB_eq : msB = [stAt msB 0, stAt msB 1, stAt msB 2, stAt msB 3, stAt msB 4, stAt msB 5] := rfl
theorem ok_ms {f : Addr} {fd : FuncData} (F : Fun K "_may_stand" "_may_stand" sMS f fd) (T : MsT P w K mg base CR fE) : FnOk P w K mg base CX0 3 f fd ["places", "earlier", "thing"] (spMS K CR) := by
  refine F.ok scMS (fun vs H Q E h => ?_) (fun cdv A outer s H vs Q E hr h => ?_)
  · obtain ⟨pl, ea, x, zs, as, R, o, rfl, _⟩ := h
    rfl
  · obtain ⟨pl, ea, x, zs, as, R, o, rfl, hP, hS, pr, lR, fine, lS, hx, k⟩ := h
    obtain ⟨t0, p0, k0⟩ := ms_0 (f := f) (cdv := cdv) (A := A) (outer := outer) (s := s) (H0 := H) (E0' := E) (pl := pl) T hS pr lR hx
    have p1 : PS (MsX P w K mg base f cdv A outer s H E) (stAt msB 1) _ := ps_if (PW.pt (pw_or (pt_cmpR op_notIn_seq (pe_fld (pv 2) rfl) (pv 0) (by with_unfolding_all rfl)) (pw_or1 (pt_cmpR op_notIn_seq (pe_fld (pv 2) rfl) (pv 0) (by with_unfolding_all rfl))))) (pss_one (ps_ret pe_bl)) pss_nil
    have p2 : PS (MsX P w K mg base f cdv A outer s H E) (stAt msB 2) _ := ps_set (i := 3) scMS.nd rfl (.inl rfl) (pe_d (E := E0) T.pb hr (by decide) rfl pass0 (pa_cons (pe_lc (own := [("rule", 5)]) (g := gName 5) (tt := tYes) rfl scMS.nd (pi_or2 (pi_list (pv 1)) (pi_tup (pv 1))) (blkOk_by (N := nMS) (sc := defScope sMS) (by decide +kernel))
        (fun _ _ _ _ _ => pg_name (i := 5) scMS.nd rfl (Or.inl rfl)) (fun _ _ _ _ _ => pts_nil) (fun _ _ _ _ _ => pe_tup (pa_cons (show PE _ _ (tFld K (tVar 5) "start") from pe_fld (pv 5) rfl) (pa_cons (show PE _ _ (tFld K (tVar 5) "end") from pe_fld (pv 5) rfl) pa_nil)))) (pa_cons (pe_fld (pv 2) rfl) pa_nil)))
    have p3 : PS (MsX P w K mg base f cdv A outer s H E) (stAt msB 3) _ := ps_if (pt_cmpR op_in_seq (pe_fld (pv 2) rfl) (pv 3) (by with_unfolding_all rfl)) (pss_one (ps_ret pe_bl)) pss_nil
    have p4 : PS (MsX P w K mg base f cdv A outer s H E) (stAt msB 4) _ := ps_set (i := 4) scMS.nd rfl (.inl rfl) (pe_d (E := E0) T.pb hr (by decide) rfl pass0 (pa_cons (pe_lc (own := [("rule", 5)]) (g := gName 5) (tt := tYes) rfl scMS.nd (pi_or2 (pi_list (pv 1)) (pi_tup (pv 1))) (blkOk_by (N := nMS) (sc := defScope sMS) (by decide +kernel))
        (fun _ _ _ _ _ => pg_name (i := 5) scMS.nd rfl (Or.inl rfl)) (fun _ _ _ _ _ => pts_nil) (fun _ _ _ _ _ => pe_tup (pa_cons (show PE _ _ (tFld K (tVar 5) "end") from pe_fld (pv 5) rfl) (pa_cons (show PE _ _ (tFld K (tVar 5) "start") from pe_fld (pv 5) rfl) pa_nil)))) (pa_cons (pe_fld (pv 2) rfl) pa_nil)))
    have p5 : PS (MsX P w K mg base f cdv A outer s H E) (stAt msB 5) _ := ps_ret (pe_not (pe_d (E := E0) T.st hr (by decide) rfl pass0 (pa_cons (pv 2) (pa_cons (pv 1) (pa_cons (pv 4) (pa_cons (pv 3) pa_nil))))))
    refine ⟨_, by rw [show defBody sMS = msB from rfl, msB_eq]; exact pss_cons p0 (pss_cons p1 (pss_cons p2 (pss_cons p3 (pss_cons p4 (pss_one p5))))), ?_⟩
    refine k0 _ (fun e hn H1 s1 => ?_) (fun a r ex eo ha lr nn H1 s1 => ?_)
    · have e2 : mayO zs R o = false := by
        cases o with
        | none => rfl
        | some r =>
          show mayS zs R r = false
          unfold mayS
          rw [decide_eq_true (hn r rfl)]
          rfl
      rw [e2] at k
      exact k H1 s1
    subst ex eo
    obtain ⟨ws, hr0⟩ := ha
    obtain ⟨dx, tw, ts, h1, h2, h3⟩ := (hr0.same s1).ob
    have hP1 := hP.same s1
    have k : ∀ H', Same H H' → Q (.bl (mayS zs R r)) H' := k
    unfold mayS at k
    rw [decide_eq_false nn] at k
    refine ⟨_, rfl, a, CR, dx, _, _, rfl, h1, T.rt.cl, T.rt.nS, r5_start .., _, rfl, pl, _, rfl, hP1, rfl, flat_strs _, _, rfl, ?_⟩
    rw [show (if true = true then !inV (V.str r.s) (zs.map V.str) else inV (V.str r.s) (zs.map V.str)) = !decide (r.s ∈ zs) from by rw [← inV_mem]; rfl]
    by_cases e1 : r.s ∈ zs
    rotate_left
    · rw [decide_eq_false e1] at k ⊢
      refine iteT ?_
      refine iteT ?_
      exact k H1 s1
    rw [decide_eq_true e1] at k ⊢
    refine iteF ?_
    refine ⟨_, rfl, a, CR, dx, _, _, rfl, h1, T.rt.cl, T.rt.nE, r5_end .., _, rfl, pl, _, rfl, hP1, rfl, flat_strs _, _, rfl, ?_⟩
    rw [show (if true = true then !inV (V.str r.e) (zs.map V.str) else inV (V.str r.e) (zs.map V.str)) = !decide (r.e ∈ zs) from by rw [← inV_mem]; rfl]
    by_cases e2 : r.e ∈ zs
    rotate_left
    · rw [decide_eq_false e2] at k ⊢
      refine iteT ?_
      exact k H1 s1
    rw [decide_eq_true e2] at k ⊢
    refine iteF ?_
    have pr1 : Paired (RuAt K CR H1) as R := L2.Paired.mapP pr fun _ _ g => RuAt.same s1 g
    refine nxt ?_
    dsimp only
    refine seq_asg ?_
    refine callC ?_
    refine ms_lc (CR := CR) (g := id) rfl (hS.same s1) pr1 lR (fun _ => rfl) (fun q r2 H2 Qb sm hq hQ => ?_) fun D H2 ts s2 hv pt => ?_
    · obtain ⟨ws2, hq⟩ := hq
      obtain ⟨dx2, tw2, ts2, i1, i2, i3⟩ := hq.ob
      exact ⟨_, rfl, q, CR, dx2, _, _, rfl, i1, T.rt.cl, T.rt.nS, r5_start .., _, rfl, q, CR, dx2, _, _, rfl, i1, T.rt.cl, T.rt.nE, r5_end .., (by show 2 ≤ sizeLine; decide), fun c hc => hQ c hc⟩
    rw [List.map_id] at pt
    have s12 := s1.trans s2
    obtain ⟨dx2, tw2, ts2, i1, i2, i3⟩ := (hr0.same s12).ob
    refine ⟨_, rfl, a, CR, dx2, _, _, rfl, i1, T.rt.cl, T.rt.nE, r5_end .., ?_⟩
    refine ⟨D, ts, R, r.e, rfl, sqL_of hv, pt, by omega, fun b L H3 s3 nb hb hL => ?_⟩
    have s13 := s12.trans s3
    obtain ⟨dx3, tw3, ts3, j1, j2, j3⟩ := (hr0.same s13).ob
    refine ⟨_, rfl, a, CR, dx3, _, _, rfl, j1, T.rt.cl, T.rt.nS, r5_start .., _, rfl, b, _, rfl, .inl (sqL_of hb), rfl, flat_strs _, _, rfl, ?_⟩
    rw [show (if false = true then !inV (V.str r.s) (L.map V.str) else inV (V.str r.s) (L.map V.str)) = decide (r.s ∈ L) from inV_mem _ _]
    by_cases e3 : r.s ∈ L
    · rw [decide_eq_true (beh_iff.mpr ((hL _).mp e3))] at k
      refine ifT (decide_eq_true e3) ?_
      exact k H3 s13
    have nr : ¬ Rch R r.e r.s := fun z => e3 ((hL _).mpr z)
    rw [decide_eq_false fun z => nr (beh_iff.mp z)] at k
    refine ifF (decide_eq_false e3) ?_
    have pr3 : Paired (RuAt K CR H3) as R := L2.Paired.mapP pr fun _ _ g => RuAt.same s13 g
    refine nxt ?_
    dsimp only
    refine seq_asg ?_
    refine callC ?_
    refine ms_lc (CR := CR) (g := rev) rfl (hS.same s13) pr3 lR (fun _ => rfl) (fun q r2 H2 Qb sm hq hQ => ?_) fun D2 H4 ts4 s4 hv4 pt4 => ?_
    · obtain ⟨ws2, hq⟩ := hq
      obtain ⟨dx2, tw2, ts2, i1, i2, i3⟩ := hq.ob
      exact ⟨_, rfl, q, CR, dx2, _, _, rfl, i1, T.rt.cl, T.rt.nE, r5_end .., _, rfl, q, CR, dx2, _, _, rfl, i1, T.rt.cl, T.rt.nS, r5_start .., (by show 2 ≤ sizeLine; decide), fun c hc => hQ c hc⟩
    have s14 := s13.trans s4
    obtain ⟨dx4, tw4, ts4', l1, l2, l3⟩ := (hr0.same s14).ob
    refine ⟨_, rfl, a, CR, dx4, _, _, rfl, l1, T.rt.cl, T.rt.nS, r5_start .., ?_⟩
    refine ⟨D2, ts4, R.map rev, r.s, rfl, sqL_of hv4, pt4, by rw [List.length_map]; omega, fun b2 A2 H5 s5 nb2 hb2 hA => ?_⟩
    have s15 := s14.trans s5
    have hA2 : ∀ x, x ∈ A2 ↔ Rch R x r.s := fun x => (hA x).trans rch_rev
    refine ⟨_, rfl, _, rfl, _, rfl, _, rfl, ?_⟩
    refine ⟨a, ea, b2, b, r, as, R, A2, L, rfl, ⟨ws, hr0.same s15⟩, hS.same s15, L2.Paired.mapP pr fun _ _ g => RuAt.same s15 g, lR, fun q hq => ?_, sqL_of hb2, sqL_of ((s4.trans s5) _ _ hb), fun H6 s6 => ?_⟩
    · rcases List.mem_cons.mp hq with e | m
      · rw [e]; exact lr
      · exact lS q m
    · rw [stw_eq fine.cyc fine.tw fine.nd nn nr hA2 hL]
      exact ⟨_, rfl, k H6 (s15.trans s6)⟩
end
end Mv
/-! _first_bad_rule -/
namespace Mv
open PySem PySem.Spec PyProof.Rows L2 Rq
/-- the rules among things -/
def rusOf (os : List (Option Ru)) : List Ru := os.filterMap id
def badR (zs : List Str) (os : List (Option Ru)) (i : Nat) : Bool := decide (8 ≤ i) || !mayO zs (rusOf (os.take i)) ((os[i]?).getD none)
def FbrOut (H : Hp) (zs : List Str) (os : List (Option Ru)) (Q : VK) : Prop := (∀ i : Nat, i < os.length → badR zs os i = true → (∀ j, j < i → badR zs os j = false) → ∀ H', Same H H' → Q (.int i) H') ∧ ((∀ j, j < os.length → badR zs os j = false) → ∀ H', Same H H' → Q .non H')
def spFbr (K : PySem.W.Frag) (CR : Addr) : Sp := fun vs H Q _ => ∃ (pl : Addr) (x : V) (zs : List Str), vs = [.ref pl, x] ∧ Sq K H pl (zs.map V.str) ∧
  (((∀ H', Same H H' → Kl K H' x false) ∧ ∀ H', Same H H' → Q (.int 0) H') ∨ ∃ a xs os, x = .ref a ∧ Sq K H a xs ∧ Paired (TRu K CR H) xs os ∧ FbrOut H zs os Q)
abbrev sFbr : Stmt := top 46
abbrev nFb : List Str := ["places", "rules", "index", "rule"]
theorem scFb : FnScope nFb ["places", "rules"] (defScope sFbr) := ⟨rfl, rfl, rfl, by decide +kernel, rfl, by decide +kernel, by decide +kernel⟩
/-- where all ahead were right, they are rules -/
theorem all_some {zs : List Str} {os : List (Option Ru)} : ∀ {i : Nat}, i ≤ os.length → (∀ j, j < i → badR zs os j = false) → os.take i = (rusOf (os.take i)).map some
  | 0, _, _ => by simp [rusOf]
  | i + 1, hi, h => by
    have hlt : i < os.length := hi
    have e := List.getElem?_eq_getElem hlt
    have ih := all_some (i := i) (Nat.le_of_succ_le hi) fun j hj => h j (by omega)
    have b := h i (Nat.lt_succ_self i)
    unfold badR at b
    rw [e] at b
    obtain ⟨_, b2⟩ := Bool.or_eq_false_iff.mp b
    have b3 : mayO zs (rusOf (os.take i)) os[i] = true := by
      have q : (!mayO zs (rusOf (os.take i)) os[i]) = false := b2
      cases z : mayO zs (rusOf (os.take i)) os[i] with
      | true => rfl
      | false => rw [z] at q; cases q
    cases z : os[i] with
    | none => rw [z] at b3; cases b3
    | some r =>
      rw [z] at e
      have q : rusOf (os.take (i + 1)) = rusOf (os.take i) ++ [r] := by
        unfold rusOf
        rw [take_next e, List.filterMap_append]
        rfl
      rw [q, take_next e, List.map_append, ← ih]
      rfl
theorem fine_rus {zs : List Str} {os : List (Option Ru)} : ∀ {i : Nat}, i ≤ os.length → (∀ j, j < i → badR zs os j = false) → FineR zs (rusOf (os.take i))
  | 0, _, _ => by
    rw [List.take_zero]
    exact .nil
  | i + 1, hi, h => by
    have hlt : i < os.length := hi
    have e := List.getElem?_eq_getElem hlt
    have ih := fine_rus (i := i) (Nat.le_of_succ_le hi) fun j hj => h j (by omega)
    have b := h i (Nat.lt_succ_self i)
    unfold badR at b
    rw [e] at b
    obtain ⟨_, b2⟩ := Bool.or_eq_false_iff.mp b
    have b3 : mayO zs (rusOf (os.take i)) os[i] = true := by
      have q : (!mayO zs (rusOf (os.take i)) os[i]) = false := b2
      cases z : mayO zs (rusOf (os.take i)) os[i] with
      | true => rfl
      | false => rw [z] at q; cases q
    cases z : os[i] with
    | none => rw [z] at b3; cases b3
    | some r =>
      rw [z] at e b3
      have q : rusOf (os.take (i + 1)) = rusOf (os.take i) ++ [r] := by
        unfold rusOf
        rw [take_next e, List.filterMap_append]
        rfl
      rw [q]
      exact .snoc ih b3
theorem rus_len {zs : List Str} {os : List (Option Ru)} {i : Nat} (hi : i ≤ os.length) (h : ∀ j, j < i → badR zs os j = false) : (rusOf (os.take i)).length = i := by
  have e := congrArg List.length (all_some hi h)
  rw [List.length_map, List.length_take, Nat.min_eq_left hi] at e
  exact e.symm
section
variable {K : PySem.W.Frag} {CR : Addr} {H : Hp}
theorem pr_rus : ∀ {xs : List V} {R : List Ru}, Paired (TRu K CR H) xs (R.map some) → ∃ as : List Addr, xs = as.map V.ref ∧ Paired (RuAt K CR H) as R ∧ ∀ r ∈ R, r.ss.length ≤ 900
  | [], [], .nil => ⟨[], rfl, .nil, fun r h => by simp at h⟩
  | x :: xs, r :: R, .cons h t => by
    obtain ⟨as, rfl, pr, l⟩ := pr_rus t
    rcases h with ⟨a, r2, rfl, e, hr, lr⟩ | ⟨e, _⟩
    · cases e
      refine ⟨a :: as, rfl, .cons hr pr, fun q hq => ?_⟩
      rcases List.mem_cons.mp hq with rfl | hq
      · exact lr
      · exact l q hq
    · cases e
theorem pair_take {α β : Type} {R : α → β → Prop} : ∀ {as : List α} {bs : List β}, Paired R as bs → ∀ i, Paired R (as.take i) (bs.take i)
  | _, _, .nil, i => by simp; exact .nil
  | _, _, .cons h t, 0 => .nil
  | _, _, .cons h t, i + 1 => .cons h (pair_take t i)
end
section
variable {P : Program} {w : World} {K : PySem.W.Frag} {mg : Str → Option Value} {base : Heap} {CR : Addr}
theorem ok_fbr {f : Addr} {fd : FuncData} (F : Fun K "_first_bad_rule" "_first_bad_rule" sFbr f fd) (L : Dn P w K mg base CX0 1 "is_list" ["thing"] (spIsList K)) (M : Dn P w K mg base CX0 3 "_may_stand" ["places", "earlier", "thing"] (spMS K CR)) (mr : ∃ t, mg "MOST_RULES" = some (.int 8 t)) (en : mg "enumerate" = none) : FnOk P w K mg base CX0 4 f fd ["places", "rules"] (spFbr K CR) := by
  obtain ⟨tM, hM⟩ := mr
  refine F.ok scFb (fun vs H Q E h => ?_) (fun cdv A outer s H vs Q E hr h => ?_)
  · obtain ⟨pl, x, zs, rfl, _⟩ := h
    rfl
  · obtain ⟨pl, x, zs, rfl, hP, h⟩ := h
    have step : ∀ {xs : List V} {os : List (Option Ru)} {i : Nat} {x : V}, Paired (TRu K CR H) xs os → xs[i]? = some x → (∀ j, j < i → badR zs os j = false) → i < os.length ∧ (i < 8 → ∃ as o, xs.take i = as.map V.ref ∧ Paired (RuAt K CR H) as (rusOf (os.take i)) ∧ (rusOf (os.take i)).length ≤ 10 ∧ FineR zs (rusOf (os.take i)) ∧ (∀ r ∈ rusOf (os.take i), r.ss.length ≤ 900) ∧ TRu K CR H x o ∧ badR zs os i = !mayO zs (rusOf (os.take i)) o) := fun {xs os i x} pr hx good => by
      have lx := paired_n pr
      have hi : i < os.length := by rw [← lx]; exact (List.getElem?_eq_some_iff.mp hx).1
      refine ⟨hi, fun h8 => ?_⟩
      obtain ⟨o, ho, kx⟩ := pairAtI pr hx
      have p2 := pair_take pr i
      rw [all_some (Nat.le_of_lt hi) good] at p2
      obtain ⟨as, e, pa, ls⟩ := pr_rus p2
      refine ⟨as, o, e, pa, by rw [rus_len (Nat.le_of_lt hi) good]; omega, fine_rus (Nat.le_of_lt hi) good, ls, kx, ?_⟩
      unfold badR
      rw [decide_eq_false (by omega), ho]
      rfl
    rcases h with ⟨hk, k⟩ | ⟨a, xs, os, rfl, hS | hS, pr, ki, kn⟩
    · refine ⟨_, pss_cons (ps_if (pt_not (pt_val (pe_d (E := E0) L hr (by decide) rfl pass0 (pa_cons (pv 1) pa_nil)))) (pss_one (ps_ret pe_int)) pss_nil) pss_never, ?_⟩
      refine ⟨_, rfl, _, false, rfl, hk, fun H1 s1 => ⟨_, rfl, ?_⟩⟩
      refine iteT ?_
      exact k H1 s1
    · refine ⟨_, pss_cons (ps_if (pt_not (pt_val (pe_d (E := E0) L hr (by decide) rfl pass0 (pa_cons (pv 1) pa_nil)))) (pss_one (ps_ret pe_int)) pss_nil)
        (pss_cons (ps_for PassesOwn.never rfl (pi_enum (by rfl) en (pa_cons (pv 1) pa_nil)) (pg_tup rfl (pgs_cons (pg_name (i := 2) scFb.nd rfl (Or.inl rfl)) (pgs_cons (pg_name (i := 3) scFb.nd rfl (Or.inl rfl)) pgs_nil)))
          (pss_one (ps_if (PW.pt (pw_or (pt_cmp (pc_ge (pv 2) (pe_glob (v := .int 8) (by rfl) hM ⟨_, rfl⟩))) (pw_or1 (pt_not (pt_val (pe_d (E := E0) M hr (by decide) rfl pass0 (pa_cons (pv 0) (pa_cons (pe_slice sl_list (pv 1) po_none (po_some (pv 2))) (pa_cons (pv 3) pa_nil))))))))) (pss_one (ps_ret (pv 2))) pss_nil))) (pss_one (ps_ret pe_non))), ?_⟩
      refine ⟨_, rfl, _, true, rfl, fun H1 s1 => kl_seq (.inl (same_sqL s1 hS)), fun H1 s1 => ⟨_, rfl, ?_⟩⟩
      refine iteF ?_
      refine ⟨_, rfl, a, xs, rfl, same_sqL s1 hS, ?_⟩
      have lx := paired_n pr
      refine for_it (walk_enum (a := a) (xs := xs)) (fun i σ H' => (∃ u v, σ = [some (.ref pl), some (.ref a), u, v]) ∧ Same H H' ∧ ∀ j, j < i → badR zs os j = false) ⟨⟨none, none, rfl⟩, s1, fun j hj => absurd hj (Nat.not_lt_zero j)⟩ (fun i σ H' _ q => same_sqL q.2.1 hS) ?_ ?_
      · rintro i v0 σ H1 H1' hi ⟨⟨u, v, rfl⟩, sm, good⟩ ⟨Tp, n0, x, rfl, nT, rfl, en0, hx⟩
        cases en0
        have sm1 : Same H (upd H1 Tp (.tup [.int (i : Nat), x])) := sm.trans (same_new nT)
        obtain ⟨hio, st⟩ := step pr hx good
        refine ⟨Tp, _, rfl, .inl (.inl upd_same), rfl, _, _, rfl, ?_⟩
        refine ⟨x, [], rfl, rfl, ?_⟩
        refine ⟨_, rfl, _, _, rfl, rfl, _, rfl, ?_⟩
        by_cases h8 : (8 : Int) ≤ (i : Int)
        · refine ifT (decide_eq_true h8) ?_
          refine iteT ?_
          exact ⟨_, rfl, ki i hio (by unfold badR; rw [decide_eq_true (by omega)]; rfl) good _ sm1⟩
        refine ifF (decide_eq_false h8) ?_
        obtain ⟨as, o, e1, pa, l10, fine, ls, kx, eb⟩ := st (by omega)
        refine ⟨_, rfl, _, rfl, _, rfl, _, rfl, a, xs, rfl, same_sqL sm1 hS, fun p hp => ?_⟩
        have s2 := same_new (o := .lst (cutV xs none (some (i : Int)))) hp
        have sm2 := sm1.trans s2
        refine ⟨_, rfl, pl, p, x, zs, as, rusOf (os.take i), o, rfl, hP.same sm2, .inl ?_, L2.Paired.mapP pa fun _ _ g => RuAt.same sm2 g, l10, fine, ls, kx.same sm2, fun H3 s3 => ⟨_, rfl, ?_⟩⟩
        · rw [← e1, ← cut_take (by omega)]
          exact sqL_of upd_same
        have sm3 := sm2.trans s3
        cases em : mayO zs (rusOf (os.take i)) o with
        | false =>
          refine iteT ?_
          exact ⟨_, rfl, ki i hio (by rw [eb, em]; rfl) good _ sm3⟩
        | true =>
          refine iteF ?_
          refine ⟨⟨_, _, rfl⟩, sm3, fun j hj => ?_⟩
          rcases Nat.lt_succ_iff_lt_or_eq.mp hj with q | q
          · exact good j q
          · rw [q, eb, em]; rfl
      · rintro σ H1 ⟨_, sm, good⟩
        exact kn (fun j hj => good j (lx ▸ hj)) H1 sm
    · refine ⟨_, pss_cons (ps_if (pt_not (pt_val (pe_d (E := E0) L hr (by decide) rfl pass0 (pa_cons (pv 1) pa_nil)))) (pss_one (ps_ret pe_int)) pss_nil)
        (pss_cons (ps_for PassesOwn.never rfl (pi_enumT (by rfl) en (pa_cons (pv 1) pa_nil)) (pg_tup rfl (pgs_cons (pg_name (i := 2) scFb.nd rfl (Or.inl rfl)) (pgs_cons (pg_name (i := 3) scFb.nd rfl (Or.inl rfl)) pgs_nil)))
          (pss_one (ps_if (PW.pt (pw_or (pt_cmp (pc_ge (pv 2) (pe_glob (v := .int 8) (by rfl) hM ⟨_, rfl⟩))) (pw_or1 (pt_not (pt_val (pe_d (E := E0) M hr (by decide) rfl pass0 (pa_cons (pv 0) (pa_cons (pe_slice sl_tup (pv 1) po_none (po_some (pv 2))) (pa_cons (pv 3) pa_nil))))))))) (pss_one (ps_ret (pv 2))) pss_nil))) (pss_one (ps_ret pe_non))), ?_⟩
      refine ⟨_, rfl, _, true, rfl, fun H1 s1 => kl_seq (.inr (same_sqT s1 hS)), fun H1 s1 => ⟨_, rfl, ?_⟩⟩
      refine iteF ?_
      refine ⟨_, rfl, a, xs, rfl, same_sqT s1 hS, ?_⟩
      have lx := paired_n pr
      refine for_enumT (K := K) (a := a) (xs := xs) rfl (fun i σ H' => (∃ u v, σ = [some (.ref pl), some (.ref a), u, v]) ∧ Same H H' ∧ ∀ j, j < i → badR zs os j = false) ⟨⟨none, none, rfl⟩, s1, fun j hj => absurd hj (Nat.not_lt_zero j)⟩ (fun i σ H' q => same_sqT q.2.1 hS) ?_ ?_
      · rintro i x Tp σ H1 hx ⟨⟨u, v, rfl⟩, sm, good⟩ nT
        have sm1 : Same H (upd H1 Tp (.tup [.int (i : Nat), x])) := sm.trans (same_new nT)
        obtain ⟨hio, st⟩ := step pr hx good
        refine ⟨Tp, _, rfl, .inl (.inl upd_same), rfl, _, _, rfl, ?_⟩
        refine ⟨x, [], rfl, rfl, ?_⟩
        refine ⟨_, rfl, _, _, rfl, rfl, _, rfl, ?_⟩
        by_cases h8 : (8 : Int) ≤ (i : Int)
        · refine ifT (decide_eq_true h8) ?_
          refine iteT ?_
          exact ⟨_, rfl, ki i hio (by unfold badR; rw [decide_eq_true (by omega)]; rfl) good _ sm1⟩
        refine ifF (decide_eq_false h8) ?_
        obtain ⟨as, o, e1, pa, l10, fine, ls, kx, eb⟩ := st (by omega)
        have hi : i < xs.length := (List.getElem?_eq_some_iff.mp hx).1
        refine ⟨_, rfl, _, rfl, _, rfl, _, rfl, a, xs, rfl, same_sqT sm1 hS, ?_, fun p hp => ?_⟩
        · rintro ⟨_, z⟩
          rw [sIx_some (Nat.le_of_lt hi)] at z
          omega
        have s2 := same_new (o := .tup (cutV xs none (some (i : Int)))) hp
        have sm2 := sm1.trans s2
        refine ⟨_, rfl, pl, p, x, zs, as, rusOf (os.take i), o, rfl, hP.same sm2, .inr ?_, L2.Paired.mapP pa fun _ _ g => RuAt.same sm2 g, l10, fine, ls, kx.same sm2, fun H3 s3 => ⟨_, rfl, ?_⟩⟩
        · rw [← e1, ← cut_take (by omega)]
          exact sqT_of upd_same
        have sm3 := sm2.trans s3
        cases em : mayO zs (rusOf (os.take i)) o with
        | false =>
          refine iteT ?_
          exact ⟨_, rfl, ki i hio (by rw [eb, em]; rfl) good _ sm3⟩
        | true =>
          refine iteF ?_
          refine ⟨⟨_, _, rfl⟩, sm3, fun j hj => ?_⟩
          rcases Nat.lt_succ_iff_lt_or_eq.mp hj with q | q
          · exact good j q
          · rw [q, eb, em]; rfl
      · rintro σ H1 ⟨_, sm, good⟩
        exact kn (fun j hj => good j (lx ▸ hj)) H1 sm
end
end Mv
/-! _are_begins; x not in a tuple of data -/
namespace Mv
open PySem PySem.Spec PyProof.Rows L2
def rNotInT (K : PySem.W.Frag) : R2 := fun x y H Q => ∃ d ds, Dp K H x d ∧ Dp K H y (.tuple ds) ∧ SeqAt.shaped d = true ∧ SeqAt.shaped (.tuple ds) = true ∧ Q (.bl (!ds.any fun z => PyData.eqv z d)) H
theorem op_notInT {X : Cx} (hu : X.A.units + 65 < cLine) : OpR X (compareOp .NotIn) (rNotInT X.K) := by
  intro pins s σ H x y v u Q I rx ry h
  obtain ⟨d, ds, hd, he, sd, se, q⟩ := h
  obtain ⟨as, r1⟩ := Dp.reads I d x v hd rx
  obtain ⟨bs, r2⟩ := Dp.reads I (.tuple ds) y u he ry
  exact SeqAt.notIn_tuple_reads r2 r1 (SeqAt.canLay_of_shaped se) (SeqAt.canLay_of_shaped sd) (room_in_shaped sd hu) ⟨.bl _, H, I, rfl, q⟩
/-- a list, or what is none -/
def KnL (K : PySem.W.Frag) (H : Hp) (x : V) (o : Option (List V)) : Prop := (o = none ∧ ∀ H', Same H H' → Kl K H' x false) ∨ ∃ a xs, x = .ref a ∧ o = some xs ∧ Sq K H a xs ∧ (∀ y ∈ xs, ∀ H', Same H H' → Kn K H' y) ∧ xs.length ≤ 900
theorem KnL.same {K : PySem.W.Frag} {H H' : Hp} {x : V} {o : Option (List V)} (s : Same H H') (h : KnL K H x o) : KnL K H' x o := by
  rcases h with ⟨e, h⟩ | ⟨a, xs, e, e2, h, kn, l⟩
  · exact .inl ⟨e, fun H2 s2 => h H2 (s.trans s2)⟩
  · exact .inr ⟨a, xs, e, e2, h.same s, fun y hy H2 s2 => kn y hy H2 (s.trans s2), l⟩
def noBad (xs : List V) : Bool := (List.range xs.length).all fun j => !badAt xs j
theorem noBad_iff {xs : List V} : noBad xs = true ↔ ∀ j, j < xs.length → badAt xs j = false := by
  unfold noBad
  rw [List.all_eq_true]
  constructor
  · intro h j hj
    have := h j (List.mem_range.mpr hj)
    cases e : badAt xs j with
    | false => rfl
    | true => rw [e] at this; cases this
  · intro h j hj
    rw [h j (List.mem_range.mp hj)]
    rfl
theorem noBad_false {xs : List V} {i : Nat} (hi : i < xs.length) (h : badAt xs i = true) : noBad xs = false := by
  cases e : noBad xs with
  | false => rfl
  | true => rw [noBad_iff.mp e i hi] at h; cases h
/-- words, all of them -/
theorem noBad_strs : ∀ {xs : List V}, (∀ x ∈ xs, isW x = true) → ∃ zs : List Str, xs = zs.map V.str
  | [], _ => ⟨[], rfl⟩
  | x :: xs, h => by
    obtain ⟨zs, e⟩ := noBad_strs (xs := xs) fun y hy => h y (List.mem_cons_of_mem _ hy)
    obtain ⟨z, rfl⟩ := isW_str (h x List.mem_cons_self)
    exact ⟨z :: zs, by rw [e]; rfl⟩
theorem noBad_isw {xs : List V} (h : noBad xs = true) : ∀ x ∈ xs, isW x = true := fun x hx => by
  obtain ⟨j, hj⟩ := List.mem_iff_getElem?.mp hx
  have b := noBad_iff.mp h j (List.getElem?_eq_some_iff.mp hj).1
  unfold badAt at b
  rw [hj] at b
  have b2 : (!isW x || inV x (xs.take j)) = false := b
  cases e : isW x with
  | true => rfl
  | false => rw [e] at b2; cases b2
def begB (ys : List V) (zs : List Str) : Bool := noBad ys && ys.all fun y => inV y (zs.map V.str)
def spAreB (K : PySem.W.Frag) : Sp := fun vs H Q _ => ∃ (b a : Addr) (ys : List V) (zs : List Str), vs = [.ref b, .ref a] ∧ Sq K H b ys ∧ Sq K H a (zs.map V.str) ∧ ys.length ≤ 900 ∧ (∀ y ∈ ys, ∀ H', Same H H' → Kn K H' y) ∧ ∀ H', Same H H' → Q (.bl (begB ys zs)) H'
abbrev sAreB : Stmt := top 45
theorem scAB : FnScope ["begins", "places", "place"] ["begins", "places"] (defScope sAreB) := ⟨rfl, rfl, rfl, by decide +kernel, rfl, by decide +kernel, by decide +kernel⟩
section
variable {P : Program} {w : World} {K : PySem.W.Frag} {mg : Str → Option Value} {base : Heap}
theorem ab_all {J : It} {Yg : Hp → Prop} {G : Hp} {D a : Addr} {ys : List V} {zs ws : List Str} {σ : L2.St} {Qd : Hp → Prop} (wk : Walk J ys.length Yg (YAt ys)) (hY : ∀ H', Same G H' → Yg H') (hy : ys = ws.map V.str) (ha : Sq K G a (zs.map V.str)) (h1 : σ[1]? = some (some (.ref a))) (ly : ys.length ≤ 900) (hD : G D = none) (hw : ∀ x, wipe ((wipe σ [2]).set 2 x) [2] = wipe σ [2]) (hv2 : ∀ x, ((wipe σ [2]).set 2 (some x))[2]? = some (some x)) (hv1 : ∀ x, ((wipe σ [2]).set 2 x)[1]? = some (some (.ref a)))
    (k : ∀ H', Same G H' → H' D = some (.lst ((ys.map fun y => inV y (zs.map V.str)).map V.bl)) → Qd H') :
    ∃ W : Nat → Nat → Hp → Prop, (∃ m, W 0 m (upd G D (.lst []))) ∧ ∀ n m H, W n m H →
      (J.stop n H ∧ Qd H) ∨ (J.go n H ∧ ∃ Nx : Hp → Prop, (∀ H', Nx H' → ∃ m', m' < m ∧ W (n + 1) m' H') ∧ ∀ x H', J.yld n H x H' → gName 2 x (wipe σ [2]) H' fun σ2 H2 => wipe σ2 [2] = wipe σ [2] ∧ tYes σ2 H2 fun b H3 =>
        if b = true then (tOp (rIn K false) (tVar 2) (tVar 1)) σ2 H3 fun y H4 => ∃ acc, H4 D = some (.lst acc) ∧ acc.length < sizeLine ∧ Nx (upd H4 D (.lst (acc ++ [y]))) else Nx H3) := by
  refine lc_it wk (fun j H' => Same G H' ∧ H' D = some (.lst (((ys.take j).map fun y => inV y (zs.map V.str)).map V.bl))) ⟨same_new hD, upd_same⟩ (fun j H' _ q => hY H' q.1) ?_ ?_
  · rintro j x2 Hj0 Hj hj ⟨sj, hv⟩ ⟨rfl, hx2⟩
    have hx3 := hx2
    rw [hy, List.getElem?_map] at hx3
    obtain ⟨z, hz, rfl⟩ := Option.map_eq_some_iff.mp hx3
    refine ⟨hw _, ?_⟩
    unfold tYes
    refine iteT ?_
    refine ⟨_, hv2 _, _, hv1 _, a, _, rfl, ha.same sj, rfl, flat_strs zs, _, hv, ?_, same_put sj hD, ?_⟩
    · rw [List.length_map, List.length_map, List.length_take]
      exact small1000 (by omega)
    · rw [upd_same, take_next hx2, List.map_append, List.map_append]
      rfl
  · rintro H2 ⟨sj, hv⟩
    rw [List.take_length] at hv
    exact k H2 sj hv
theorem ok_areb {f : Addr} {fd : FuncData} (F : Fun K "_are_begins" "_are_begins" sAreB f fd) (U : Dn P w K mg base CX0 2 "first_unfit" ["words"] (spFirstS K)) (all : mg "all" = none) : FnOk P w K mg base CX0 3 f fd ["begins", "places"] (spAreB K) := by
  refine F.ok scAB (fun vs H Q E h => ?_) (fun cdv A outer s H vs Q E hr h => ?_)
  · obtain ⟨b, a, ys, zs, rfl, _⟩ := h
    rfl
  · obtain ⟨b, a, ys, zs, rfl, hb, ha, ly, hk, k⟩ := h
    have fin : ∀ {H1 H2 : Hp} {R : Addr}, Same H H1 → Same H1 H2 → (∀ j, j < ys.length → badAt ys j = false) → H2 R = some (.lst ((ys.map fun y => inV y (zs.map V.str)).map V.bl)) → rAll K [V.ref R] H2 Q := fun {H1 H2 R} s1 s2 hg hv => by
      refine ⟨R, _, rfl, SqL.of hv, ?_⟩
      have e : (ys.map fun y => inV y (zs.map V.str)).all id = begB ys zs := by
        unfold begB
        rw [noBad_iff.mpr hg, Bool.true_and, List.all_map]
        rfl
      rw [e]
      exact k _ (s1.trans s2)
    rcases hb with hb | hb
    · refine ⟨_, pss_one (ps_ret (pe_and (pe_cmp (pc_isN (pe_d (E := E0) U hr (by decide) rfl pass0 (pa_cons (pv 0) pa_nil))))
        (pe_one (pe_callB (cr_all rfl) (by rfl) all (by decide +kernel) (pa_cons (pe_lc (own := [("place", 2)]) (g := gName 2) (tt := tYes) rfl scAB.nd (pi_list (pv 0)) (blkOk_by (N := ["begins", "places", "place"]) (sc := defScope sAreB) (by decide +kernel))
          (fun _ _ _ _ _ => pg_name (i := 2) scAB.nd rfl (Or.inl rfl)) (fun _ _ _ _ _ => pts_nil) (fun _ _ _ _ _ => pe_cmpR (show OpR _ (compareOp .In) (rIn K false) from op_in_seq) (pv 2) (pv 1) (by with_unfolding_all rfl))) pa_nil))))), ?_⟩
      refine ⟨_, rfl, b, ys, rfl, .inl hb, hk, fun i hi hbd hg H1 s1 => ?_, fun hg H1 s1 => ?_⟩
      · refine ⟨_, rfl, ?_⟩
        refine ifF rfl ?_
        have e : begB ys zs = false := by
          unfold begB
          rw [noBad_false hi hbd]
          rfl
        rw [e] at k
        exact k H1 s1
      · refine ⟨_, rfl, ?_⟩
        refine ifT (decide_eq_true rfl) ?_
        obtain ⟨ws, ey⟩ := noBad_strs (noBad_isw (noBad_iff.mpr hg))
        refine ⟨_, rfl, b, rfl, ⟨_, same_sqL s1 hb⟩, fun R hR => ?_⟩
        exact ab_all (walk_list (xs := ys)) (fun H' s => same_sqL (s1.trans s) hb) ey (ha.same s1) rfl ly hR (fun _ => rfl) (fun _ => rfl) (fun _ => rfl) fun H2 s2 hv => fin s1 s2 hg hv
    · refine ⟨_, pss_one (ps_ret (pe_and (pe_cmp (pc_isN (pe_d (E := E0) U hr (by decide) rfl pass0 (pa_cons (pv 0) pa_nil))))
        (pe_one (pe_callB (cr_all rfl) (by rfl) all (by decide +kernel) (pa_cons (pe_lc (own := [("place", 2)]) (g := gName 2) (tt := tYes) rfl scAB.nd (pi_tup (pv 0)) (blkOk_by (N := ["begins", "places", "place"]) (sc := defScope sAreB) (by decide +kernel))
          (fun _ _ _ _ _ => pg_name (i := 2) scAB.nd rfl (Or.inl rfl)) (fun _ _ _ _ _ => pts_nil) (fun _ _ _ _ _ => pe_cmpR (show OpR _ (compareOp .In) (rIn K false) from op_in_seq) (pv 2) (pv 1) (by with_unfolding_all rfl))) pa_nil))))), ?_⟩
      refine ⟨_, rfl, b, ys, rfl, .inr hb, hk, fun i hi hbd hg H1 s1 => ?_, fun hg H1 s1 => ?_⟩
      · refine ⟨_, rfl, ?_⟩
        refine ifF rfl ?_
        have e : begB ys zs = false := by
          unfold begB
          rw [noBad_false hi hbd]
          rfl
        rw [e] at k
        exact k H1 s1
      · refine ⟨_, rfl, ?_⟩
        refine ifT (decide_eq_true rfl) ?_
        obtain ⟨ws, ey⟩ := noBad_strs (noBad_isw (noBad_iff.mpr hg))
        refine ⟨_, rfl, b, rfl, ⟨_, same_sqT s1 hb⟩, fun R hR => ?_⟩
        exact ab_all (walk_tup (xs := ys)) (fun H' s => same_sqT (s1.trans s) hb) ey (ha.same s1) rfl ly hR (fun _ => rfl) (fun _ => rfl) (fun _ => rfl) fun H2 s2 hv => fin s1 s2 hg hv
end
end Mv
/-! Scheme.__init__ -/
namespace Mv
open PySem PySem.Spec PyProof.Rows L2
abbrev sSInit : Stmt := inClass (top 41) 0
section
variable {K : PySem.W.Frag} {H H' : Hp} {a p : Addr} {xs : List V} {C dx : Addr} {fs : List (Str × V)}
theorem Sq.keep (hp : H p = some (.ins C dx fs)) (k : ∀ b o, H b = some o → b ≠ p → H' b = some o) (h : Sq K H a xs) : Sq K H' a xs :=
  h.elim (fun h => .inl (sqL_keep hp k h)) fun h => .inr (sqT_keep hp k h)
end
def FAU : List PyData := [.str "lying", .str "silent", .str "stopping"]
def fauB (d : PyData) : Bool := FAU.any fun z => PyData.eqv z d
def sfl1 (a : V) : List (Str × V) := putF "_places" a []
def sfl2 (a b : V) : List (Str × V) := putF "_begins" b (sfl1 a)
def sfl3 (a b c : V) : List (Str × V) := putF "_rules" c (sfl2 a b)
def sfl4 (a b c d : V) : List (Str × V) := putF "_promises" d (sfl3 a b c)
def sfl5 (a b c d e : V) : List (Str × V) := putF "faults" e (sfl4 a b c d)
structure STh (P : Program) (w : World) (K : PySem.W.Frag) (mg : Str → Option Value) (base : Heap) (CS CR CC CP CB CU CQ CF fP : Addr) : Prop where
  cl : Cls K CS
  n1 : NoAttr K CS "_places"
  n2 : NoAttr K CS "_begins"
  n3 : NoAttr K CS "_rules"
  n4 : NoAttr K CS "_promises"
  n5 : NoAttr K CS "faults"
  tuple : mg "tuple" = none
  len : mg "len" = none
  mp : ∃ t, mg "MOST_PLACES" = some (.int 7 t)
  fa : ∃ t, mg "FAULTS" = some (.ref t) ∧ ∀ H, SqT K H t [.str "lying", .str "silent", .str "stopping"]
  bp : Err P w K mg base "BadPlaces" CP "words"
  bb : Err P w K mg base "BadBegins" CB "words"
  bu : Err P w K mg base "BadRule" CU "index"
  bq : Err P w K mg base "BadPromise" CQ "index"
  bf : Err P w K mg base "BadFaults" CF "word"
  gL : Dn P w K mg base CX0 1 "is_list" ["thing"] (spIsList K)
  gU : Dn P w K mg base CX0 2 "first_unfit" ["words"] (spFirstS K)
  gA : Dn P w K mg base CX0 3 "_are_begins" ["begins", "places"] (spAreB K)
  gR : Dn P w K mg base CX0 4 "_first_bad_rule" ["places", "rules"] (spFbr K CR)
  gF : Dn P w K mg base CX0 3 "_first_without" ["test", "things"] (spFwoG K (KnP K CC) fP)
  gP : mg "_is_promise" = some (.ref fP)
/-- all is right: the scheme is made -/
def SMade (K : PySem.W.Frag) (CS : Addr) (H : Hp) (p dx : Addr) (zs ys : List Str) (xs ps : List V) (fa : V) (Q : VK) : Prop := ∀ t1 t2 t3 t4 H', SqT K H' t1 (zs.map V.str) → SqT K H' t2 (ys.map V.str) → SqT K H' t3 xs → SqT K H' t4 ps → H' p = some (.ins CS dx (sfl5 (.ref t1) (.ref t2) (.ref t3) (.ref t4) fa)) → (∀ b o, H b = some o → b ≠ p → H' b = some o) → Q .non H'
def KnFa (K : PySem.W.Frag) (H : Hp) (x : V) (d : PyData) : Prop := (∀ H', Same H H' → Dp K H' x d) ∧ SeqAt.shaped d = true
def SFau (K : PySem.W.Frag) (CS CF : Addr) (H : Hp) (p dx : Addr) (zs ys : List Str) (xs ps : List V) (fa : V) (Q : VK) (E : XK) : Prop :=
  ∃ d, KnFa K H fa d ∧ (fauB d = false → RaisedF H CF "word" fa E) ∧ (fauB d = true → SMade K CS H p dx zs ys xs ps fa Q)
def SProm (K : PySem.W.Frag) (CS CC CQ CF : Addr) (H : Hp) (p dx : Addr) (zs ys : List Str) (xs : List V) (pm fa : V) (Q : VK) (E : XK) : Prop :=
  ((∀ H', Same H H' → Kl K H' pm false) ∧ RaisedF H CQ "index" (.int 0) E) ∨ ∃ a4 ps cs, pm = .ref a4 ∧ Sq K H a4 ps ∧ Paired (KnGs (KnP K CC) H) ps cs ∧
    (∀ i : Nat, cs[i]? = some false → (∀ j, j < i → cs[j]? = some true) → RaisedF H CQ "index" (.int i) E) ∧ ((∀ j, j < cs.length → cs[j]? = some true) → SFau K CS CF H p dx zs ys xs ps fa Q E)
def SRules (K : PySem.W.Frag) (CS CR CC CU CQ CF : Addr) (H : Hp) (p dx : Addr) (zs ys : List Str) (ru pm fa : V) (Q : VK) (E : XK) : Prop :=
  ((∀ H', Same H H' → Kl K H' ru false) ∧ RaisedF H CU "index" (.int 0) E) ∨ ∃ a3 xs os, ru = .ref a3 ∧ Sq K H a3 xs ∧ Paired (TRu K CR H) xs os ∧
    (∀ i : Nat, i < os.length → badR zs os i = true → (∀ j, j < i → badR zs os j = false) → RaisedF H CU "index" (.int i) E) ∧ ((∀ j, j < os.length → badR zs os j = false) → SProm K CS CC CQ CF H p dx zs ys xs pm fa Q E)
def placesB : Option (List V) → Bool
  | none => false
  | some xs => (decide (1 ≤ xs.length) && decide (xs.length ≤ 7)) && noBad xs
def beginsB (o : Option (List V)) (zs : List Str) : Bool := match o with
  | none => false
  | some ys => decide (ys.length ≠ 0) && begB ys zs
def spSInit (K : PySem.W.Frag) (CS CR CC CP CB CU CQ CF : Addr) : Sp := fun vs H Q E => ∃ (p dx : Addr) (x1 x2 x3 x4 x5 : V) (o1 o2 : Option (List V)), vs = [.ref p, x1, x2, x3, x4, x5] ∧ H p = some (.ins CS dx []) ∧ KnL K H x1 o1 ∧ KnL K H x2 o2 ∧
  (placesB o1 = false → RaisedF H CP "words" x1 E) ∧ ∀ zs : List Str, o1 = some (zs.map V.str) → placesB o1 = true → (beginsB o2 zs = false → RaisedF H CB "words" x2 E) ∧
    ∀ ys : List Str, o2 = some (ys.map V.str) → beginsB o2 zs = true → SRules K CS CR CC CU CQ CF H p dx zs ys x3 x4 x5 Q E
abbrev nSI : List Str := ["self", "places", "begins", "rules", "promise", "faults", "index"]
theorem scSI : FnScope nSI ["self", "places", "begins", "rules", "promise", "faults"] (defScope sSInit) := ⟨rfl, rfl, rfl, by decide +kernel, rfl, by decide +kernel, by decide +kernel⟩
section
variable {P : Program} {w : World} {K : PySem.W.Frag} {mg : Str → Option Value} {base : Heap} {CS CR CC CP CB CU CQ CF fP : Addr}
theorem ok_sinit {kws : List (Str × V)} {f : Addr} {fd : FuncData} (F : FunD K "__init__" "Scheme.__init__" (defArgs sSInit) (defBody sSInit) (defScope sSInit) [] kws f fd) (T : STh P w K mg base CS CR CC CP CB CU CQ CF fP) :
    FnOk P w K mg base (L2.CX P w) 5 f fd ["self", "places", "begins", "rules", "promise", "faults"] (spSInit K CS CR CC CP CB CU CQ CF) := by
  obtain ⟨tM, hM⟩ := T.mp
  obtain ⟨tF, hF, hFs⟩ := T.fa
  refine F.ok scSI (fun vs H Q E h => ?_) (fun cdv A outer s H vs Q E hr h => ?_)
  · obtain ⟨p, dx, x1, x2, x3, x4, x5, o1, o2, rfl, _⟩ := h
    rfl
  · obtain ⟨p, dx, x1, x2, x3, x4, x5, o1, o2, rfl, hp, k1, k2, hA, h⟩ := h
    refine ⟨_, pss_cons (ps_if (PW.pt (pw_or (pt_not (pt_val (pe_d (E := E0) T.gL hr (by decide) rfl pass0 (pa_cons (pv 1) pa_nil)))) (pw_or (pt_not (pt_chain op_le op_le pe_int (pe_callB call_len_seq (by rfl) T.len PySem.boot_len (pa_cons (pv 1) pa_nil)) (pe_glob (v := .int 7) (by rfl) hM ⟨_, rfl⟩)))
        (pw_or1 (pt_cmp (pc_notN (pe_d (E := E0) T.gU hr (by decide) rfl pass0 (pa_cons (pv 1) pa_nil)))))))) (pss_one (ps_raiseErr rfl T.bp (hr.mono (by decide)) (takes_of rfl rfl rfl rfl) rfl (pv 1))) pss_nil)
      (pss_cons (ps_if (PW.pt (pw_or (pt_not (pt_val (pe_d (E := E0) T.gL hr (by decide) rfl pass0 (pa_cons (pv 2) pa_nil)))) (pw_or (pt_cmp (pc_eqI (pe_callB call_len_seq (by rfl) T.len PySem.boot_len (pa_cons (pv 2) pa_nil)) pe_int))
        (pw_or1 (pt_not (pt_val (pe_d (E := E0) T.gA hr (by decide) rfl pass0 (pa_cons (pv 2) (pa_cons (pv 1) pa_nil))))))))) (pss_one (ps_raiseErr rfl T.bb (hr.mono (by decide)) (takes_of rfl rfl rfl rfl) rfl (pv 2))) pss_nil)
      (pss_cons (ps_set (i := 6) scSI.nd rfl (.inl rfl) (pe_d (E := E0) T.gR hr (by decide) rfl pass0 (pa_cons (pv 1) (pa_cons (pv 3) pa_nil))))
      (pss_cons (ps_if (pt_cmp (pc_notN (pv 6))) (pss_one (ps_raiseErr rfl T.bu (hr.mono (by decide)) (takes_of rfl rfl rfl rfl) rfl (pv 6))) pss_nil)
      (pss_cons (ps_set (i := 6) scSI.nd rfl (.inl rfl) (pe_d (E := E0) T.gF hr (by decide) rfl pass0 (pa_cons (pe_glob (v := .ref fP) rfl T.gP rfl) (pa_cons (pv 4) pa_nil))))
      (pss_cons (ps_if (pt_cmp (pc_notN (pv 6))) (pss_one (ps_raiseErr rfl T.bq (hr.mono (by decide)) (takes_of rfl rfl rfl rfl) rfl (pv 6))) pss_nil)
      (pss_cons (ps_if (pt_cmpR (op_notInT (show (A.deeper (envOfC "Scheme.__init__" (defScope sSInit) s.heap.objs.size f cdv)).units + 65 < cLine from by have := hr.un; omega)) (pv 5) (pe_glob (v := .ref tF) rfl hF rfl) (by with_unfolding_all rfl)) (pss_one (ps_raiseErr rfl T.bf (hr.mono (by decide)) (takes_of rfl rfl rfl rfl) rfl (pv 5))) pss_nil)
      (pss_cons (ps_fld (pv 0) (pe_callTy call_tupS (by rfl) T.tuple (by decide +kernel) (pa_cons (pv 1) pa_nil)) rfl) (pss_cons (ps_fld (pv 0) (pe_callTy call_tupS (by rfl) T.tuple (by decide +kernel) (pa_cons (pv 2) pa_nil)) rfl)
      (pss_cons (ps_fld (pv 0) (pe_callTy call_tupS (by rfl) T.tuple (by decide +kernel) (pa_cons (pv 3) pa_nil)) rfl) (pss_cons (ps_fld (pv 0) (pe_callTy call_tupS (by rfl) T.tuple (by decide +kernel) (pa_cons (pv 4) pa_nil)) rfl)
      (pss_one (ps_fld (pv 0) (pv 5) rfl)))))))))))), ?_⟩
    -- the places
    rcases k1 with ⟨rfl, hk⟩ | ⟨a1, v1, rfl, rfl, q1, kn1, l1⟩
    · refine ⟨_, rfl, _, false, rfl, hk, fun H1 s1 => ⟨_, rfl, ?_⟩⟩
      refine iteT ?_
      refine iteT ?_
      exact ⟨_, rfl, fun d hd => hA rfl d H1 s1 hd⟩
    refine ⟨_, rfl, _, true, rfl, fun H1 s1 => kl_seq (q1.same s1), fun H1 s1 => ⟨_, rfl, ?_⟩⟩
    refine iteF ?_
    refine ⟨_, rfl, a1, _, rfl, q1.same s1, _, _, rfl, rfl, _, rfl, ?_⟩
    by_cases c1 : 1 ≤ v1.length
    rotate_left
    · refine ifF (decide_eq_false (by omega)) ?_
      refine ⟨_, rfl, ?_⟩
      refine iteT ?_
      refine iteT ?_
      exact ⟨_, rfl, fun d hd => hA (by show ((decide (1 ≤ v1.length) && decide (v1.length ≤ 7)) && noBad v1) = false; rw [decide_eq_false c1]; rfl) d H1 s1 hd⟩
    refine ifT (decide_eq_true (by omega)) ?_
    refine ⟨_, _, rfl, rfl, _, rfl, ?_⟩
    by_cases c2 : v1.length ≤ 7
    rotate_left
    · refine ifT (by simp; omega) ?_
      refine iteT ?_
      exact ⟨_, rfl, fun d hd => hA (by show ((decide (1 ≤ v1.length) && decide (v1.length ≤ 7)) && noBad v1) = false; rw [decide_eq_false c2, Bool.and_false]; rfl) d H1 s1 hd⟩
    refine ifF (by simp; omega) ?_
    refine ⟨_, rfl, a1, v1, rfl, q1.same s1, fun y hy H2 s2 => kn1 y hy H2 (s1.trans s2), fun i hi hb hg H2 s2 => ?_, fun hg H2 s2 => ?_⟩
    · refine ⟨_, rfl, ?_⟩
      refine iteT ?_
      exact ⟨_, rfl, fun d hd => hA (by show ((decide (1 ≤ v1.length) && decide (v1.length ≤ 7)) && noBad v1) = false; rw [noBad_false hi hb, Bool.and_false]) d H2 (s1.trans s2) hd⟩
    refine ⟨_, rfl, ?_⟩
    refine iteF ?_
    have nb1 := noBad_iff.mpr hg
    obtain ⟨zs, rfl⟩ := noBad_strs (noBad_isw nb1)
    obtain ⟨hB, hG⟩ := h zs rfl (by show ((decide (1 ≤ (zs.map V.str).length) && decide ((zs.map V.str).length ≤ 7)) && noBad (zs.map V.str)) = true; rw [decide_eq_true c1, decide_eq_true c2, nb1]; rfl)
    have s12 := s1.trans s2
    -- the beginnings
    rcases k2 with ⟨rfl, hk⟩ | ⟨a2, v2, rfl, rfl, q2, kn2, l2⟩
    · refine ⟨_, rfl, _, false, rfl, fun H3 s3 => hk H3 (s12.trans s3), fun H3 s3 => ⟨_, rfl, ?_⟩⟩
      refine iteT ?_
      refine iteT ?_
      exact ⟨_, rfl, fun d hd => hB rfl d H3 (s12.trans s3) hd⟩
    refine ⟨_, rfl, _, true, rfl, fun H3 s3 => kl_seq (q2.same (s12.trans s3)), fun H3 s3 => ⟨_, rfl, ?_⟩⟩
    refine iteF ?_
    have s13 := s12.trans s3
    refine ⟨_, rfl, a2, _, rfl, q2.same s13, _, _, rfl, rfl, _, rfl, ?_⟩
    by_cases c3 : v2.length = 0
    · refine ifT (decide_eq_true (by omega)) ?_
      refine iteT ?_
      exact ⟨_, rfl, fun d hd => hB (by show (decide (v2.length ≠ 0) && begB v2 zs) = false; rw [decide_eq_false (by omega)]; rfl) d H3 s13 hd⟩
    refine ifF (decide_eq_false (by omega)) ?_
    refine ⟨_, rfl, _, rfl, a2, a1, v2, zs, rfl, q2.same s13, q1.same s13, l2, fun y hy H4 s4 => kn2 y hy H4 (s13.trans s4), fun H4 s4 => ⟨_, rfl, ?_⟩⟩
    have s14 := s13.trans s4
    cases c4 : begB v2 zs with
    | false =>
      refine iteT ?_
      exact ⟨_, rfl, fun d hd => hB (by show (decide (v2.length ≠ 0) && begB v2 zs) = false; rw [c4, Bool.and_false]) d H4 s14 hd⟩
    | true =>
    refine iteF ?_
    have nb2 : noBad v2 = true := (Bool.and_eq_true_iff.mp c4).1
    obtain ⟨ys, rfl⟩ := noBad_strs (noBad_isw nb2)
    have hG := hG ys rfl (by show (decide ((ys.map V.str).length ≠ 0) && begB (ys.map V.str) zs) = true; rw [c4, decide_eq_true c3]; rfl)
    -- the rules
    rcases hG with ⟨hk, hR⟩ | ⟨a3, xs, os, rfl, q3, p3, hRb, hG⟩
    · refine ⟨_, rfl, _, rfl, a1, x3, zs, rfl, q1.same s14, .inl ⟨fun H5 s5 => hk H5 (s14.trans s5), fun H5 s5 => ?_⟩⟩
      refine ⟨_, rfl, _, rfl, ?_⟩
      refine iteT ?_
      exact ⟨_, rfl, fun d hd => hR d H5 (s14.trans s5) hd⟩
    refine ⟨_, rfl, _, rfl, a1, _, zs, rfl, q1.same s14, .inr ⟨a3, xs, os, rfl, q3.same s14, L2.Paired.mapP p3 fun _ _ g => g.same s14, fun i hi hb hg H5 s5 => ?_, fun hgR H5 s5 => ?_⟩⟩
    · refine ⟨_, rfl, _, rfl, ?_⟩
      refine iteT ?_
      exact ⟨_, rfl, fun d hd => hRb i hi hb hg d H5 (s14.trans s5) hd⟩
    refine ⟨_, rfl, _, rfl, ?_⟩
    refine iteF ?_
    have s15 := s14.trans s5
    -- the promises
    rcases hG hgR with ⟨hk, hR⟩ | ⟨a4, ps, cs, rfl, q4, p4, hQb, hG⟩
    · refine ⟨_, rfl, _, rfl, .inl ⟨fun H6 s6 => hk H6 (s15.trans s6), fun H6 s6 => ?_⟩⟩
      refine ⟨_, rfl, _, rfl, ?_⟩
      refine iteT ?_
      exact ⟨_, rfl, fun d hd => hR d H6 (s15.trans s6) hd⟩
    refine ⟨_, rfl, _, rfl, .inr ⟨a4, ps, cs, rfl, q4.same s15, L2.Paired.mapP p4 fun _ _ g => g.same s15, fun i hi hg2 H6 s6 => ?_, fun hg2 H6 s6 => ?_⟩⟩
    · refine ⟨_, rfl, _, rfl, ?_⟩
      refine iteT ?_
      exact ⟨_, rfl, fun d hd => hQb i hi hg2 d H6 (s15.trans s6) hd⟩
    refine ⟨_, rfl, _, rfl, ?_⟩
    refine iteF ?_
    have s16 := s15.trans s6
    -- the faults
    obtain ⟨d, ⟨kd, sd⟩, hF0, hM1⟩ := hG hg2
    have dF : Dp K H6 (.ref tF) (.tuple FAU) := .tup (hFs H6) (.cons (.str _) (.cons (.str _) (.cons (.str _) .nil)))
    refine ⟨_, rfl, d, FAU, kd H6 s16, dF, sd, (by decide +kernel), _, rfl, ?_⟩
    cases c5 : fauB d with
    | false =>
      refine ifT (by show (!fauB d) = true; rw [c5]; rfl) ?_
      exact ⟨_, rfl, fun dd hd => hF0 c5 dd H6 s16 hd⟩
    | true =>
    refine ifF (by show (!fauB d) = false; rw [c5]; rfl) ?_
    have md := hM1 c5
    have p6 := s16 _ _ hp
    have k0 : ∀ b o, H b = some o → b ≠ p → H6 b = some o := fun b o e _ => s16 _ _ e
    refine ⟨_, rfl, a1, _, rfl, q1.keep hp k0, fun t1 G1 e1 r1 => ?_⟩
    refine ⟨_, rfl, p, CS, dx, _, rfl, e1 _ _ p6, T.cl, T.n1, (by show 0 < 1000; decide), ?_⟩
    have k1 : ∀ b o, H b = some o → b ≠ p → upd G1 p (.ins CS dx (sfl1 (.ref t1))) b = some o := fun b o e n => by rw [upd_ne n]; exact e1 _ _ (k0 b o e n)
    have r1 := sqT_keep (H' := upd G1 p (.ins CS dx (sfl1 (.ref t1)))) (e1 _ _ p6) (fun b o e n => by rw [upd_ne n]; exact e) r1
    refine ⟨_, rfl, a2, _, rfl, q2.keep hp k1, fun t2 G2 e2 r2 => ?_⟩
    have p2' := e2 _ _ (upd_same (H := G1) (a := p) (o := .ins CS dx (sfl1 (.ref t1))))
    refine ⟨_, rfl, p, CS, dx, _, rfl, p2', T.cl, T.n2, (by show 1 < 1000; decide), ?_⟩
    have u2 : ∀ {a : Addr} {xs : List V}, SqT K G2 a xs → SqT K (upd G2 p (.ins CS dx (sfl2 (.ref t1) (.ref t2)))) a xs := fun h => sqT_keep p2' (fun b o e n => by rw [upd_ne n]; exact e) h
    have r1 := u2 (same_sqT e2 r1)
    have r2 := u2 r2
    have k2 : ∀ b o, H b = some o → b ≠ p → upd G2 p (.ins CS dx (sfl2 (.ref t1) (.ref t2))) b = some o := fun b o e n => by rw [upd_ne n]; exact e2 _ _ (k1 b o e n)
    refine ⟨_, rfl, a3, _, rfl, q3.keep hp k2, fun t3 G3 e3 r3 => ?_⟩
    have p3' := e3 _ _ (upd_same (H := G2) (a := p) (o := .ins CS dx (sfl2 (.ref t1) (.ref t2))))
    refine ⟨_, rfl, p, CS, dx, _, rfl, p3', T.cl, T.n3, (by show 2 < 1000; decide), ?_⟩
    have u3 : ∀ {a : Addr} {xs : List V}, SqT K G3 a xs → SqT K (upd G3 p (.ins CS dx (sfl3 (.ref t1) (.ref t2) (.ref t3)))) a xs := fun h => sqT_keep p3' (fun b o e n => by rw [upd_ne n]; exact e) h
    have r1 := u3 (same_sqT e3 r1)
    have r2 := u3 (same_sqT e3 r2)
    have r3 := u3 r3
    have k3 : ∀ b o, H b = some o → b ≠ p → upd G3 p (.ins CS dx (sfl3 (.ref t1) (.ref t2) (.ref t3))) b = some o := fun b o e n => by rw [upd_ne n]; exact e3 _ _ (k2 b o e n)
    refine ⟨_, rfl, a4, _, rfl, q4.keep hp k3, fun t4 G4 e4 r4 => ?_⟩
    have p4' := e4 _ _ (upd_same (H := G3) (a := p) (o := .ins CS dx (sfl3 (.ref t1) (.ref t2) (.ref t3))))
    refine ⟨_, rfl, p, CS, dx, _, rfl, p4', T.cl, T.n4, (by show 3 < 1000; decide), ?_⟩
    refine ⟨_, rfl, _, rfl, p, CS, dx, _, rfl, upd_same, T.cl, T.n5, (by show 4 < 1000; decide), ?_⟩
    have u5 : ∀ {a : Addr} {xs : List V}, SqT K G4 a xs → SqT K (upd (upd G4 p (.ins CS dx (sfl4 (.ref t1) (.ref t2) (.ref t3) (.ref t4)))) p (.ins CS dx (sfl5 (.ref t1) (.ref t2) (.ref t3) (.ref t4) x5))) a xs := fun h => sqT_keep p4' (fun b o e n => by rw [upd_ne n, upd_ne n]; exact e) h
    exact md t1 t2 t3 t4 _ (u5 (same_sqT e4 r1)) (u5 (same_sqT e4 r2)) (u5 (same_sqT e4 r3)) (u5 r4) upd_same fun b o e n => by rw [upd_ne n, upd_ne n]; exact e4 _ _ (k3 b o e n)
end
end Mv
/-! what is reached by rules; the search by ways -/
namespace Mv
open PySem PySem.Spec PyProof.Rows L2 Rq
/-! the law's search -/
def lots : Nat → List Ru → Str → List Str → List Str → Bool
  | 0, R, p, vis, said => R.any fun r => decide (r.s = p) && (decide (r.e ∈ vis) || r.ss.any fun z => decide (z ∈ said))
  | k + 1, R, p, vis, said => R.any fun r => decide (r.s = p) && ((decide (r.e ∈ vis) || r.ss.any fun z => decide (z ∈ said)) || lots k R r.e (vis ++ [r.e]) (said ++ r.ss))
theorem lots_sound {S : List Ru} : ∀ {k : Nat} {p : Str} {vis said : List Str}, lots k S p vis said = true → Cyc S ∨ Tw S ∨ (∃ q ∈ S, Rch S p q.s ∧ q.e ∈ vis) ∨ ∃ q ∈ S, Rch S p q.s ∧ ∃ z ∈ q.ss, z ∈ said
  | 0, p, vis, said, h => by
    obtain ⟨r, hr, h⟩ := List.any_eq_true.mp h
    obtain ⟨h1, h2⟩ := Bool.and_eq_true_iff.mp h
    have e : r.s = p := of_decide_eq_true h1
    rcases Bool.or_eq_true_iff.mp h2 with h | h
    · exact .inr (.inr (.inl ⟨r, hr, e ▸ .refl _, of_decide_eq_true h⟩))
    · obtain ⟨z, hz, h⟩ := List.any_eq_true.mp h
      exact .inr (.inr (.inr ⟨r, hr, e ▸ .refl _, z, hz, of_decide_eq_true h⟩))
  | k + 1, p, vis, said, h => by
    obtain ⟨r, hr, h⟩ := List.any_eq_true.mp h
    obtain ⟨h1, h2⟩ := Bool.and_eq_true_iff.mp h
    have e : r.s = p := of_decide_eq_true h1
    subst e
    rcases Bool.or_eq_true_iff.mp h2 with h | h
    · rcases Bool.or_eq_true_iff.mp h with h | h
      · exact .inr (.inr (.inl ⟨r, hr, .refl _, of_decide_eq_true h⟩))
      · obtain ⟨z, hz, h⟩ := List.any_eq_true.mp h
        exact .inr (.inr (.inr ⟨r, hr, .refl _, z, hz, of_decide_eq_true h⟩))
    · rcases lots_sound h with h | h | ⟨q, hq, g, h⟩ | ⟨q, hq, g, z, hz, h⟩
      · exact .inl h
      · exact .inr (.inl h)
      · rcases List.mem_append.mp h with h | h
        · exact .inr (.inr (.inl ⟨q, hq, .head hr g, h⟩))
        · refine .inl ⟨q, hq, ?_⟩
          rw [List.mem_singleton.mp h]
          exact g
      · rcases List.mem_append.mp h with h | h
        · exact .inr (.inr (.inr ⟨q, hq, .head hr g, z, hz, h⟩))
        · exact .inr (.inl ⟨r, hr, q, hq, g, List.any_eq_true.mpr ⟨z, hz, decide_eq_true h⟩⟩)
theorem nodup_le : ∀ {vis U : List Str}, vis.Nodup → (∀ v ∈ vis, v ∈ U) → vis.length ≤ U.length
  | [], U, _, _ => Nat.zero_le _
  | a :: r, U, nd, h => by
    obtain ⟨n1, n2⟩ := List.nodup_cons.mp nd
    have ha := h a List.mem_cons_self
    have q := nodup_le (vis := r) (U := U.erase a) n2 fun v hv => (List.mem_erase_of_ne (show v ≠ a from fun e => n1 (by rw [← e]; exact hv))).mpr (h v (List.mem_cons_of_mem _ hv))
    rw [List.length_erase_of_mem ha] at q
    have := List.length_pos_of_mem ha
    show r.length + 1 ≤ U.length
    omega
/-- enough for all that can be visited -/
structure Fuel (S : List Ru) (U vis : List Str) (k : Nat) : Prop where
  e : ∀ r ∈ S, r.e ∈ U
  nd : vis.Nodup
  sub : ∀ v ∈ vis, v ∈ U
  le : U.length ≤ vis.length + k
theorem Fuel.next {S : List Ru} {U vis : List Str} {k : Nat} (F : Fuel S U vis k) {r : Ru} (hr : r ∈ S) (n : r.e ∉ vis) : ∃ j, k = j + 1 ∧ Fuel S U (vis ++ [r.e]) j := by
  have nd : (vis ++ [r.e]).Nodup := by
    rw [List.nodup_append]
    refine ⟨F.nd, by simp, fun a ha b hb => ?_⟩
    rw [List.mem_singleton.mp hb]
    exact fun e => n (e ▸ ha)
  have sub : ∀ v ∈ vis ++ [r.e], v ∈ U := fun v hv => by
    rcases List.mem_append.mp hv with h | h
    · exact F.sub v h
    · rw [List.mem_singleton.mp h]; exact F.e r hr
  have hl : (vis ++ [r.e]).length ≤ U.length := nodup_le nd sub
  rw [List.length_append] at hl
  have l1 : ([r.e] : List Str).length = 1 := rfl
  have := F.le
  match k with
  | 0 => omega
  | j + 1 => exact ⟨j, rfl, F.e, nd, sub, by rw [List.length_append]; omega⟩
theorem lots_any {k : Nat} {S : List Ru} {p : Str} {vis said : List Str} {r : Ru} (hr : r ∈ S) (e : r.s = p) (h : r.e ∈ vis ∨ ∃ z ∈ r.ss, z ∈ said) : lots k S p vis said = true := by
  have b : (decide (r.e ∈ vis) || r.ss.any fun z => decide (z ∈ said)) = true := by
    rcases h with h | ⟨z, hz, h⟩
    · rw [decide_eq_true h]; rfl
    · rw [Bool.or_eq_true_iff]
      exact .inr (List.any_eq_true.mpr ⟨z, hz, decide_eq_true h⟩)
  cases k with
  | zero => exact List.any_eq_true.mpr ⟨r, hr, by rw [decide_eq_true e, b]; rfl⟩
  | succ k => exact List.any_eq_true.mpr ⟨r, hr, by rw [decide_eq_true e, b]; rfl⟩
theorem lots_rec {k : Nat} {S : List Ru} {vis said : List Str} {r : Ru} (hr : r ∈ S) (h : lots k S r.e (vis ++ [r.e]) (said ++ r.ss) = true) : lots (k + 1) S r.s vis said = true :=
  List.any_eq_true.mpr ⟨r, hr, by rw [decide_eq_true rfl, h, Bool.or_true]; rfl⟩
theorem lots_comp {S : List Ru} {U : List Str} {p b : Str} (h : Rch S p b) : ∀ {k : Nat} {vis said : List Str} {q : Ru}, Fuel S U vis k → q ∈ S → b = q.s → (q.e ∈ vis ∨ ∃ z ∈ q.ss, z ∈ said) → lots k S p vis said = true := by
  induction h with
  | refl a =>
    intro k vis said q F hq e g
    exact lots_any hq e.symm g
  | @head r b hr _ ih =>
    intro k vis said q F hq e g
    by_cases m : r.e ∈ vis
    · exact lots_any hr rfl (.inl m)
    · obtain ⟨j, rfl, F2⟩ := F.next hr m
      refine lots_rec hr (ih F2 hq e ?_)
      rcases g with g | ⟨z, hz, g⟩
      · exact .inl (List.mem_append_left _ g)
      · exact .inr ⟨z, hz, List.mem_append_left _ g⟩
/-- the law's search and the program's, where all was right ahead -/
theorem lots_iff {S : List Ru} {r : Ru} {zs : List Str} {k : Nat} (n : ¬ Cyc S) (hs : ∀ q ∈ S ++ [r], q.s ∈ zs) (he : ∀ q ∈ S ++ [r], q.e ∈ zs) (nd : zs.Nodup) (hk : zs.length ≤ 1 + k) :
    (zs.any fun sp => lots k (S ++ [r]) sp [sp] []) = (decide (r.s ∈ behind (S ++ [r]) r.e) || saysTwice (S ++ [r])) := by
  have fu : ∀ sp ∈ zs, Fuel (S ++ [r]) zs [sp] k := fun sp hsp => ⟨he, by simp, fun v hv => by rw [List.mem_singleton.mp hv]; exact hsp, hk⟩
  have hr : r ∈ S ++ [r] := List.mem_append_right _ (List.mem_singleton.mpr rfl)
  rw [Bool.eq_iff_iff]
  constructor
  · intro h
    obtain ⟨sp, hsp, h⟩ := List.any_eq_true.mp h
    rw [Bool.or_eq_true_iff]
    have c : Cyc (S ++ [r]) ∨ Tw (S ++ [r]) := by
      rcases lots_sound h with h | h | ⟨q, hq, g, h⟩ | ⟨q, hq, g, z, hz, h⟩
      · exact .inl h
      · exact .inr h
      · refine .inl ⟨q, hq, ?_⟩
        rw [List.mem_singleton.mp h]
        exact g
      · cases h
    rcases c with c | c
    · exact .inl (decide_eq_true (mem_behind.mpr (cyc_more c n)))
    · exact .inr (tw_iff.mpr c)
  · intro h
    rcases Bool.or_eq_true_iff.mp h with h | h
    · have g := mem_behind.mp (of_decide_eq_true h)
      refine List.any_eq_true.mpr ⟨r.s, hs r hr, ?_⟩
      rcases g.last with e | ⟨q, hq, g2, e⟩
      · exact lots_comp (.refl _) (fu _ (hs r hr)) hr rfl (.inl (by rw [e]; exact List.mem_singleton.mpr rfl))
      · exact lots_comp (.head hr g2) (fu _ (hs r hr)) hq rfl (.inl (by rw [e]; exact List.mem_singleton.mpr rfl))
    · obtain ⟨q, hq, t, ht, g, sh⟩ := tw_iff.mp h
      refine List.any_eq_true.mpr ⟨q.s, hs q hq, ?_⟩
      by_cases m : q.e ∈ [q.s]
      · exact lots_any hq rfl (.inl m)
      · obtain ⟨j, rfl, F2⟩ := (fu _ (hs q hq)).next hq m
        refine lots_rec hq (lots_comp g F2 ht rfl (.inr ?_))
        obtain ⟨z, hz, hz2⟩ := List.any_eq_true.mp sh
        exact ⟨z, hz, List.mem_append_right _ (of_decide_eq_true hz2)⟩
end Mv
/-! the law's _law_lots -/
namespace Mv
open PySem PySem.Spec PyProof.Rows L2 Rq
/-- a line: the tuple of a rule's data -/
def LineAt (H : Hp) (a : Addr) (r : Ru) : Prop := ∃ sl, H a = some (.tup [.str r.n, .str r.s, .str r.e, .ref sl]) ∧ H sl = some (.lst (r.ss.map V.str))
theorem LineAt.same {H H' : Hp} {a : Addr} {r : Ru} (s : Same H H') (h : LineAt H a r) : LineAt H' a r := let ⟨sl, h1, h2⟩ := h; ⟨sl, s _ _ h1, s _ _ h2⟩
theorem dec_str (a b : Str) : decide (V.str a = V.str b) = decide (a = b) := by
  by_cases h : a = b <;> simp [h]
abbrev sLots : Stmt := top 58
abbrev nLots : List Str := ["_law_lines", "_law_place", "_law_lot", "_law_name", "_law_start", "_law_end", "_law_says", "_law_sort"]
theorem scLots : FnScope nLots ["_law_lines", "_law_place", "_law_lot"] (defScope sLots) := ⟨rfl, rfl, rfl, by decide +kernel, rfl, by decide +kernel, by decide +kernel⟩
def spLots (K : PySem.W.Frag) (n : Nat) : Sp := fun vs H Q _ => ∃ (a : Addr) (as : List Addr) (R : List Ru) (p : Str) (t v1 v2 : Addr) (vis said U : List Str), vs = [.ref a, .str p, .ref t] ∧ SqL K H a (as.map V.ref) ∧ Paired (LineAt H) as R ∧ R.length ≤ 20 ∧ (∀ r ∈ R, r.ss.length ≤ 9) ∧
  H t = some (.tup [.ref v1, .ref v2]) ∧ H v1 = some (.lst (vis.map V.str)) ∧ H v2 = some (.lst (said.map V.str)) ∧ said.length + 10 * n ≤ 800 ∧ vis.length + n ≤ 800 ∧ Fuel R U vis n ∧ ∀ H', Same H H' → Q (.bl (lots n R p vis said)) H'
section
variable {P : Program} {w : World} {K : PySem.W.Frag} {mg : Str → Option Value} {base : Heap}
/-- any(sort in lot[1] for sort in says) -/
theorem any_share {G : Hp} {D sl t v1 v2 : Addr} {ss said : List Str} {σ : L2.St} {Qd : Hp → Prop} (hs : SqL K G sl (ss.map V.str)) (lss : ss.length ≤ 900) (ht : G t = some (.tup [.ref v1, .ref v2])) (hv : G v2 = some (.lst (said.map V.str))) (hD : G D = none) (hw : ∀ x, wipe ((wipe σ [7]).set 7 x) [7] = wipe σ [7]) (h7 : ∀ x, ((wipe σ [7]).set 7 (some x))[7]? = some (some x)) (h2 : ∀ x, ((wipe σ [7]).set 7 x)[2]? = some (some (.ref t)))
    (k : ∀ H', Same G H' → H' D = some (.lst ((ss.map fun z => decide (z ∈ said)).map V.bl)) → Qd H') :
    ∃ W : Nat → Nat → Hp → Prop, (∃ m, W 0 m (upd G D (.lst []))) ∧ ∀ n m H, W n m H →
      ((Itl K sl).stop n H ∧ Qd H) ∨ ((Itl K sl).go n H ∧ ∃ Nx : Hp → Prop, (∀ H', Nx H' → ∃ m', m' < m ∧ W (n + 1) m' H') ∧ ∀ x H', (Itl K sl).yld n H x H' → gName 7 x (wipe σ [7]) H' fun σ2 H2 => wipe σ2 [7] = wipe σ [7] ∧ tYes σ2 H2 fun b H3 =>
        if b = true then (tOp (rIn K false) (tVar 7) (tOp (rIxT K) (tVar 2) (tC (.int 1)))) σ2 H3 fun y H4 => ∃ acc, H4 D = some (.lst acc) ∧ acc.length < sizeLine ∧ Nx (upd H4 D (.lst (acc ++ [y]))) else Nx H3) := by
  refine lc_it (walk_list (xs := ss.map V.str)) (fun j H' => Same G H' ∧ H' D = some (.lst (((ss.take j).map fun z => decide (z ∈ said)).map V.bl))) ⟨same_new hD, upd_same⟩ (fun j H' _ q => same_sqL q.1 hs) ?_ ?_
  · rintro j x2 Hj0 Hj hj ⟨sj, hv3⟩ ⟨rfl, hx2⟩
    rw [List.getElem?_map] at hx2
    obtain ⟨z, hz, rfl⟩ := Option.map_eq_some_iff.mp hx2
    refine ⟨hw _, ?_⟩
    unfold tYes
    refine iteT ?_
    refine ⟨_, h7 _, _, h2 _, t, _, 1, _, rfl, rfl, .inl (.inl (sj _ _ ht)), atI_nat (j := 1) rfl, v2, _, rfl, .inl (sqL_of (sj _ _ hv)), rfl, flat_strs said, _, hv3, ?_, same_put sj hD, ?_⟩
    · rw [List.length_map, List.length_map, List.length_take]
      exact small1000 (by omega)
    · rw [upd_same, take_next hz, List.map_append, List.map_append]
      show some (HO.lst (_ ++ [V.bl (inV (V.str z) (said.map V.str))])) = _
      rw [inV_mem]
      rfl
  · rintro H2 ⟨sj, hv3⟩
    rw [List.length_map, List.take_length] at hv3
    exact k H2 sj hv3
theorem ok_lots {f : Addr} {fd : FuncData} (F : Fun K "_law_lots" "_law_lots" sLots f fd) (any : mg "any" = none) (gf : mg "_law_lots" = some (.ref f)) (b : Binds K fd ["_law_lines", "_law_place", "_law_lot"] []) : ∀ n : Nat, FnOk P w K mg base CX0 (n + 1) f fd ["_law_lines", "_law_place", "_law_lot"] (spLots K n) := by
  intro n
  induction n with
  | zero =>
    · refine F.ok scLots (fun vs H Q E h => ?_) (fun cdv A outer s H vs Q E hr h => ?_)
      · obtain ⟨a, as, R, p, t, v1, v2, vis, said, U, rfl, _⟩ := h
        rfl
      · obtain ⟨a, as, R, p, t, v1, v2, vis, said, U, rfl, hS, pr, lR, lss, ht, hv1, hv2, ls, lv, fu, k⟩ := h
        refine ⟨_, pss_cons (ps_for PassesOwn.never rfl (pi_list (pv 0)) (pg_tup rfl (pgs_cons (pg_name (i := 3) scLots.nd rfl (Or.inl rfl)) (pgs_cons (pg_name (i := 4) scLots.nd rfl (Or.inl rfl)) (pgs_cons (pg_name (i := 5) scLots.nd rfl (Or.inl rfl)) (pgs_cons (pg_name (i := 6) scLots.nd rfl (Or.inl rfl)) pgs_nil)))))
            (pss_one (ps_if (pt_cmpR op_eq (pv 4) (pv 1) (nomark _))
              (pss_cons (ps_if (PW.pt (pw_or (pt_cmpR op_in_seq (pv 5) (pe_ix ix_tup (pv 2) pe_int (fun _ _ => rfl)) (by with_unfolding_all rfl)) (pw_or1 (pt_val (pe_callB (cr_any rfl) (by rfl) any (by decide +kernel) (pa_cons (pe_lc (own := [("_law_sort", 7)]) (g := gName 7) (tt := tYes) rfl scLots.nd (pi_list (pv 6)) (blkOk_by (N := nLots) (sc := defScope sLots) (by decide +kernel))
                  (fun _ _ _ _ _ => pg_name (i := 7) scLots.nd rfl (Or.inl rfl)) (fun _ _ _ _ _ => pts_nil) (fun _ _ _ _ _ => pe_cmpR (show OpR _ (compareOp .In) (rIn K false) from op_in_seq) (pv 7) (pe_ix (show IxR _ (rIxT K) from ix_tup) (pv 2) pe_int (fun _ _ => rfl)) (by with_unfolding_all rfl))) pa_nil))))))
                (pss_one (ps_ret pe_bl)) pss_nil)
              (pss_one ps_never))
              pss_nil)))
          (pss_one (ps_ret pe_bl)), ?_⟩
        have la := paired_n pr
        refine ⟨_, rfl, a, rfl, ⟨_, hS⟩, ?_⟩
        refine for_it (walk_list (xs := as.map V.ref)) (fun i σ H' => Same H H' ∧ ((R.take i).any fun r => decide (r.s = p) && (decide (r.e ∈ vis) || r.ss.any fun z => decide (z ∈ said))) = false ∧ ∃ v3 v4 v5 v6, σ = [some (.ref a), some (.str p), some (.ref t), v3, v4, v5, v6, none])
          ⟨Same.refl H, by simp, none, none, none, none, rfl⟩ (fun i σ H' _ q => same_sqL q.1 hS) ?_ ?_
        · rintro i x σ H1' H1 hi ⟨sm, good, v3, v4, v5, v6, rfl⟩ ⟨rfl, hx⟩
          rw [List.getElem?_map] at hx
          obtain ⟨c, hc, rfl⟩ := Option.map_eq_some_iff.mp hx
          obtain ⟨r, hr2, sl, hl1, hl2⟩ := pairAtI pr hc
          have hrm := List.mem_of_getElem? hr2
          have hit : (decide (r.s = p) && (decide (r.e ∈ vis) || r.ss.any fun z => decide (z ∈ said))) = true → lots 0 R p vis said = true := fun e => List.any_eq_true.mpr ⟨r, hrm, e⟩
          refine ⟨c, _, rfl, .inl (.inl (sm _ _ hl1)), rfl, _, _, rfl, _, _, rfl, _, _, rfl, _, _, rfl, rfl, ?_⟩
          refine ⟨_, rfl, _, rfl, rfl, _, rfl, ?_⟩
          rw [dec_str]
          by_cases e0 : r.s = p
          rotate_left
          · refine ifF (decide_eq_false e0) ?_
            refine ⟨sm, ?_, _, _, _, _, rfl⟩
            rw [any_take hr2, good, decide_eq_false e0]
            rfl
          refine ifT (decide_eq_true e0) ?_
          refine ⟨_, rfl, _, rfl, t, _, 0, _, rfl, rfl, .inl (.inl (sm _ _ ht)), atI_nat (j := 0) rfl, v1, _, rfl, .inl (sqL_of (sm _ _ hv1)), rfl, flat_strs vis, _, rfl, ?_⟩
          rw [show (if false = true then !inV (V.str r.e) (vis.map V.str) else inV (V.str r.e) (vis.map V.str)) = decide (r.e ∈ vis) from inV_mem _ _]
          by_cases e1 : r.e ∈ vis
          · refine ifT (decide_eq_true e1) ?_
            refine iteT ?_
            have q : lots 0 R p vis said = true := hit (by rw [decide_eq_true e0, decide_eq_true e1]; rfl)
            rw [q] at k
            exact k H1 sm
          refine ifF (decide_eq_false e1) ?_
          refine ⟨_, rfl, sl, rfl, ⟨_, sqL_of (sm _ _ hl2)⟩, fun D hD => ?_⟩
          refine any_share (sqL_of (sm _ _ hl2)) (by have := lss r hrm; omega) (sm _ _ ht) (sm _ _ hv2) hD (fun _ => rfl) (fun _ => rfl) (fun _ => rfl) fun H2 s2 hv => ?_
          have sm2 := sm.trans s2
          refine ⟨D, _, rfl, SqL.of hv, ?_⟩
          rw [show (r.ss.map fun z => decide (z ∈ said)).any id = r.ss.any fun z => decide (z ∈ said) from by rw [List.any_map]; rfl]
          refine ⟨_, rfl, ?_⟩
          cases e2 : (r.ss.any fun z => decide (z ∈ said)) with
          | true =>
            refine iteT ?_
            have q : lots 0 R p vis said = true := hit (by rw [decide_eq_true e0, e2, Bool.or_true]; rfl)
            rw [q] at k
            exact k H2 sm2
          | false =>
          refine iteF ?_
          obtain ⟨j, e, _⟩ := fu.next hrm e1
          cases e
        · rintro σ H1 ⟨sm, good, v3, v4, v5, v6, rfl⟩
          rw [List.length_map, la, List.take_length] at good
          have q : lots 0 R p vis said = false := good
          rw [q] at k
          exact k H1 sm
  | succ n ih =>
    have D0 : Dn P w K mg base CX0 (n + 1) "_law_lots" ["_law_lines", "_law_place", "_law_lot"] (spLots K n) := ⟨f, fd, ih, gf, F.kp, b⟩
    · refine F.ok scLots (fun vs H Q E h => ?_) (fun cdv A outer s H vs Q E hr h => ?_)
      · obtain ⟨a, as, R, p, t, v1, v2, vis, said, U, rfl, _⟩ := h
        rfl
      · obtain ⟨a, as, R, p, t, v1, v2, vis, said, U, rfl, hS, pr, lR, lss, ht, hv1, hv2, ls, lv, fu, k⟩ := h
        refine ⟨_, pss_cons (ps_for PassesOwn.never rfl (pi_list (pv 0)) (pg_tup rfl (pgs_cons (pg_name (i := 3) scLots.nd rfl (Or.inl rfl)) (pgs_cons (pg_name (i := 4) scLots.nd rfl (Or.inl rfl)) (pgs_cons (pg_name (i := 5) scLots.nd rfl (Or.inl rfl)) (pgs_cons (pg_name (i := 6) scLots.nd rfl (Or.inl rfl)) pgs_nil)))))
            (pss_one (ps_if (pt_cmpR op_eq (pv 4) (pv 1) (nomark _))
              (pss_cons (ps_if (PW.pt (pw_or (pt_cmpR op_in_seq (pv 5) (pe_ix ix_tup (pv 2) pe_int (fun _ _ => rfl)) (by with_unfolding_all rfl)) (pw_or1 (pt_val (pe_callB (cr_any rfl) (by rfl) any (by decide +kernel) (pa_cons (pe_lc (own := [("_law_sort", 7)]) (g := gName 7) (tt := tYes) rfl scLots.nd (pi_list (pv 6)) (blkOk_by (N := nLots) (sc := defScope sLots) (by decide +kernel))
                  (fun _ _ _ _ _ => pg_name (i := 7) scLots.nd rfl (Or.inl rfl)) (fun _ _ _ _ _ => pts_nil) (fun _ _ _ _ _ => pe_cmpR (show OpR _ (compareOp .In) (rIn K false) from op_in_seq) (pv 7) (pe_ix (show IxR _ (rIxT K) from ix_tup) (pv 2) pe_int (fun _ _ => rfl)) (by with_unfolding_all rfl))) pa_nil))))))
                (pss_one (ps_ret pe_bl)) pss_nil)
              (pss_one (ps_if (pt_val (pe_d (E := E0) D0 hr (Nat.le_refl _) rfl pass0 (pa_cons (pv 0) (pa_cons (pv 5) (pa_cons (pe_tup (pa_cons (pe_op op_cat (pe_ix ix_tup (pv 2) pe_int (fun _ _ => rfl)) (pe_lst (pa_cons (pv 5) pa_nil))) (pa_cons (pe_op op_cat (pe_ix ix_tup (pv 2) pe_int (fun _ _ => rfl)) (pv 6)) pa_nil))) pa_nil))))) (pss_one (ps_ret pe_bl)) pss_nil)))
              pss_nil)))
          (pss_one (ps_ret pe_bl)), ?_⟩
        have la := paired_n pr
        refine ⟨_, rfl, a, rfl, ⟨_, hS⟩, ?_⟩
        refine for_it (walk_list (xs := as.map V.ref)) (fun i σ H' => Same H H' ∧ ((R.take i).any fun r => decide (r.s = p) && ((decide (r.e ∈ vis) || r.ss.any fun z => decide (z ∈ said)) || lots n R r.e (vis ++ [r.e]) (said ++ r.ss))) = false ∧ ∃ v3 v4 v5 v6, σ = [some (.ref a), some (.str p), some (.ref t), v3, v4, v5, v6, none])
          ⟨Same.refl H, by simp, none, none, none, none, rfl⟩ (fun i σ H' _ q => same_sqL q.1 hS) ?_ ?_
        · rintro i x σ H1' H1 hi ⟨sm, good, v3, v4, v5, v6, rfl⟩ ⟨rfl, hx⟩
          rw [List.getElem?_map] at hx
          obtain ⟨c, hc, rfl⟩ := Option.map_eq_some_iff.mp hx
          obtain ⟨r, hr2, sl, hl1, hl2⟩ := pairAtI pr hc
          have hrm := List.mem_of_getElem? hr2
          have hit : (decide (r.s = p) && ((decide (r.e ∈ vis) || r.ss.any fun z => decide (z ∈ said)) || lots n R r.e (vis ++ [r.e]) (said ++ r.ss))) = true → lots (n + 1) R p vis said = true := fun e => List.any_eq_true.mpr ⟨r, hrm, e⟩
          refine ⟨c, _, rfl, .inl (.inl (sm _ _ hl1)), rfl, _, _, rfl, _, _, rfl, _, _, rfl, _, _, rfl, rfl, ?_⟩
          refine ⟨_, rfl, _, rfl, rfl, _, rfl, ?_⟩
          rw [dec_str]
          by_cases e0 : r.s = p
          rotate_left
          · refine ifF (decide_eq_false e0) ?_
            refine ⟨sm, ?_, _, _, _, _, rfl⟩
            rw [any_take hr2, good, decide_eq_false e0]
            rfl
          refine ifT (decide_eq_true e0) ?_
          refine ⟨_, rfl, _, rfl, t, _, 0, _, rfl, rfl, .inl (.inl (sm _ _ ht)), atI_nat (j := 0) rfl, v1, _, rfl, .inl (sqL_of (sm _ _ hv1)), rfl, flat_strs vis, _, rfl, ?_⟩
          rw [show (if false = true then !inV (V.str r.e) (vis.map V.str) else inV (V.str r.e) (vis.map V.str)) = decide (r.e ∈ vis) from inV_mem _ _]
          by_cases e1 : r.e ∈ vis
          · refine ifT (decide_eq_true e1) ?_
            refine iteT ?_
            have q : lots (n + 1) R p vis said = true := hit (by rw [decide_eq_true e0, decide_eq_true e1]; rfl)
            rw [q] at k
            exact k H1 sm
          refine ifF (decide_eq_false e1) ?_
          refine ⟨_, rfl, sl, rfl, ⟨_, sqL_of (sm _ _ hl2)⟩, fun D hD => ?_⟩
          refine any_share (sqL_of (sm _ _ hl2)) (by have := lss r hrm; omega) (sm _ _ ht) (sm _ _ hv2) hD (fun _ => rfl) (fun _ => rfl) (fun _ => rfl) fun H2 s2 hv => ?_
          have sm2 := sm.trans s2
          refine ⟨D, _, rfl, SqL.of hv, ?_⟩
          rw [show (r.ss.map fun z => decide (z ∈ said)).any id = r.ss.any fun z => decide (z ∈ said) from by rw [List.any_map]; rfl]
          refine ⟨_, rfl, ?_⟩
          cases e2 : (r.ss.any fun z => decide (z ∈ said)) with
          | true =>
            refine iteT ?_
            have q : lots (n + 1) R p vis said = true := hit (by rw [decide_eq_true e0, e2, Bool.or_true]; rfl)
            rw [q] at k
            exact k H2 sm2
          | false =>
          refine iteF ?_
          obtain ⟨j, e, fu2⟩ := fu.next hrm e1
          cases e
          have lsr := lss r hrm
          refine ⟨_, rfl, _, rfl, _, rfl, t, _, 0, _, rfl, rfl, .inl (.inl (sm2 _ _ ht)), atI_nat (j := 0) rfl, _, rfl, (by show 1 ≤ sizeLine; decide), fun b1 hb1 => ?_⟩
          have s3 := same_new (o := .lst [V.str r.e]) hb1
          have sm3 := sm2.trans s3
          refine ⟨v1, b1, _, _, rfl, rfl, sm3 _ _ hv1, upd_same, ?_, fun b2 hb2 => ?_⟩
          · rw [List.length_map]
            exact Nat.le_of_lt (small1000 (by show vis.length + 1 ≤ 1000; omega))
          have e1' : vis.map V.str ++ [V.str r.e] = (vis ++ [r.e]).map V.str := by rw [List.map_append]; rfl
          rw [e1']
          have s4 := same_new (o := .lst ((vis ++ [r.e]).map V.str)) hb2
          have sm4 := sm3.trans s4
          refine ⟨_, rfl, t, _, 1, _, rfl, rfl, .inl (.inl (sm4 _ _ ht)), atI_nat (j := 1) rfl, _, rfl, v2, sl, _, _, rfl, rfl, sm4 _ _ hv2, sm4 _ _ hl2, ?_, fun b3 hb3 => ?_⟩
          · rw [List.length_map, List.length_map]
            exact Nat.le_of_lt (small1000 (by omega))
          rw [← List.map_append]
          have s5 := same_new (o := .lst ((said ++ r.ss).map V.str)) hb3
          refine ⟨(by show 2 ≤ sizeLine; decide), fun t2 ht2 => ?_⟩
          have s6 := same_new (o := .tup [V.ref b2, .ref b3]) ht2
          have sm6 := sm4.trans (s5.trans s6)
          refine ⟨a, as, R, r.e, t2, b2, b3, vis ++ [r.e], said ++ r.ss, U, rfl, same_sqL sm6 hS, L2.Paired.mapP pr fun _ _ g => LineAt.same sm6 g, lR, lss, upd_same, (s5.trans s6) _ _ upd_same, s6 _ _ upd_same, by rw [List.length_append]; omega, by rw [List.length_append]; show vis.length + 1 + n ≤ 800; omega, fu2, fun H3 s7 => ?_⟩
          have sm7 := sm6.trans s7
          refine ⟨_, rfl, ?_⟩
          cases e3 : lots n R r.e (vis ++ [r.e]) (said ++ r.ss) with
          | true =>
            refine iteT ?_
            have q : lots (n + 1) R p vis said = true := hit (by rw [decide_eq_true e0, e3, Bool.or_true]; rfl)
            rw [q] at k
            exact k H3 sm7
          | false =>
            refine iteF ?_
            refine ⟨sm7, ?_, _, _, _, _, rfl⟩
            rw [any_take hr2, good, decide_eq_true e0, decide_eq_false e1, e2, e3]
            rfl
        · rintro σ H1 ⟨sm, good, v3, v4, v5, v6, rfl⟩
          rw [List.length_map, la, List.take_length] at good
          have q : lots (n + 1) R p vis said = false := good
          rw [q] at k
          exact k H1 sm
end
end Mv
/-! the law's _law_rule_due -/
namespace Mv
open PySem PySem.Spec PyProof.Rows L2
def dueB (zs : List Str) (R : List Ru) (i : Nat) : Bool := match R[i]? with
  | none => false
  | some r => decide (r.n ∈ (R.take i).map Ru.n) || (!decide (r.s ∈ zs) || (!decide (r.e ∈ zs) || zs.any fun sp => lots 10 (R.take (i + 1)) sp [sp] []))
abbrev sRDue : Stmt := top 59
abbrev nRD : List Str := ["_law_spots", "_law_lines", "_law_k", "_law_name", "_law_start", "_law_end", "_law_says", "_law_line", "_law_spot"]
theorem scRD : FnScope nRD ["_law_spots", "_law_lines"] (defScope sRDue) := ⟨rfl, rfl, rfl, by decide +kernel, rfl, by decide +kernel, by decide +kernel⟩
def spRDue (K : PySem.W.Frag) : Sp := fun vs H Q _ => ∃ (z l : Addr) (zs : List Str) (as : List Addr) (R : List Ru), vs = [.ref z, .ref l] ∧ SqL K H z (zs.map V.str) ∧ zs.Nodup ∧ zs.length ≤ 11 ∧ SqL K H l (as.map V.ref) ∧ Paired (LineAt H) as R ∧ R.length ≤ 9 ∧ (∀ r ∈ R, r.ss.length ≤ 9) ∧
  (∀ i : Nat, i < R.length → dueB zs R i = true → (∀ j, j < i → dueB zs R j = false) → ∀ H', Same H H' → Q (.int i) H') ∧ ((∀ j, j < R.length → dueB zs R j = false) → ∀ H', Same H H' → Q (if R.length > 8 then .int 8 else .non) H')
theorem due_ends {zs : List Str} {R : List Ru} {i : Nat} (h : ∀ j, j < i → dueB zs R j = false) : ∀ q ∈ R.take i, q.s ∈ zs ∧ q.e ∈ zs ∧ True := fun q hq => by
  obtain ⟨j, hj⟩ := List.mem_iff_getElem?.mp hq
  have hlt := (List.getElem?_eq_some_iff.mp hj).1
  rw [List.length_take] at hlt
  have hj2 : R[j]? = some q := by
    rw [List.getElem?_take_of_lt (by omega)] at hj
    exact hj
  have b := h j (by omega)
  unfold dueB at b
  rw [hj2] at b
  obtain ⟨_, b⟩ := Bool.or_eq_false_iff.mp b
  obtain ⟨b1, b⟩ := Bool.or_eq_false_iff.mp b
  obtain ⟨b2, _⟩ := Bool.or_eq_false_iff.mp b
  have f : ∀ {x : Str}, (!decide (x ∈ zs)) = false → x ∈ zs := fun {x} e => by
    by_cases m : x ∈ zs
    · exact m
    · rw [decide_eq_false m] at e; cases e
  exact ⟨f b1, f b2, True.intro⟩
section
variable {P : Program} {w : World} {K : PySem.W.Frag} {mg : Str → Option Value} {base : Heap}
theorem ok_rdue {f : Addr} {fd : FuncData} (F : Fun K "_law_rule_due" "_law_rule_due" sRDue f fd) (L : Dn P w K mg base CX0 11 "_law_lots" ["_law_lines", "_law_place", "_law_lot"] (spLots K 10)) (en : mg "enumerate" = none) (any : mg "any" = none) (len : mg "len" = none) : FnOk P w K mg base CX0 12 f fd ["_law_spots", "_law_lines"] (spRDue K) := by
  refine F.ok scRD (fun vs H Q E h => ?_) (fun cdv A outer s H vs Q E hr h => ?_)
  · obtain ⟨z, l, zs, as, R, rfl, _⟩ := h
    rfl
  · obtain ⟨z, l, zs, as, R, rfl, hz, nd, lz, hl, pr, lR, lss, ki, kn⟩ := h
    refine ⟨_, pss_cons (ps_for PassesOwn.never rfl (pi_enum (by rfl) en (pa_cons (pv 1) pa_nil)) (pg_tup rfl (pgs_cons (pg_name (i := 2) scRD.nd rfl (Or.inr rfl)) (pgs_cons (pg_tup rfl (pgs_cons (pg_name (i := 3) scRD.nd rfl (Or.inl rfl)) (pgs_cons (pg_name (i := 4) scRD.nd rfl (Or.inl rfl)) (pgs_cons (pg_name (i := 5) scRD.nd rfl (Or.inl rfl)) (pgs_cons (pg_name (i := 6) scRD.nd rfl (Or.inl rfl)) pgs_nil))))) pgs_nil)))
        (pss_cons (ps_if (PW.pt (pw_or (pt_cmpR op_in_seq (pv 3) (pe_lc (own := [("_law_line", 7)]) (g := gName 7) (tt := tYes) rfl scRD.nd (pi_list (pe_slice sl_list (pv 1) po_none (po_some (pv 2)))) (blkOk_by (N := nRD) (sc := defScope sRDue) (by decide +kernel))
            (fun _ _ _ _ _ => pg_name (i := 7) scRD.nd rfl (Or.inl rfl)) (fun _ _ _ _ _ => pts_nil) (fun _ _ _ _ _ => pe_ix (show IxR _ (rIxT K) from ix_tup) (pv 7) pe_int (fun _ _ => rfl))) (by rfl))
            (pw_or (pt_cmpR op_notIn_seq (pv 4) (pv 0) (by with_unfolding_all rfl)) (pw_or1 (pt_cmpR op_notIn_seq (pv 5) (pv 0) (by with_unfolding_all rfl)))))) (pss_one (ps_ret (pv 2))) pss_nil)
        (pss_one (ps_if (pt_val (pe_callB (cr_any rfl) (by rfl) any (by decide +kernel) (pa_cons (pe_lc (own := [("_law_spot", 8)]) (g := gName 8) (tt := tYes) rfl scRD.nd (pi_list (pv 0)) (blkOk_by (N := nRD) (sc := defScope sRDue) (by decide +kernel))
            (fun _ _ _ _ _ => pg_name (i := 8) scRD.nd rfl (Or.inl rfl)) (fun _ _ _ _ _ => pts_nil)
            (fun _ _ _ _ _ => pe_d (E := E0) L hr (Nat.le_refl _) rfl pass0 (pa_cons (pe_slice (show SlR _ (rSlL K) from sl_list) (pv 1) po_none (po_some (pe_op op_add (pv 2) pe_int))) (pa_cons (pv 8) (pa_cons (pe_tup (pa_cons (pe_lst (pa_cons (pv 8) pa_nil)) (pa_cons (pe_lst pa_nil) pa_nil))) pa_nil))))) pa_nil))) (pss_one (ps_ret (pv 2))) pss_nil))))
      (pss_one (ps_ret (pe_ifExp (pt_cmp (pc_gt (pe_callB call_len_seq (by rfl) len PySem.boot_len (pa_cons (pv 1) pa_nil)) pe_int)) pe_int pe_non))), ?_⟩
    have la := paired_n pr
    refine ⟨_, rfl, l, as.map V.ref, rfl, hl, ?_⟩
    refine for_it (walk_enum (a := l) (xs := as.map V.ref)) (fun i σ H' => (∃ v2 v3 v4 v5 v6, σ = [some (.ref z), some (.ref l), v2, v3, v4, v5, v6, none, none]) ∧ Same H H' ∧ ∀ j, j < i → dueB zs R j = false) ⟨⟨none, none, none, none, none, rfl⟩, Same.refl H, fun j hj => absurd hj (Nat.not_lt_zero j)⟩ (fun i σ H' _ q => same_sqL q.2.1 hl) ?_ ?_
    · rintro i v0 σ H1' H1 hi ⟨⟨v2, v3, v4, v5, v6, rfl⟩, sm, good⟩ ⟨Tp, n0, x, rfl, nT, rfl, en0, hx⟩
      cases en0
      have hx : (as.map V.ref)[i]? = some x := hx
      rw [List.getElem?_map] at hx
      obtain ⟨c, hc, rfl⟩ := Option.map_eq_some_iff.mp hx
      obtain ⟨r, hr2, sl, hl1, hl2⟩ := pairAtI pr hc
      have hiR : i < R.length := (List.getElem?_eq_some_iff.mp hr2).1
      have hiA : i < (as.map V.ref).length := by rw [List.length_map, la]; exact hiR
      have sm1 : Same H (upd H1' Tp (.tup [.int (i : Nat), .ref c])) := sm.trans (same_new nT)
      have due : dueB zs R i = (decide (r.n ∈ (R.take i).map Ru.n) || (!decide (r.s ∈ zs) || (!decide (r.e ∈ zs) || zs.any fun sp => lots 10 (R.take (i + 1)) sp [sp] []))) := by
        unfold dueB
        rw [hr2]
      refine ⟨Tp, _, rfl, .inl (.inl upd_same), rfl, _, _, rfl, ?_⟩
      refine ⟨_, [], rfl, c, _, rfl, .inl (.inl (sm1 _ _ hl1)), rfl, _, _, rfl, _, _, rfl, _, _, rfl, _, _, rfl, rfl, rfl, ?_⟩
      generalize upd H1' Tp (.tup [.int (i : Nat), .ref c]) = G1 at sm1 ⊢
      refine ⟨_, rfl, _, rfl, _, rfl, _, rfl, l, _, rfl, same_sqL sm1 hl, fun p hp => ?_⟩
      rw [cut_take (Nat.le_of_lt hiA)]
      have s2 := same_new (o := .lst ((as.map V.ref).take i)) hp
      have sm2 := sm1.trans s2
      have hpS : SqL K (upd G1 p (.lst ((as.map V.ref).take i))) p ((as.take i).map V.ref) := by rw [List.map_take]; exact sqL_of upd_same
      generalize upd G1 p (.lst ((as.map V.ref).take i)) = G2 at s2 sm2 hpS ⊢
      refine ⟨p, rfl, ⟨_, hpS⟩, fun D hD => ?_⟩
      have prT := pair_take pr i
      refine lc_it (walk_list (xs := (as.take i).map V.ref)) (fun j H' => Same G2 H' ∧ H' D = some (.lst ((((R.take i).take j).map Ru.n).map V.str))) ⟨same_new hD, upd_same⟩ (fun j H' _ q => same_sqL q.1 hpS) ?_ ?_
      · rintro j x2 Hj0 Hj hj ⟨sj, hv⟩ ⟨rfl, hx2⟩
        rw [List.getElem?_map] at hx2
        obtain ⟨q, hq, rfl⟩ := Option.map_eq_some_iff.mp hx2
        obtain ⟨r3, hr3, sl3, g1, g2⟩ := pairAtI prT hq
        refine ⟨rfl, ?_⟩
        unfold tYes
        refine iteT ?_
        refine ⟨_, rfl, q, _, 0, _, rfl, rfl, .inl (.inl ((sm2.trans sj) _ _ g1)), atI_nat (j := 0) rfl, _, hv, ?_, same_put sj hD, ?_⟩
        · rw [List.length_map, List.length_map, List.length_take, List.length_take]
          exact small1000 (by omega)
        · rw [upd_same, take_next hr3, List.map_append, List.map_append]
          rfl
      rintro H3 ⟨sj, hv⟩
      rw [List.length_map, paired_n prT, List.take_length] at hv
      have sm3 := sm2.trans sj
      refine ⟨D, _, rfl, .inl (SqL.of hv), rfl, flat_strs _, _, rfl, ?_⟩
      rw [show (if false = true then !inV (V.str r.n) (((R.take i).map Ru.n).map V.str) else inV (V.str r.n) (((R.take i).map Ru.n).map V.str)) = decide (r.n ∈ (R.take i).map Ru.n) from inV_mem _ _]
      by_cases e1 : r.n ∈ (R.take i).map Ru.n
      · refine ifT (decide_eq_true e1) ?_
        refine iteT ?_
        exact ⟨_, rfl, ki i hiR (by rw [due, decide_eq_true e1]; rfl) good H3 sm3⟩
      refine ifF (decide_eq_false e1) ?_
      refine ⟨_, rfl, _, rfl, z, _, rfl, .inl (same_sqL sm3 hz), rfl, flat_strs _, _, rfl, ?_⟩
      rw [show (if true = true then !inV (V.str r.s) (zs.map V.str) else inV (V.str r.s) (zs.map V.str)) = !decide (r.s ∈ zs) from by rw [← inV_mem]; rfl]
      by_cases e2 : r.s ∈ zs
      rotate_left
      · rw [decide_eq_false e2] at due ⊢
        refine iteT ?_
        refine iteT ?_
        exact ⟨_, rfl, ki i hiR (by rw [due, Bool.or_eq_true_iff]; exact .inr rfl) good H3 sm3⟩
      rw [decide_eq_true e2] at due ⊢
      refine iteF ?_
      refine ⟨_, rfl, _, rfl, z, _, rfl, .inl (same_sqL sm3 hz), rfl, flat_strs _, _, rfl, ?_⟩
      rw [show (if true = true then !inV (V.str r.e) (zs.map V.str) else inV (V.str r.e) (zs.map V.str)) = !decide (r.e ∈ zs) from by rw [← inV_mem]; rfl]
      by_cases e3 : r.e ∈ zs
      rotate_left
      · rw [decide_eq_false e3] at due ⊢
        refine iteT ?_
        exact ⟨_, rfl, ki i hiR (by rw [due, Bool.or_eq_true_iff]; exact .inr rfl) good H3 sm3⟩
      rw [decide_eq_true e3] at due ⊢
      rw [decide_eq_false e1] at due
      refine iteF ?_
      have due2 : dueB zs R i = zs.any fun sp => lots 10 (R.take (i + 1)) sp [sp] [] := due
      have ends : ∀ q ∈ R.take (i + 1), q.e ∈ zs := fun q hq => by
        rw [take_next hr2] at hq
        rcases List.mem_append.mp hq with hq | hq
        · exact (due_ends good q hq).2.1
        · rw [List.mem_singleton.mp hq]; exact e3
      refine ⟨_, rfl, z, rfl, ⟨_, same_sqL sm3 hz⟩, fun D2 hD2 => ?_⟩
      refine lc_it (walk_list (xs := zs.map V.str)) (fun j H' => Same H3 H' ∧ H' D2 = some (.lst (((zs.take j).map fun sp => lots 10 (R.take (i + 1)) sp [sp] []).map V.bl))) ⟨same_new hD2, upd_same⟩ (fun j H' _ q => same_sqL (sm3.trans q.1) hz) ?_ ?_
      · rintro j x2 Hj0 Hj hj ⟨s4, hv4⟩ ⟨rfl, hx2⟩
        rw [List.getElem?_map] at hx2
        obtain ⟨sp, hsp, rfl⟩ := Option.map_eq_some_iff.mp hx2
        refine ⟨rfl, ?_⟩
        unfold tYes
        refine iteT ?_
        have sm4 := sm3.trans s4
        refine ⟨_, rfl, _, rfl, i, 1, rfl, rfl, _, rfl, l, _, rfl, same_sqL sm4 hl, fun p5 hp5 => ?_⟩
        have ec : cutV (as.map V.ref) none (some ((i : Int) + 1)) = (as.map V.ref).take (i + 1) := cut_take (i := i + 1) hiA
        rw [ec]
        have s5 := same_new (o := .lst ((as.map V.ref).take (i + 1))) hp5
        refine ⟨_, rfl, _, rfl, (by show 1 ≤ sizeLine; decide), fun b1 hb1 => ⟨(by show 0 ≤ sizeLine; decide), fun b2 hb2 => ⟨(by show 2 ≤ sizeLine; decide), fun t ht => ?_⟩⟩⟩
        have s6 := same_new (o := .lst [V.str sp]) hb1
        have s7 := same_new (o := .lst []) hb2
        have s8 := same_new (o := .tup [V.ref b1, .ref b2]) ht
        have s58 := s5.trans (s6.trans (s7.trans s8))
        have spm := List.mem_of_getElem? hsp
        refine ⟨p5, as.take (i + 1), R.take (i + 1), sp, t, b1, b2, [sp], [], zs, rfl, (by rw [List.map_take]; exact sqL_of ((s6.trans (s7.trans s8)) _ _ upd_same)), L2.Paired.mapP (pair_take pr (i + 1)) fun _ _ g => LineAt.same (sm4.trans s58) g, by rw [List.length_take]; omega, fun q hq => lss q (List.mem_of_mem_take hq), upd_same, (s7.trans s8) _ _ upd_same, s8 _ _ upd_same, by decide, by show 1 + 10 ≤ 800; decide, ⟨ends, by simp, fun v hv => by rw [List.mem_singleton.mp hv]; exact spm, by show zs.length ≤ 1 + 10; omega⟩, fun H9 s9 => ?_⟩
        have s49 := s58.trans s9
        refine ⟨_, s49 _ _ hv4, ?_, same_put (s4.trans s49) hD2, ?_⟩
        · rw [List.length_map, List.length_map, List.length_take]
          exact small1000 (by omega)
        · rw [upd_same, take_next hsp, List.map_append, List.map_append]
          rfl
      rintro H4 ⟨s4, hv4⟩
      rw [List.length_map, List.take_length] at hv4
      have sm4 := sm3.trans s4
      refine ⟨D2, _, rfl, SqL.of hv4, ?_⟩
      rw [show (zs.map fun sp => lots 10 (R.take (i + 1)) sp [sp] []).any id = zs.any fun sp => lots 10 (R.take (i + 1)) sp [sp] [] from by rw [List.any_map]; rfl, ← due2]
      refine ⟨_, rfl, ?_⟩
      cases e4 : dueB zs R i with
      | true =>
        refine iteT ?_
        exact ⟨_, rfl, ki i hiR e4 good H4 sm4⟩
      | false =>
        refine iteF ?_
        refine ⟨⟨_, _, _, _, _, rfl⟩, sm4, fun j hj => ?_⟩
        rcases Nat.lt_succ_iff_lt_or_eq.mp hj with q | q
        · exact good j q
        · rw [q]; exact e4
    · rintro σ H1 ⟨⟨v2, v3, v4, v5, v6, rfl⟩, sm, good⟩
      have fin := kn (fun j hj => good j (by rw [List.length_map, la]; exact hj)) H1 sm
      refine ⟨_, rfl, l, _, rfl, .inl (same_sqL sm hl), _, 8, rfl, rfl, _, rfl, ?_⟩
      rw [List.length_map, la]
      by_cases h8 : R.length > 8
      · refine ifT (decide_eq_true (by omega)) ?_
        rw [if_pos h8] at fin
        exact fin
      · refine ifF (decide_eq_false (by omega)) ?_
        rw [if_neg h8] at fin
        exact fin
end
end Mv
/-! the law's _law_words -/
namespace Mv
open PySem PySem.Spec PyProof.Rows L2
def MENU : List Str := ["va", "b", "sentence", "c", "done", "zz", "v", "aa"]
theorem menu_ok : MENU.Nodup ∧ ∀ z ∈ MENU, isWS z = true ∧ z.length ≤ 8 ∧ PyData.strOk z = true := by decide +kernel
abbrev sLWords : Stmt := top 55
abbrev wdB : List Stmt := defBody sLWords
abbrev nLW : List Str := ["_law_draws", "_law_many", "_law_menu", "_law_found", "_law_k"]
theorem scLWd : FnScope nLW ["_law_draws", "_law_many"] (defScope sLWords) := ⟨rfl, rfl, rfl, by decide +kernel, rfl, by decide +kernel, by decide +kernel⟩
def spLWords (K : PySem.W.Frag) : Sp := fun vs H Q _ => ∃ (d : Addr) (m x y z : Int), vs = [.ref d, .int m] ∧ H d = some (dr x y z) ∧ 0 ≤ m ∧ m ≤ 7 ∧
  ∀ L H' (ws : List Str) x' y' z', But d H H' → H' d = some (dr x' y' z') → H L = none → H' L = some (.lst (ws.map V.str)) → ws.Nodup → (∀ w ∈ ws, w ∈ MENU) → (ws.length : Int) = m → Q (.ref L) H'
/-- at the head of turn i -/
structure WdI (d Me Fo : Addr) (H0 : Hp) (i : Nat) (ms fs : List Str) (H : Hp) : Prop where
  bt : But d H0 H
  dr : ∃ x y z, H d = some (Mv.dr x y z)
  n1 : H0 Me = none
  n2 : H0 Fo = none
  ne : Me ≠ Fo ∧ Me ≠ d ∧ Fo ≠ d
  hm : H Me = some (.lst (ms.map V.str))
  hf : H Fo = some (.lst (fs.map V.str))
  l1 : fs.length = i
  l2 : ms.length + i = 8
  nd : (fs ++ ms).Nodup
  sub : ∀ w ∈ fs ++ ms, w ∈ MENU
theorem seq_ix {r : Int} {n : Nat} (h0 : 0 ≤ r) (h1 : r < n) : seqIndex? r n = some r.toNat := by
  have e : (if r < 0 then r + (n : Int) else r) = r := if_neg (by omega)
  show (if (decide (0 ≤ (if r < 0 then r + (n : Int) else r)) && decide ((if r < 0 then r + (n : Int) else r) < n)) = true then some (if r < 0 then r + (n : Int) else r).toNat else none) = _
  rw [e, decide_eq_true h0, decide_eq_true h1]
  rfl
section
variable {P : Program} {w : World} {K : PySem.W.Frag} {mg : Str → Option Value} {base : Heap}
theorem ok_lwords {f : Addr} {fd : FuncData} (F : Fun K "_law_words" "_law_words" sLWords f fd) (D : Dn P w K mg base CX0 1 "_law_draw" ["_law_draws", "_law_many"] spDraw) (range : mg "range" = none) (len : mg "len" = none) : FnOk P w K mg base CX0 2 f fd ["_law_draws", "_law_many"] (spLWords K) := by
  refine F.ok scLWd (fun vs H Q E h => ?_) (fun cdv A outer s H vs Q E hr h => ?_)
  · obtain ⟨d, m, x, y, z, rfl, _⟩ := h
    rfl
  · obtain ⟨d, m, x, y, z, rfl, hd, m0, m7, k⟩ := h
    refine ⟨_, pss_cons (ps_par (i := 2) (j := 3) rfl scLWd.nd rfl rfl (by decide) rfl rfl (pa_cons (pe_lst (pa_cons pe_str (pa_cons pe_str (pa_cons pe_str (pa_cons pe_str (pa_cons pe_str (pa_cons pe_str (pa_cons pe_str (pa_cons pe_str pa_nil))))))))) (pa_cons (pe_lst pa_nil) pa_nil)) (by rfl))
      (pss_cons (ps_for PassesOwn.never rfl (pi_range1 (by rfl) range (pa_cons (pv 1) pa_nil)) (pg_name (i := 4) scLWd.nd rfl (.inl rfl))
        (pss_one (ps_expr (pe_bm PySem.F.plainAttrs_list PySem.F.slot_list_append PySem.F.type_list_append mt_append (pv 3) (pa_cons (pe_bm PySem.F.plainAttrs_list PySem.F.slot_list_pop PySem.F.type_list_pop mt_popAt (pv 2)
          (pa_cons (pe_d (E := E0) D hr (by decide) rfl pass0 (pa_cons (pv 0) (pa_cons (pe_callB call_len_seq (by rfl) len PySem.boot_len (pa_cons (pv 2) pa_nil)) pa_nil))) pa_nil)) pa_nil)))))
      (pss_one (ps_ret (pv 3)))), ?_⟩
    refine ⟨(by show 8 ≤ sizeLine; decide), fun Me hMe => ⟨(by show 0 ≤ sizeLine; decide), fun Fo hFo => ⟨_, _, rfl, ?_⟩⟩⟩
    have s1 := same_new (o := .lst (MENU.map V.str)) hMe
    have s2 := same_new (o := .lst []) hFo
    have wi : WdI d Me Fo H 0 MENU [] (upd (upd H Me (.lst (MENU.map V.str))) Fo (.lst [])) := by
      have n2 : H Fo = none := s1.free hFo
      refine ⟨But.of (s1.trans s2), ⟨x, y, z, (s1.trans s2) _ _ hd⟩, hMe, n2, ⟨(fun e => by rw [← e, upd_same] at hFo; cases hFo), (ne_of_none hd hMe).symm, (ne_of_none hd n2).symm⟩, s2 _ _ upd_same, upd_same, rfl, rfl, menu_ok.1, fun w hw => hw⟩
    refine ⟨_, rfl, m, rfl, by omega, by omega, ?_⟩
    refine for_it walk_range (fun i σ H' => ∃ ms fs v, WdI d Me Fo H i ms fs H' ∧ σ = [some (.ref d), some (.int m), some (.ref Me), some (.ref Fo), v]) ⟨_, _, _, wi, rfl⟩ (fun _ _ _ _ _ => True.intro) ?_ ?_
    · rintro i v0 σ H1' H1 hi ⟨ms, fs, v, wi, rfl⟩ ⟨rfl, rfl⟩
      obtain ⟨x1, y1, z1, hd1⟩ := wi.dr
      have l2 := wi.l2
      have hi7 : i < 7 := by omega
      refine ⟨_, rfl, .inl ⟨rfl, _, sqL_of wi.hf⟩, ?_⟩
      refine ⟨_, rfl, .inl ⟨rfl, _, sqL_of wi.hm⟩, ?_⟩
      refine ⟨_, rfl, _, rfl, Me, _, rfl, .inl (sqL_of wi.hm), d, _, x1, y1, z1, rfl, hd1, ?_, ?_, fun r x2 y2 z2 r0 r1 => ?_⟩
      · rw [List.length_map]; omega
      · rw [List.length_map]; omega
      rw [List.length_map] at r1
      have hr : r.toNat < ms.length := by omega
      have hm2 : upd H1 d (Mv.dr x2 y2 z2) Me = some (.lst (ms.map V.str)) := by rw [upd_ne wi.ne.2.1]; exact wi.hm
      refine ⟨Me, ms.map V.str, r, r.toNat, _, rfl, rfl, hm2, by omega, by omega, by rw [List.length_map]; exact seq_ix r0 r1, by rw [List.getElem?_map, List.getElem?_eq_getElem hr]; rfl, ?_⟩
      have hf2 : upd (upd H1 d (Mv.dr x2 y2 z2)) Me (.lst ((ms.map V.str).eraseIdx r.toNat)) Fo = some (.lst (fs.map V.str)) := by rw [upd_ne (Ne.symm wi.ne.1), upd_ne wi.ne.2.2]; exact wi.hf
      refine ⟨Fo, fs.map V.str, _, rfl, rfl, hf2, ?_, ?_⟩
      · rw [List.length_map, wi.l1]
        exact small1000 (by omega)
      have pm : (fs ++ [ms[r.toNat]] ++ ms.eraseIdx r.toNat).Perm (fs ++ ms) := by
        rw [List.append_assoc]
        refine List.Perm.append_left fs ?_
        have e := List.eraseIdx_eq_take_drop_succ ms r.toNat
        rw [e]
        have e2 : ms = ms.take r.toNat ++ ms[r.toNat] :: ms.drop (r.toNat + 1) := by
          rw [← List.drop_eq_getElem_cons hr, List.take_append_drop]
        exact (List.perm_middle (a := ms[r.toNat]) (l₁ := ms.take r.toNat) (l₂ := ms.drop (r.toNat + 1))).symm.trans (List.Perm.of_eq e2.symm)
      refine ⟨ms.eraseIdx r.toNat, fs ++ [ms[r.toNat]], _, ⟨fun c o e nc => ?_, ⟨x2, y2, z2, ?_⟩, wi.n1, wi.n2, wi.ne, ?_, ?_, ?_, ?_, pm.nodup_iff.mpr wi.nd, fun w hw => wi.sub w (pm.mem_iff.mp hw)⟩, rfl⟩
      · rw [upd_ne (ne_of_none e wi.n2), upd_ne (ne_of_none e wi.n1), upd_ne nc]
        exact wi.bt c o e nc
      · rw [upd_ne (Ne.symm wi.ne.2.2), upd_ne (Ne.symm wi.ne.2.1)]
        exact upd_same
      · rw [upd_ne wi.ne.1, upd_same, List.eraseIdx_eq_take_drop_succ, List.eraseIdx_eq_take_drop_succ, List.map_append, List.map_take, List.map_drop]
      · rw [upd_same, List.map_append]
        rfl
      · rw [List.length_append, wi.l1]
        rfl
      · rw [List.length_eraseIdx_of_lt hr]
        omega
    · rintro σ H1 ⟨ms, fs, v, wi, rfl⟩
      obtain ⟨x1, y1, z1, hd1⟩ := wi.dr
      refine ⟨_, rfl, k Fo H1 fs x1 y1 z1 wi.bt hd1 wi.n2 wi.hf (List.nodup_append.mp wi.nd).1 (fun w hw => wi.sub w (List.mem_append_left _ hw)) ?_⟩
      have := wi.l1
      omega
end
end Mv
/-! the law's _law_tried -/
namespace Mv
open PySem PySem.Spec PyProof.Rows L2 LamX
abbrev sTried : Stmt := top 56
/-- what the clauses ask of the classes -/
structure TrF (K : PySem.W.Frag) (CP CB CU CQ CF : Addr) : Prop where
  pp : PySem.W.exmOne K (.ref CP) (.ref CP) = some true
  bp : PySem.W.exmOne K (.ref CB) (.ref CP) = some false
  bb : PySem.W.exmOne K (.ref CB) (.ref CB) = some true
  up : PySem.W.exmOne K (.ref CU) (.ref CP) = some false
  ub : PySem.W.exmOne K (.ref CU) (.ref CB) = some false
  uu : PySem.W.exmOne K (.ref CU) (.ref CU) = some true
  qp : PySem.W.exmOne K (.ref CQ) (.ref CP) = some false
  qb : PySem.W.exmOne K (.ref CQ) (.ref CB) = some false
  qu : PySem.W.exmOne K (.ref CQ) (.ref CU) = some false
  qq : PySem.W.exmOne K (.ref CQ) (.ref CQ) = some true
  fp : PySem.W.exmOne K (.ref CF) (.ref CP) = some false
  fb : PySem.W.exmOne K (.ref CF) (.ref CB) = some false
  fu : PySem.W.exmOne K (.ref CF) (.ref CU) = some false
  fq : PySem.W.exmOne K (.ref CF) (.ref CQ) = some false
  ff : PySem.W.exmOne K (.ref CF) (.ref CF) = some true
/-- what _law_tried makes of the work's reading -/
def TTr (K : PySem.W.Frag) (CP CB CU CQ CF : Addr) : (XK → Hp → VK → Prop) → Hp → VK → Prop := fun tl H Q =>
  tl (fun cls d H' => (cls = .ref CP ∧ ∃ dd x, d = some dd ∧ H' dd = some (.xd [(("words" : Str), x)]) ∧ ∀ p H'', Same H' H'' → H' p = none → H'' p = some (.tup [.str "places", x]) → Q (.ref p) H'') ∨
      (cls = .ref CB ∧ ∃ dd x, d = some dd ∧ H' dd = some (.xd [(("words" : Str), x)]) ∧ ∀ p H'', Same H' H'' → H' p = none → H'' p = some (.tup [.str "begins", x]) → Q (.ref p) H'') ∨
      (cls = .ref CU ∧ ∃ dd x, d = some dd ∧ H' dd = some (.xd [(("index" : Str), x)]) ∧ ∀ p H'', Same H' H'' → H' p = none → H'' p = some (.tup [.str "rule", x]) → Q (.ref p) H'') ∨
      (cls = .ref CQ ∧ ∃ dd x, d = some dd ∧ H' dd = some (.xd [(("index" : Str), x)]) ∧ ∀ p H'', Same H' H'' → H' p = none → H'' p = some (.tup [.str "promise", x]) → Q (.ref p) H'') ∨
      (cls = .ref CF ∧ ∃ dd x, d = some dd ∧ H' dd = some (.xd [(("word" : Str), x)]) ∧ ∀ p H'', Same H' H'' → H' p = none → H'' p = some (.tup [.str "faults", x]) → Q (.ref p) H''))
    H (fun _ H1 => ∀ p H2, Same H1 H2 → H1 p = none → H2 p = some (.tup [.str "made", .bl true]) → Q (.ref p) H2)
abbrev nTried : List Str := ["_law_work", "_law_found", "e"]
section
variable {X : Cx} {CP CB CU CQ CF : Addr}
theorem scTr : FnScope nTried ["_law_work"] (defScope sTried) := ⟨rfl, rfl, rfl, by decide +kernel, rfl, by decide +kernel, by decide +kernel⟩
theorem tried_gives {g : Addr} {cdg : Value} {q : Str} (hcalm : X.A.handled = none)
    (Ep : Err X.prog X.w X.K X.mg X.base "BadPlaces" CP "words")
    (Eb : Err X.prog X.w X.K X.mg X.base "BadBegins" CB "words")
    (Eu : Err X.prog X.w X.K X.mg X.base "BadRule" CU "index")
    (Eq : Err X.prog X.w X.K X.mg X.base "BadPromise" CQ "index")
    (Ef : Err X.prog X.w X.K X.mg X.base "BadFaults" CF "word") (T : TrF X.K CP CB CU CQ CF) :
    GivesTo X nTried "_law_tried" (defScope sTried) g cdg (defBody sTried) "_law_work" q (TTr X.K CP CB CU CQ CF) := by
  intro f c' s H Q tl act hc h
  refine ⟨_, pss_cons (ps_try_asM (X := (cxOf C8.CX0 X.prog X.w X.K X.mg X.base nTried "_law_tried" (defScope sTried) g cdg X.A X.stack s H C8.E0).nox) (i := 2) (Wout := fun _ _ _ _ => False)
      (tb := fun W D σ H' => ∃ Ech : XK, (∀ cls d σ' H', Ech cls d H' → W cls d σ' H') ∧ (tSeq (tDrop (tWk fun σZ HZ Q => σZ[0]? = some (some (.ref f)) ∧ HZ c' = some (CodeO c' q) ∧ tl Ech HZ Q)) (tAsg (tTup (tCons (tC (.str "made")) (tCons (tC (.bl true)) tNil))) (gName 1))) D σ H')
      (l := [(.ref CP, fun a cls d D σ H' => σ.length = 3 → (tAsg (tTup (tCons (tC (.str "places")) (tCons (tFldErr CP "words" a cls d (tVar 2)) tNil))) (gName 1)) D σ H'),
        (.ref CB, fun a cls d D σ H' => σ.length = 3 → (tAsg (tTup (tCons (tC (.str "begins")) (tCons (tFldErr CB "words" a cls d (tVar 2)) tNil))) (gName 1)) D σ H'),
        (.ref CU, fun a cls d D σ H' => σ.length = 3 → (tAsg (tTup (tCons (tC (.str "rule")) (tCons (tFldErr CU "index" a cls d (tVar 2)) tNil))) (gName 1)) D σ H'),
        (.ref CQ, fun a cls d D σ H' => σ.length = 3 → (tAsg (tTup (tCons (tC (.str "promise")) (tCons (tFldErr CQ "index" a cls d (tVar 2)) tNil))) (gName 1)) D σ H'),
        (.ref CF, fun a cls d D σ H' => σ.length = 3 → (tAsg (tTup (tCons (tC (.str "faults")) (tCons (tFldErr CF "word" a cls d (tVar 2)) tNil))) (gName 1)) D σ H')])
      rfl rfl scTr.nd rfl rfl L2.takes0 (fun W pn xe tk _ => ?_) (.cons ⟨rfl, by decide, .inl Ep.gC⟩ (fun a oe cls d pn hz hf => ?_) (.cons ⟨rfl, by decide, .inl Eb.gC⟩ (fun a oe cls d pn hz hf => ?_) (.cons ⟨rfl, by decide, .inl Eu.gC⟩ (fun a oe cls d pn hz hf => ?_) (.cons ⟨rfl, by decide, .inl Eq.gC⟩ (fun a oe cls d pn hz hf => ?_) (.cons ⟨rfl, by decide, .inl Ef.gC⟩ (fun a oe cls d pn hz hf => ?_) .nil)))))) (pss_one (ps_ret (pv 1))), ?_⟩
  · refine ⟨fun pins s' σ H' D I ⟨Ech, hW, h'⟩ => ?_⟩
    refine PSs.run (X := (cxOf C8.CX0 X.prog X.w X.K X.mg X.base nTried "_law_tried" (defScope sTried) g cdg X.A X.stack s H C8.E0).tr pn xe) ?_ pins s' σ H' D I h'
    exact pss_cons (ps_expr (pe_wk (act W pn xe Ech _ _ tk hW)))
      (pss_one (ps_set (i := 1) scTr.nd rfl (.inl rfl) (pe_tup (pa_cons pe_str (pa_cons pe_bl pa_nil)))))
  · refine ⟨fun pins s' σ H' D I h' => ?_⟩
    refine PSs.run (X := ((cxOf C8.CX0 X.prog X.w X.K X.mg X.base nTried "_law_tried" (defScope sTried) g cdg X.A X.stack s H C8.E0).nox).suite a ((a, oe) :: pn)) ?_ pins s' σ H' D I (h' I.len)
    exact pss_one (ps_set (i := 1) scTr.nd rfl (.inl rfl) (pe_tup (pa_cons pe_str (pa_cons (pe_fldErr Ep hz hf (pv 2)) pa_nil))))
  · refine ⟨fun pins s' σ H' D I h' => ?_⟩
    refine PSs.run (X := ((cxOf C8.CX0 X.prog X.w X.K X.mg X.base nTried "_law_tried" (defScope sTried) g cdg X.A X.stack s H C8.E0).nox).suite a ((a, oe) :: pn)) ?_ pins s' σ H' D I (h' I.len)
    exact pss_one (ps_set (i := 1) scTr.nd rfl (.inl rfl) (pe_tup (pa_cons pe_str (pa_cons (pe_fldErr Eb hz hf (pv 2)) pa_nil))))
  · refine ⟨fun pins s' σ H' D I h' => ?_⟩
    refine PSs.run (X := ((cxOf C8.CX0 X.prog X.w X.K X.mg X.base nTried "_law_tried" (defScope sTried) g cdg X.A X.stack s H C8.E0).nox).suite a ((a, oe) :: pn)) ?_ pins s' σ H' D I (h' I.len)
    exact pss_one (ps_set (i := 1) scTr.nd rfl (.inl rfl) (pe_tup (pa_cons pe_str (pa_cons (pe_fldErr Eu hz hf (pv 2)) pa_nil))))
  · refine ⟨fun pins s' σ H' D I h' => ?_⟩
    refine PSs.run (X := ((cxOf C8.CX0 X.prog X.w X.K X.mg X.base nTried "_law_tried" (defScope sTried) g cdg X.A X.stack s H C8.E0).nox).suite a ((a, oe) :: pn)) ?_ pins s' σ H' D I (h' I.len)
    exact pss_one (ps_set (i := 1) scTr.nd rfl (.inl rfl) (pe_tup (pa_cons pe_str (pa_cons (pe_fldErr Eq hz hf (pv 2)) pa_nil))))
  · refine ⟨fun pins s' σ H' D I h' => ?_⟩
    refine PSs.run (X := ((cxOf C8.CX0 X.prog X.w X.K X.mg X.base nTried "_law_tried" (defScope sTried) g cdg X.A X.stack s H C8.E0).nox).suite a ((a, oe) :: pn)) ?_ pins s' σ H' D I (h' I.len)
    exact pss_one (ps_set (i := 1) scTr.nd rfl (.inl rfl) (pe_tup (pa_cons pe_str (pa_cons (pe_fldErr Ef hz hf (pv 2)) pa_nil))))
  · have len3 : ∀ {σ : L2.St} {a : Addr}, (σ.set 2 (some (.ref a))).length = 3 → σ.length = 3 := fun {σ a} h => by
      rw [List.length_set] at h
      exact h
    have at2 : ∀ {σ : L2.St} {a : Addr}, σ.length = 3 → (σ.set 2 (some (V.ref a)))[2]? = some (some (.ref a)) := fun {σ a} h => List.getElem?_set_self (by omega)
    refine ⟨_, fun cls d σ' H' hE => ?_, _, ⟨rfl, hc, h⟩, ?_⟩
    · rcases hE with ⟨rfl, dd, x, rfl, hx, k⟩ | ⟨rfl, dd, x, rfl, hx, k⟩ | ⟨rfl, dd, x, rfl, hx, k⟩ | ⟨rfl, dd, x, rfl, hx, k⟩ | ⟨rfl, dd, x, rfl, hx, k⟩
      · refine ⟨true, T.pp, (fun _ a ha hlen => ?_), fun z => Bool.noConfusion z⟩
        have h4 := len3 hlen
        refine ⟨_, at2 h4, rfl, rfl, dd, x, rfl, hx, (by show 2 ≤ sizeLine; decide), fun p hp => ?_⟩
        refine ⟨.ref p, ?_, k p _ (same_new hp) hp upd_same⟩
        rw [List.getElem?_set_ne (by decide), List.getElem?_set_self (by rw [List.length_set]; omega)]
      · refine ⟨false, T.bp, (fun z => Bool.noConfusion z), fun _ => ⟨true, T.bb, (fun _ a ha hlen => ?_), fun z => Bool.noConfusion z⟩⟩
        have h4 := len3 hlen
        refine ⟨_, at2 h4, rfl, rfl, dd, x, rfl, hx, (by show 2 ≤ sizeLine; decide), fun p hp => ?_⟩
        refine ⟨.ref p, ?_, k p _ (same_new hp) hp upd_same⟩
        rw [List.getElem?_set_ne (by decide), List.getElem?_set_self (by rw [List.length_set]; omega)]
      · refine ⟨false, T.up, (fun z => Bool.noConfusion z), fun _ => ⟨false, T.ub, (fun z => Bool.noConfusion z), fun _ => ⟨true, T.uu, (fun _ a ha hlen => ?_), fun z => Bool.noConfusion z⟩⟩⟩
        have h4 := len3 hlen
        refine ⟨_, at2 h4, rfl, rfl, dd, x, rfl, hx, (by show 2 ≤ sizeLine; decide), fun p hp => ?_⟩
        refine ⟨.ref p, ?_, k p _ (same_new hp) hp upd_same⟩
        rw [List.getElem?_set_ne (by decide), List.getElem?_set_self (by rw [List.length_set]; omega)]
      · refine ⟨false, T.qp, (fun z => Bool.noConfusion z), fun _ => ⟨false, T.qb, (fun z => Bool.noConfusion z), fun _ => ⟨false, T.qu, (fun z => Bool.noConfusion z), fun _ => ⟨true, T.qq, (fun _ a ha hlen => ?_), fun z => Bool.noConfusion z⟩⟩⟩⟩
        have h4 := len3 hlen
        refine ⟨_, at2 h4, rfl, rfl, dd, x, rfl, hx, (by show 2 ≤ sizeLine; decide), fun p hp => ?_⟩
        refine ⟨.ref p, ?_, k p _ (same_new hp) hp upd_same⟩
        rw [List.getElem?_set_ne (by decide), List.getElem?_set_self (by rw [List.length_set]; omega)]
      · refine ⟨false, T.fp, (fun z => Bool.noConfusion z), fun _ => ⟨false, T.fb, (fun z => Bool.noConfusion z), fun _ => ⟨false, T.fu, (fun z => Bool.noConfusion z), fun _ => ⟨false, T.fq, (fun z => Bool.noConfusion z), fun _ => ⟨true, T.ff, (fun _ a ha hlen => ?_), fun z => Bool.noConfusion z⟩⟩⟩⟩⟩
        have h4 := len3 hlen
        refine ⟨_, at2 h4, rfl, rfl, dd, x, rfl, hx, (by show 2 ≤ sizeLine; decide), fun p hp => ?_⟩
        refine ⟨.ref p, ?_, k p _ (same_new hp) hp upd_same⟩
        rw [List.getElem?_set_ne (by decide), List.getElem?_set_self (by rw [List.length_set]; omega)]
    · intro v H1 k
      refine ⟨(by show 2 ≤ sizeLine; decide), fun p hp => ?_⟩
      exact ⟨.ref p, rfl, k p _ (same_new hp) hp upd_same⟩
end
end Mv
/-! the law's _law_are_words -/
namespace Mv
open PySem PySem.Spec PyProof.Rows L2
def wordsB (m : Int) : Option (List V) → Bool
  | none => false
  | some xs => (decide ((1 : Int) ≤ xs.length) && decide ((xs.length : Int) ≤ m)) && noBad xs
abbrev sLAre : Stmt := top 57
abbrev nLA : List Str := ["_law_thing", "_law_most", "_law_k", "_law_word", "_law_sign"]
theorem scLA : FnScope nLA ["_law_thing", "_law_most"] (defScope sLAre) := ⟨rfl, rfl, rfl, by decide +kernel, rfl, by decide +kernel, by decide +kernel⟩
def spLAre (K : PySem.W.Frag) : Sp := fun vs H Q _ => ∃ (x : V) (m : Int) (o : Option (List V)), vs = [x, .int m] ∧ KnL K H x o ∧ ∀ H', Same H H' → Q (.bl (wordsB m o)) H'
structure LAT (mg : Str → Option Value) : Prop where
  isi : mg "isinstance" = none
  list : mg "list" = none
  tuple : mg "tuple" = none
  len : mg "len" = none
  en : mg "enumerate" = none
  str : mg "str" = none
  all : mg "all" = none
theorem bad_at {xs : List V} {i : Nat} {x : V} (hx : xs[i]? = some x) : badAt xs i = (!isW x || inV x (xs.take i)) := by
  unfold badAt
  rw [hx]
section
variable {P : Program} {w : World} {K : PySem.W.Frag} {mg : Str → Option Value} {base : Heap}
theorem ok_lare {f : Addr} {fd : FuncData} (F : Fun K "_law_are_words" "_law_are_words" sLAre f fd) (T : LAT mg) : FnOk P w K mg base CX0 1 f fd ["_law_thing", "_law_most"] (spLAre K) := by
  refine F.ok scLA (fun vs H Q E h => ?_) (fun cdv A outer s H vs Q E hr h => ?_)
  · obtain ⟨x, m, o, rfl, _⟩ := h
    rfl
  · obtain ⟨x, m, o, rfl, hk, k⟩ := h
    rcases hk with ⟨rfl, hl⟩ | ⟨a, xs, rfl, rfl, hS | hS, kn, l9⟩
    · refine ⟨_, pss_cons (ps_if (PW.pt (pw_or (pt_not (pt_val (pe_callB call_isiT (by rfl) T.isi (by decide +kernel) (pa_cons (pv 0) (pa_cons (pe_tup (pa_cons (pe_bltn (v := .ty "list") (by rfl) T.list (by decide +kernel) rfl) (pa_cons (pe_bltn (v := .ty "tuple") (by rfl) T.tuple (by decide +kernel) rfl) pa_nil))) pa_nil)))))
        (pw_or1 (pt_not (pt_chain op_le op_le pe_int (pe_callB call_len_seq (by rfl) T.len PySem.boot_len (pa_cons (pv 0) pa_nil)) (pv 1)))))) (pss_one (ps_ret pe_bl)) pss_nil) pss_never, ?_⟩
      refine ⟨_, rfl, (by show 2 ≤ sizeLine; decide), fun p hp => ?_⟩
      have s1 : Same H (upd H p (.tup [.ty "list", .ty "tuple"])) := same_new hp
      obtain ⟨t, ty, e⟩ := hl _ s1
      refine ⟨_, p, _, t, LT, false, rfl, upd_same, .cons (.ty "list") (.cons (.ty "tuple") .nil), ty, e, false, rfl, ?_⟩
      refine iteT ?_
      refine iteT ?_
      exact k _ s1
    · refine ⟨_, pss_cons (ps_if (PW.pt (pw_or (pt_not (pt_val (pe_callB call_isiT (by rfl) T.isi (by decide +kernel) (pa_cons (pv 0) (pa_cons (pe_tup (pa_cons (pe_bltn (v := .ty "list") (by rfl) T.list (by decide +kernel) rfl) (pa_cons (pe_bltn (v := .ty "tuple") (by rfl) T.tuple (by decide +kernel) rfl) pa_nil))) pa_nil)))))
        (pw_or1 (pt_not (pt_chain op_le op_le pe_int (pe_callB call_len_seq (by rfl) T.len PySem.boot_len (pa_cons (pv 0) pa_nil)) (pv 1)))))) (pss_one (ps_ret pe_bl)) pss_nil)
        (pss_cons (ps_for PassesOwn.never rfl (pi_enum (by rfl) T.en (pa_cons (pv 0) pa_nil)) (pg_tup rfl (pgs_cons (pg_name (i := 2) scLA.nd rfl (Or.inl rfl)) (pgs_cons (pg_name (i := 3) scLA.nd rfl (Or.inl rfl)) pgs_nil)))
          (pss_cons (ps_if (PW.pt (pw_or (pt_not (pt_val (pe_callB call_isi (by rfl) T.isi (by decide +kernel) (pa_cons (pv 3) (pa_cons (pe_bltn (v := .ty "str") (by rfl) T.str (by decide +kernel) rfl) pa_nil)))))
            (pw_or (pt_not (pt_chain op_le op_le pe_int (pe_callB call_len_str (by rfl) T.len PySem.boot_len (pa_cons (pv 3) pa_nil)) pe_int)) (pw_or1 (pt_cmpR op_in_seq (pv 3) (pe_slice sl_list (pv 0) po_none (po_some (pv 2))) (by rfl)))))) (pss_one (ps_ret pe_bl)) pss_nil)
          (pss_one (ps_if (pt_not (pt_val (pe_callB (cr_all rfl) (by rfl) T.all (by decide +kernel) (pa_cons (pe_lc (own := [("_law_sign", 4)]) (g := gName 4) (tt := tYes) rfl scLA.nd (pi_str (pv 3)) (blkOk_by (N := nLA) (sc := defScope sLAre) (by decide +kernel))
            (fun _ _ _ _ _ => pg_name (i := 4) scLA.nd rfl (Or.inl rfl)) (fun _ _ _ _ _ => pts_nil) (fun _ _ _ _ _ => pe_cmpR op_in_sign (pv 4) pe_str (by rfl))) pa_nil)))) (pss_one (ps_ret pe_bl)) pss_nil))))
        (pss_one (ps_ret pe_bl))), ?_⟩
      refine ⟨_, rfl, (by show 2 ≤ sizeLine; decide), fun p hp => ?_⟩
      have s1 : Same H (upd H p (.tup [.ty "list", .ty "tuple"])) := same_new hp
      obtain ⟨t, ty, e⟩ := kl_seq (.inl (same_sqL s1 hS))
      refine ⟨_, p, _, t, LT, true, rfl, upd_same, .cons (.ty "list") (.cons (.ty "tuple") .nil), ty, e, true, rfl, ?_⟩
      refine iteF ?_
      clear ty e
      generalize upd H p (.tup [.ty "list", .ty "tuple"]) = G at s1 ⊢
      refine ⟨_, rfl, a, _, rfl, .inl (same_sqL s1 hS), _, _, rfl, rfl, _, rfl, ?_⟩
      by_cases c1 : (1 : Int) ≤ xs.length
      rotate_left
      · refine ifF (decide_eq_false c1) ?_
        refine ⟨_, rfl, ?_⟩
        refine iteT ?_
        have e : wordsB m (some xs) = false := by show ((decide ((1 : Int) ≤ xs.length) && decide ((xs.length : Int) ≤ m)) && noBad xs) = false; rw [decide_eq_false c1]; rfl
        rw [e] at k
        exact k _ s1
      refine ifT (decide_eq_true c1) ?_
      refine ⟨_, rfl, _, _, rfl, rfl, _, rfl, ?_⟩
      by_cases c2 : (xs.length : Int) ≤ m
      rotate_left
      · refine ifT (by rw [decide_eq_false c2]; rfl) ?_
        have e : wordsB m (some xs) = false := by show ((decide ((1 : Int) ≤ xs.length) && decide ((xs.length : Int) ≤ m)) && noBad xs) = false; rw [decide_eq_false c2, Bool.and_false]; rfl
        rw [e] at k
        exact k _ s1
      refine ifF (by rw [decide_eq_true c2]; rfl) ?_
      have bad : ∀ {i : Nat}, i < xs.length → badAt xs i = true → wordsB m (some xs) = false := fun {i} hi hb => by
        show ((decide ((1 : Int) ≤ xs.length) && decide ((xs.length : Int) ≤ m)) && noBad xs) = false
        rw [noBad_false hi hb, Bool.and_false]
      refine ⟨_, rfl, a, xs, rfl, same_sqL s1 hS, ?_⟩
      refine for_it (walk_enum (a := a) (xs := xs)) (fun i σ H' => (∃ u v, σ = [some (.ref a), some (.int m), u, v, none]) ∧ Same H H' ∧ ∀ j, j < i → badAt xs j = false) ⟨⟨none, none, rfl⟩, s1, fun j hj => absurd hj (Nat.not_lt_zero j)⟩ (fun i σ H' _ q => same_sqL q.2.1 hS) ?_ ?_
      · rintro i v0 σ H1 H1' hi0 ⟨⟨u, v, rfl⟩, sm, good⟩ ⟨Tp, n0, x, rfl, nT, rfl, en0, hx⟩
        cases en0
        have hi : i < xs.length := (List.getElem?_eq_some_iff.mp hx).1
        have sm1 : Same H (upd H1 Tp (.tup [.int (i : Nat), x])) := sm.trans (same_new nT)
        refine ⟨Tp, _, rfl, .inl (.inl upd_same), rfl, _, _, rfl, ?_⟩
        refine ⟨x, [], rfl, rfl, ?_⟩
        generalize upd H1 Tp (.tup [.int (i : Nat), x]) = G1 at sm1 ⊢
        have eb := bad_at hx
        have kx := kn x (List.mem_of_getElem? hx) _ sm1
        generalize hxx : x = x' at kx
        cases kx with
        | oth ty hb hn =>
          subst hxx
          refine ⟨_, rfl, _, _, _, _, false, rfl, .ty "str", ty, hb, false, rfl, ?_⟩
          refine iteT ?_
          refine iteT ?_
          rw [bad hi (by rw [eb, hn]; rfl)] at k
          exact k _ sm1
        | @str z hz =>
          subst hxx
          refine ⟨_, rfl, _, _, _, _, true, rfl, .ty "str", .base (.str _), kit_ty (by decide +kernel), true, rfl, ?_⟩
          refine iteF ?_
          refine ⟨_, rfl, _, rfl, hz, _, _, rfl, rfl, _, rfl, ?_⟩
          by_cases h1 : (1 : Int) ≤ z.length
          rotate_left
          · refine ifF (decide_eq_false h1) ?_
            refine ⟨_, rfl, ?_⟩
            refine iteT ?_
            refine iteT ?_
            have e : isW (.str z) = false := by
              show isWS z = _
              unfold isWS
              have a1 : ¬ 1 ≤ z.length := by omega
              simp [a1]
            rw [bad hi (by rw [eb, e]; rfl)] at k
            exact k _ sm1
          refine ifT (decide_eq_true h1) ?_
          refine ⟨_, _, rfl, rfl, _, rfl, ?_⟩
          by_cases h2 : (z.length : Int) ≤ 8
          rotate_left
          · refine ifT (by simp [h2]) ?_
            refine iteT ?_
            have e : isW (.str z) = false := by
              show isWS z = _
              unfold isWS
              have a2 : ¬ z.length ≤ 8 := by omega
              simp [a2]
            rw [bad hi (by rw [eb, e]; rfl)] at k
            exact k _ sm1
          refine ifF (by simp [h2]) ?_
          have ew : isW (.str z) = (signs z).all id := by
            show isWS z = _
            unfold isWS
            have a1 : 1 ≤ z.length := by omega
            have a2 : z.length ≤ 8 := by omega
            simp [a1, a2]
          refine ⟨_, rfl, _, rfl, _, rfl, _, rfl, a, xs, rfl, same_sqL sm1 hS, fun q hq => ?_⟩
          rw [cut_take (Nat.le_of_lt hi)]
          refine ⟨q, _, rfl, .inl (.inl (.inl upd_same)), rfl, good_flat good, _, rfl, ?_⟩
          have sm3 : Same H (upd G1 q (.lst (xs.take i))) := sm1.trans (same_new hq)
          generalize upd G1 q (.lst (xs.take i)) = G3 at sm3 ⊢
          cases e2 : inV (.str z) (xs.take i) with
          | true =>
            refine iteT ?_
            rw [bad hi (by rw [eb, e2, Bool.or_true])] at k
            exact k _ sm3
          | false =>
          refine iteF ?_
          refine ⟨_, rfl, z, rfl, fun D hD => ?_⟩
          have hlen : z.cps.toList.length = z.length := rfl
          refine lc_it walk_str (fun i H' => Same G3 H' ∧ H' D = some (.lst (((signs z).take i).map V.bl))) ⟨same_new hD, upd_same⟩ (fun _ _ _ _ => True.intro) ?_ ?_
          · rintro n y H4 H5 hn ⟨s4, hd⟩ ⟨eH, c, hc, rfl⟩
            rw [eH]
            have hs : (signs z)[n]? = some (decide (c ∈ LET.cps.toList)) := by
              unfold signs
              rw [List.getElem?_map, Array.getElem?_toList, hc]
              rfl
            refine ⟨rfl, ?_⟩
            unfold tYes
            refine iteT ?_
            refine ⟨_, rfl, c, LET, rfl, rfl, _, hd, ?_, same_put s4 hD, ?_⟩
            · rw [List.length_map, List.length_take]
              have h5 : z.cps.size ≤ sizeLine := hz
              exact Nat.lt_of_le_of_lt (Nat.min_le_left _ _) (Nat.lt_of_lt_of_le hn h5)
            · rw [upd_same, take_next hs, List.map_append]
              rfl
          rintro H4 ⟨s4, hd⟩
          rw [show z.cps.size = (signs z).length from by unfold signs; simp, List.take_length] at hd
          have sm4 := sm3.trans s4
          refine ⟨D, signs z, rfl, SqL.of hd, ?_⟩
          rw [← ew]
          refine ⟨_, rfl, ?_⟩
          cases e3 : isW (.str z) with
          | false =>
            refine iteT ?_
            rw [bad hi (by rw [eb, e3]; rfl)] at k
            exact k _ sm4
          | true =>
            refine iteF ?_
            refine ⟨⟨_, _, rfl⟩, sm4, fun j hj => ?_⟩
            rcases Nat.lt_succ_iff_lt_or_eq.mp hj with q2 | q2
            · exact good j q2
            · rw [q2, eb, e2, e3]; rfl
      · rintro σ H1 ⟨_, sm, good⟩
        have e : wordsB m (some xs) = true := by
          show ((decide ((1 : Int) ≤ xs.length) && decide ((xs.length : Int) ≤ m)) && noBad xs) = true
          rw [decide_eq_true c1, decide_eq_true c2, noBad_iff.mpr good]
          rfl
        rw [e] at k
        exact k H1 sm
    · refine ⟨_, pss_cons (ps_if (PW.pt (pw_or (pt_not (pt_val (pe_callB call_isiT (by rfl) T.isi (by decide +kernel) (pa_cons (pv 0) (pa_cons (pe_tup (pa_cons (pe_bltn (v := .ty "list") (by rfl) T.list (by decide +kernel) rfl) (pa_cons (pe_bltn (v := .ty "tuple") (by rfl) T.tuple (by decide +kernel) rfl) pa_nil))) pa_nil)))))
        (pw_or1 (pt_not (pt_chain op_le op_le pe_int (pe_callB call_len_seq (by rfl) T.len PySem.boot_len (pa_cons (pv 0) pa_nil)) (pv 1)))))) (pss_one (ps_ret pe_bl)) pss_nil)
        (pss_cons (ps_for PassesOwn.never rfl (pi_enumT (by rfl) T.en (pa_cons (pv 0) pa_nil)) (pg_tup rfl (pgs_cons (pg_name (i := 2) scLA.nd rfl (Or.inl rfl)) (pgs_cons (pg_name (i := 3) scLA.nd rfl (Or.inl rfl)) pgs_nil)))
          (pss_cons (ps_if (PW.pt (pw_or (pt_not (pt_val (pe_callB call_isi (by rfl) T.isi (by decide +kernel) (pa_cons (pv 3) (pa_cons (pe_bltn (v := .ty "str") (by rfl) T.str (by decide +kernel) rfl) pa_nil)))))
            (pw_or (pt_not (pt_chain op_le op_le pe_int (pe_callB call_len_str (by rfl) T.len PySem.boot_len (pa_cons (pv 3) pa_nil)) pe_int)) (pw_or1 (pt_cmpR op_in_seq (pv 3) (pe_slice sl_tup (pv 0) po_none (po_some (pv 2))) (by rfl)))))) (pss_one (ps_ret pe_bl)) pss_nil)
          (pss_one (ps_if (pt_not (pt_val (pe_callB (cr_all rfl) (by rfl) T.all (by decide +kernel) (pa_cons (pe_lc (own := [("_law_sign", 4)]) (g := gName 4) (tt := tYes) rfl scLA.nd (pi_str (pv 3)) (blkOk_by (N := nLA) (sc := defScope sLAre) (by decide +kernel))
            (fun _ _ _ _ _ => pg_name (i := 4) scLA.nd rfl (Or.inl rfl)) (fun _ _ _ _ _ => pts_nil) (fun _ _ _ _ _ => pe_cmpR op_in_sign (pv 4) pe_str (by rfl))) pa_nil)))) (pss_one (ps_ret pe_bl)) pss_nil))))
        (pss_one (ps_ret pe_bl))), ?_⟩
      refine ⟨_, rfl, (by show 2 ≤ sizeLine; decide), fun p hp => ?_⟩
      have s1 : Same H (upd H p (.tup [.ty "list", .ty "tuple"])) := same_new hp
      obtain ⟨t, ty, e⟩ := kl_seq (.inr (same_sqT s1 hS))
      refine ⟨_, p, _, t, LT, true, rfl, upd_same, .cons (.ty "list") (.cons (.ty "tuple") .nil), ty, e, true, rfl, ?_⟩
      refine iteF ?_
      clear ty e
      generalize upd H p (.tup [.ty "list", .ty "tuple"]) = G at s1 ⊢
      refine ⟨_, rfl, a, _, rfl, .inr (same_sqT s1 hS), _, _, rfl, rfl, _, rfl, ?_⟩
      by_cases c1 : (1 : Int) ≤ xs.length
      rotate_left
      · refine ifF (decide_eq_false c1) ?_
        refine ⟨_, rfl, ?_⟩
        refine iteT ?_
        have e : wordsB m (some xs) = false := by show ((decide ((1 : Int) ≤ xs.length) && decide ((xs.length : Int) ≤ m)) && noBad xs) = false; rw [decide_eq_false c1]; rfl
        rw [e] at k
        exact k _ s1
      refine ifT (decide_eq_true c1) ?_
      refine ⟨_, rfl, _, _, rfl, rfl, _, rfl, ?_⟩
      by_cases c2 : (xs.length : Int) ≤ m
      rotate_left
      · refine ifT (by rw [decide_eq_false c2]; rfl) ?_
        have e : wordsB m (some xs) = false := by show ((decide ((1 : Int) ≤ xs.length) && decide ((xs.length : Int) ≤ m)) && noBad xs) = false; rw [decide_eq_false c2, Bool.and_false]; rfl
        rw [e] at k
        exact k _ s1
      refine ifF (by rw [decide_eq_true c2]; rfl) ?_
      have bad : ∀ {i : Nat}, i < xs.length → badAt xs i = true → wordsB m (some xs) = false := fun {i} hi hb => by
        show ((decide ((1 : Int) ≤ xs.length) && decide ((xs.length : Int) ≤ m)) && noBad xs) = false
        rw [noBad_false hi hb, Bool.and_false]
      refine ⟨_, rfl, a, xs, rfl, same_sqT s1 hS, ?_⟩
      refine for_enumT (K := K) (a := a) (xs := xs) rfl (fun i σ H' => (∃ u v, σ = [some (.ref a), some (.int m), u, v, none]) ∧ Same H H' ∧ ∀ j, j < i → badAt xs j = false) ⟨⟨none, none, rfl⟩, s1, fun j hj => absurd hj (Nat.not_lt_zero j)⟩ (fun i σ H' q => same_sqT q.2.1 hS) ?_ ?_
      · rintro i x Tp σ H1 hx ⟨⟨u, v, rfl⟩, sm, good⟩ nT
        have hi : i < xs.length := (List.getElem?_eq_some_iff.mp hx).1
        have sm1 : Same H (upd H1 Tp (.tup [.int (i : Nat), x])) := sm.trans (same_new nT)
        refine ⟨Tp, _, rfl, .inl (.inl upd_same), rfl, _, _, rfl, ?_⟩
        refine ⟨x, [], rfl, rfl, ?_⟩
        generalize upd H1 Tp (.tup [.int (i : Nat), x]) = G1 at sm1 ⊢
        have eb := bad_at hx
        have kx := kn x (List.mem_of_getElem? hx) _ sm1
        generalize hxx : x = x' at kx
        cases kx with
        | oth ty hb hn =>
          subst hxx
          refine ⟨_, rfl, _, _, _, _, false, rfl, .ty "str", ty, hb, false, rfl, ?_⟩
          refine iteT ?_
          refine iteT ?_
          rw [bad hi (by rw [eb, hn]; rfl)] at k
          exact k _ sm1
        | @str z hz =>
          subst hxx
          refine ⟨_, rfl, _, _, _, _, true, rfl, .ty "str", .base (.str _), kit_ty (by decide +kernel), true, rfl, ?_⟩
          refine iteF ?_
          refine ⟨_, rfl, _, rfl, hz, _, _, rfl, rfl, _, rfl, ?_⟩
          by_cases h1 : (1 : Int) ≤ z.length
          rotate_left
          · refine ifF (decide_eq_false h1) ?_
            refine ⟨_, rfl, ?_⟩
            refine iteT ?_
            refine iteT ?_
            have e : isW (.str z) = false := by
              show isWS z = _
              unfold isWS
              have a1 : ¬ 1 ≤ z.length := by omega
              simp [a1]
            rw [bad hi (by rw [eb, e]; rfl)] at k
            exact k _ sm1
          refine ifT (decide_eq_true h1) ?_
          refine ⟨_, _, rfl, rfl, _, rfl, ?_⟩
          by_cases h2 : (z.length : Int) ≤ 8
          rotate_left
          · refine ifT (by simp [h2]) ?_
            refine iteT ?_
            have e : isW (.str z) = false := by
              show isWS z = _
              unfold isWS
              have a2 : ¬ z.length ≤ 8 := by omega
              simp [a2]
            rw [bad hi (by rw [eb, e]; rfl)] at k
            exact k _ sm1
          refine ifF (by simp [h2]) ?_
          have ew : isW (.str z) = (signs z).all id := by
            show isWS z = _
            unfold isWS
            have a1 : 1 ≤ z.length := by omega
            have a2 : z.length ≤ 8 := by omega
            simp [a1, a2]
          refine ⟨_, rfl, _, rfl, _, rfl, _, rfl, a, xs, rfl, same_sqT sm1 hS, (by rintro ⟨_, z2⟩; rw [sIx_some (Nat.le_of_lt hi)] at z2; omega), fun q hq => ?_⟩
          rw [cut_take (Nat.le_of_lt hi)]
          refine ⟨q, _, rfl, .inr (.inl (.inl upd_same)), rfl, good_flat good, _, rfl, ?_⟩
          have sm3 : Same H (upd G1 q (.tup (xs.take i))) := sm1.trans (same_new hq)
          generalize upd G1 q (.tup (xs.take i)) = G3 at sm3 ⊢
          cases e2 : inV (.str z) (xs.take i) with
          | true =>
            refine iteT ?_
            rw [bad hi (by rw [eb, e2, Bool.or_true])] at k
            exact k _ sm3
          | false =>
          refine iteF ?_
          refine ⟨_, rfl, z, rfl, fun D hD => ?_⟩
          have hlen : z.cps.toList.length = z.length := rfl
          refine lc_it walk_str (fun i H' => Same G3 H' ∧ H' D = some (.lst (((signs z).take i).map V.bl))) ⟨same_new hD, upd_same⟩ (fun _ _ _ _ => True.intro) ?_ ?_
          · rintro n y H4 H5 hn ⟨s4, hd⟩ ⟨eH, c, hc, rfl⟩
            rw [eH]
            have hs : (signs z)[n]? = some (decide (c ∈ LET.cps.toList)) := by
              unfold signs
              rw [List.getElem?_map, Array.getElem?_toList, hc]
              rfl
            refine ⟨rfl, ?_⟩
            unfold tYes
            refine iteT ?_
            refine ⟨_, rfl, c, LET, rfl, rfl, _, hd, ?_, same_put s4 hD, ?_⟩
            · rw [List.length_map, List.length_take]
              have h5 : z.cps.size ≤ sizeLine := hz
              exact Nat.lt_of_le_of_lt (Nat.min_le_left _ _) (Nat.lt_of_lt_of_le hn h5)
            · rw [upd_same, take_next hs, List.map_append]
              rfl
          rintro H4 ⟨s4, hd⟩
          rw [show z.cps.size = (signs z).length from by unfold signs; simp, List.take_length] at hd
          have sm4 := sm3.trans s4
          refine ⟨D, signs z, rfl, SqL.of hd, ?_⟩
          rw [← ew]
          refine ⟨_, rfl, ?_⟩
          cases e3 : isW (.str z) with
          | false =>
            refine iteT ?_
            rw [bad hi (by rw [eb, e3]; rfl)] at k
            exact k _ sm4
          | true =>
            refine iteF ?_
            refine ⟨⟨_, _, rfl⟩, sm4, fun j hj => ?_⟩
            rcases Nat.lt_succ_iff_lt_or_eq.mp hj with q2 | q2
            · exact good j q2
            · rw [q2, eb, e2, e3]; rfl
      · rintro σ H1 ⟨_, sm, good⟩
        have e : wordsB m (some xs) = true := by
          show ((decide ((1 : Int) ≤ xs.length) && decide ((xs.length : Int) ≤ m)) && noBad xs) = true
          rw [decide_eq_true c1, decide_eq_true c2, noBad_iff.mpr good]
          rfl
        rw [e] at k
        exact k H1 sm
end
end Mv
/-! the law's _law_some_lines -/
namespace Mv
open PySem PySem.Spec PyProof.Rows L2
def Fr2 (d L : Addr) (H H' : Hp) : Prop := ∀ b o, H b = some o → b ≠ d → b ≠ L → (∀ ps, o ≠ .tbl ps) → H' b = some o
theorem Fr2.refl (d L : Addr) (H : Hp) : Fr2 d L H H := fun _ _ h _ _ _ => h
theorem Fr2.trans {d L : Addr} {H H1 H2 : Hp} (a : Fr2 d L H H1) (b : Fr2 d L H1 H2) : Fr2 d L H H2 := fun c o h n m t => b c o (a c o h n m t) n m t
theorem Fr2.of {d L : Addr} {H H' : Hp} (a : Fr d H H') : Fr2 d L H H' := fun c o h n _ t => a c o h n t
theorem Fr2.upd {d L : Addr} {H : Hp} {o : HO} : Fr2 d L H (upd H L o) := fun c u h _ m _ => by rw [upd_ne m]; exact h
def Far (d L : Addr) (R : Hp → Prop) (H : Hp) : Prop := ∀ H', Fr2 d L H H' → R H'
theorem Far.now {d L : Addr} {R : Hp → Prop} {H : Hp} (h : Far d L R H) : R H := h H (Fr2.refl d L H)
theorem Far.go {d L : Addr} {R : Hp → Prop} {H H' : Hp} (h : Far d L R H) (f : Fr2 d L H H') : Far d L R H' := fun H2 f2 => h H2 (f.trans f2)
def SAYS : List Str := ["yes", "no", "x"]
def NAMES : List Str := ["ra", "rb", "rc", "rd", "re", "rf", "rg", "rh", "ri"]
theorem nm_ok : ∀ i : Nat, i < 9 → (("abcdefghi" : Str).cps.toList[i]?).any (fun c => decide (("r" : Str) ++ (⟨#[c]⟩ : Str) ∈ NAMES)) = true := by decide +kernel
theorem names_w : ∀ z ∈ NAMES, isWS z = true ∧ z.length ≤ 8 ∧ PyData.strOk z = true := by decide +kernel
theorem says_w : ∀ z ∈ SAYS, isWS z = true ∧ z.length ≤ 8 ∧ PyData.strOk z = true := by decide +kernel
/-- a line that was drawn -/
structure OkL (zs : List Str) (r : Ru) : Prop where
  n : r.n ∈ NAMES
  s : r.s ∈ zs
  e : r.e ∈ zs ∨ r.e = "strange"
  y : ∀ z ∈ r.ss, z ∈ SAYS
  l : r.ss.length ≤ 1
structure SLI (K : PySem.W.Frag) (d z L : Addr) (H0 : Hp) (zs : List Str) (i : Nat) (as : List Addr) (R : List Ru) (H : Hp) : Prop where
  bt : But d H0 H
  dr : ∃ x y w, H d = some (Mv.dr x y w)
  nL : H0 L = none
  hL : H L = some (.lst (as.map V.ref))
  ne : L ≠ d ∧ z ≠ d ∧ z ≠ L
  hz : H z = some (.lst (zs.map V.str))
  far : Far d L (fun G => Paired (LineAt G) as R) H
  l : R.length = i
  ok : ∀ r ∈ R, OkL zs r
section
variable {K : PySem.W.Frag} {d z L : Addr} {H0 H H' : Hp} {zs : List Str} {i : Nat} {as : List Addr} {R : List Ru}
theorem SLI.but (h : SLI K d z L H0 zs i as R H) (b : But d H H') (hd : ∃ x y w, H' d = some (Mv.dr x y w)) : SLI K d z L H0 zs i as R H' :=
  ⟨h.bt.trans b, hd, h.nL, b _ _ h.hL h.ne.1, h.ne, b _ _ h.hz h.ne.2.1, h.far.go (Fr2.of (Fr.but b)), h.l, h.ok⟩
theorem SLI.same (h : SLI K d z L H0 zs i as R H) (s : Same H H') : SLI K d z L H0 zs i as R H' :=
  let ⟨x, y, w, e⟩ := h.dr
  h.but (But.of s) ⟨x, y, w, s _ _ e⟩
end
abbrev sLines : Stmt := top 60
abbrev slB : List Stmt := defBody sLines
abbrev slF : List Stmt := match stAt slB 1 with
  | .For _ _ b _ _ => b
  | _ => []
abbrev nSL : List Str := ["_law_draws", "_law_spots", "_law_found", "_law_k", "_law_wide", "_law_one", "_law_two", "_law_says", "_law_name"]
theorem scSL : FnScope nSL ["_law_draws", "_law_spots"] (defScope sLines) := ⟨rfl, rfl, rfl, by decide +kernel, rfl, by decide +kernel, by decide +kernel⟩
abbrev SlX (P : Program) (w : World) (K : PySem.W.Frag) (mg : Str → Option Value) (base : Heap) (f : Addr) (cdv : Value) (A : Around) (outer : List Env) (s : Shared) (H : Hp) (E : XK) : Cx := (cxOf CX0 P w K mg base nSL "_law_some_lines" (defScope sLines) f cdv A outer s H E).nox
structure SlT (P : Program) (w : World) (K : PySem.W.Frag) (mg : Str → Option Value) (base : Heap) : Prop where
  draw : Dn P w K mg base CX0 1 "_law_draw" ["_law_draws", "_law_many"] spDraw
  pick : Dn P w K mg base CX0 2 "_law_pick" ["_law_draws", "_law_xs"] (spPick K)
  range : mg "range" = none
  len : mg "len" = none
  min : mg "min" = none
section
variable {P : Program} {w : World} {K : PySem.W.Frag} {mg : Str → Option Value} {base : Heap} {d z : Addr} {Hs : Hp} {zs : List Str} {i : Nat}
variable {f : Addr} {cdv : Value} {A : Around} {outer : List Env} {s : Shared} {H0 : Hp} {E0' : XK}
def Q0 (K : PySem.W.Frag) (d z : Addr) (Hs : Hp) (zs : List Str) (i : Nat) (σ : L2.St) (H : Hp) : Prop := ∃ L as R v4 v5 v6 v7 v8, SLI K d z L Hs zs i as R H ∧ σ = [some (.ref d), some (.ref z), some (.ref L), some (.int (i : Int)), v4, v5, v6, v7, v8]
def Q1 (K : PySem.W.Frag) (d z : Addr) (Hs : Hp) (zs : List Str) (i : Nat) (σ : L2.St) (H : Hp) : Prop := ∃ (L : Addr) (as : List Addr) (R : List Ru) (m : Nat) (v5 v6 v7 v8 : Option V), SLI K d z L Hs zs i as R H ∧ (2 ≤ m ∧ m ≤ zs.length ∧ m ≤ 5) ∧ σ = [some (.ref d), some (.ref z), some (.ref L), some (.int (i : Int)), some (.int (m : Nat)), v5, v6, v7, v8]
def Q2 (K : PySem.W.Frag) (d z : Addr) (Hs : Hp) (zs : List Str) (i : Nat) (σ : L2.St) (H : Hp) : Prop := ∃ (L : Addr) (as : List Addr) (R : List Ru) (m a b : Nat) (v7 v8 : Option V), SLI K d z L Hs zs i as R H ∧ (2 ≤ m ∧ m ≤ zs.length ∧ m ≤ 5) ∧ (a < m ∧ b < m) ∧ σ = [some (.ref d), some (.ref z), some (.ref L), some (.int (i : Int)), some (.int (m : Nat)), some (.int (a : Nat)), some (.int (b : Nat)), v7, v8]
def Q3 (K : PySem.W.Frag) (d z : Addr) (Hs : Hp) (zs : List Str) (i : Nat) (σ : L2.St) (H : Hp) : Prop := ∃ (L : Addr) (as : List Addr) (R : List Ru) (m a b : Nat) (sl : Addr) (ss : List Str) (v8 : Option V), SLI K d z L Hs zs i as R H ∧ (2 ≤ m ∧ m ≤ zs.length ∧ m ≤ 5) ∧ (a < m ∧ b < m) ∧ (sl ≠ d ∧ sl ≠ L ∧ H sl = some (.lst (ss.map V.str)) ∧ (∀ y ∈ ss, y ∈ SAYS) ∧ ss.length ≤ 1 ∧ Hs sl = none) ∧ σ = [some (.ref d), some (.ref z), some (.ref L), some (.int (i : Int)), some (.int (m : Nat)), some (.int (a : Nat)), some (.int (b : Nat)), some (.ref sl), v8]
def Q4 (K : PySem.W.Frag) (d z : Addr) (Hs : Hp) (zs : List Str) (i : Nat) (σ : L2.St) (H : Hp) : Prop := ∃ (L : Addr) (as : List Addr) (R : List Ru) (m a b : Nat) (sl : Addr) (ss : List Str) (nm : Str), SLI K d z L Hs zs i as R H ∧ (2 ≤ m ∧ m ≤ zs.length ∧ m ≤ 5) ∧ (a < m ∧ b < m) ∧ (sl ≠ d ∧ sl ≠ L ∧ H sl = some (.lst (ss.map V.str)) ∧ (∀ y ∈ ss, y ∈ SAYS) ∧ ss.length ≤ 1 ∧ Hs sl = none) ∧ nm ∈ NAMES ∧ σ = [some (.ref d), some (.ref z), some (.ref L), some (.int (i : Int)), some (.int (m : Nat)), some (.int (a : Nat)), some (.int (b : Nat)), some (.ref sl), some (.str nm)]
theorem sl_0 (T : SlT P w K mg base) (lz : 2 ≤ zs.length) : Ho (SlX P w K mg base f cdv A outer s H0 E0') (stAt slF 0) (Q0 K d z Hs zs i) (Q1 K d z Hs zs i) := by
  refine ⟨_, ps_set (i := 4) scSL.nd rfl (.inl rfl) (pe_callB (call_min2 rfl) (by rfl) T.min (by decide +kernel) (pa_cons pe_int (pa_cons (pe_callB call_len_seq (by rfl) T.len PySem.boot_len (pa_cons (pv 1) pa_nil)) pa_nil))), ?_⟩
  rintro D σ H ⟨L, as, R, v4, v5, v6, v7, v8, sl, rfl⟩ k
  refine ⟨_, rfl, z, _, rfl, .inl (sqL_of sl.hz), 5, _, rfl, ?_⟩
  rw [List.length_map]
  by_cases h : (zs.length : Int) < 5
  · rw [if_pos h]
    exact k _ _ ⟨L, as, R, zs.length, v5, v6, v7, v8, sl, ⟨lz, Nat.le_refl _, by omega⟩, rfl⟩
  · rw [if_neg h]
    exact k _ _ ⟨L, as, R, 5, v5, v6, v7, v8, sl, ⟨by decide, by omega, Nat.le_refl _⟩, rfl⟩
theorem sl_1 (T : SlT P w K mg base) (hr : Room 2 (SlX P w K mg base f cdv A outer s H0 E0').A) : Ho (SlX P w K mg base f cdv A outer s H0 E0') (stAt slF 1) (Q1 K d z Hs zs i) (Q2 K d z Hs zs i) := by
  refine ⟨_, ps_par (i := 5) (j := 6) rfl scSL.nd rfl rfl (by decide) rfl rfl (pa_cons (pe_d (E := E0) T.draw hr (by decide) rfl pass0 (pa_cons (pv 0) (pa_cons (pv 4) pa_nil))) (pa_cons (pe_d (E := E0) T.draw hr (by decide) rfl pass0 (pa_cons (pv 0) (pa_cons (pv 4) pa_nil))) pa_nil)) (by rfl), ?_⟩
  rintro D σ H ⟨L, as, R, m, v5, v6, v7, v8, sl, hm, rfl⟩ k
  obtain ⟨x, y, u, hd⟩ := sl.dr
  refine ⟨_, rfl, _, rfl, d, m, x, y, u, rfl, hd, by omega, by omega, fun a x1 y1 u1 a0 a1 => ?_⟩
  have sl1 := sl.but (H' := upd H d (dr x1 y1 u1)) But.upd ⟨x1, y1, u1, upd_same⟩
  refine ⟨_, rfl, _, rfl, d, m, x1, y1, u1, rfl, upd_same, by omega, by omega, fun b x2 y2 u2 b0 b1 => ?_⟩
  have sl2 := sl1.but (H' := upd (upd H d (dr x1 y1 u1)) d (dr x2 y2 u2)) But.upd ⟨x2, y2, u2, upd_same⟩
  have ea : ((a.toNat : Nat) : Int) = a := Int.toNat_of_nonneg a0
  have eb : ((b.toNat : Nat) : Int) = b := Int.toNat_of_nonneg b0
  refine ⟨_, _, rfl, k _ _ ⟨L, as, R, m, a.toNat, b.toNat, v7, v8, sl2, hm, ⟨by omega, by omega⟩, ?_⟩⟩
  rw [ea, eb]
  rfl
theorem sl_2 (T : SlT P w K mg base) (hr : Room 2 (SlX P w K mg base f cdv A outer s H0 E0').A) : Ho (SlX P w K mg base f cdv A outer s H0 E0') (stAt slF 2) (Q2 K d z Hs zs i) (Q2 K d z Hs zs i) := by
  refine ⟨_, ps_if (PW.pt (pw_and (pt_cmp (pc_gt (pv 5) (pv 6))) (pw_and1 (pt_cmp (pc_gt (pe_d (E := E0) T.draw hr (by decide) rfl pass0 (pa_cons (pv 0) (pa_cons pe_int pa_nil))) pe_int)))))
    (pss_one (ps_par (i := 5) (j := 6) rfl scSL.nd rfl rfl (by decide) rfl rfl (pa_cons (pv 6) (pa_cons (pv 5) pa_nil)) (by rfl))) pss_nil, ?_⟩
  rintro D σ H ⟨L, as, R, m, a, b, v7, v8, sl, hm, hab, rfl⟩ k
  obtain ⟨x, y, u, hd⟩ := sl.dr
  refine ⟨_, rfl, _, rfl, _, _, rfl, rfl, _, rfl, ?_⟩
  by_cases h : (b : Int) < a
  rotate_left
  · refine ifF (decide_eq_false h) ?_
    refine iteF ?_
    exact k _ _ ⟨L, as, R, m, a, b, v7, v8, sl, hm, hab, rfl⟩
  refine ifT (decide_eq_true h) ?_
  refine ⟨_, rfl, d, 4, x, y, u, rfl, hd, by decide, by decide, fun c x1 y1 u1 c0 c1 => ?_⟩
  have sl1 := sl.but (H' := upd H d (dr x1 y1 u1)) But.upd ⟨x1, y1, u1, upd_same⟩
  refine ⟨c, 0, rfl, rfl, _, rfl, ?_⟩
  by_cases hc : 0 < c
  · refine ifT (decide_eq_true hc) ?_
    exact ⟨_, rfl, _, rfl, _, _, rfl, k _ _ ⟨L, as, R, m, b, a, v7, v8, sl1, hm, ⟨hab.2, hab.1⟩, rfl⟩⟩
  · refine ifF (decide_eq_false hc) ?_
    exact k _ _ ⟨L, as, R, m, a, b, v7, v8, sl1, hm, hab, rfl⟩
theorem sl_3 (T : SlT P w K mg base) (hr : Room 2 (SlX P w K mg base f cdv A outer s H0 E0').A) : Ho (SlX P w K mg base f cdv A outer s H0 E0') (stAt slF 3) (Q2 K d z Hs zs i) (Q2 K d z Hs zs i) := by
  refine ⟨_, ps_if (PW.pt (pw_and (pt_cmpR op_eq (pv 5) (pv 6) (nomark _)) (pw_and1 (pt_cmp (pc_gt (pe_d (E := E0) T.draw hr (by decide) rfl pass0 (pa_cons (pv 0) (pa_cons pe_int pa_nil))) pe_int)))))
    (pss_one (ps_par (i := 5) (j := 6) rfl scSL.nd rfl rfl (by decide) rfl rfl (pa_cons pe_int (pa_cons (pe_op op_sub (pv 4) pe_int) pa_nil)) (by rfl))) pss_nil, ?_⟩
  rintro D σ H ⟨L, as, R, m, a, b, v7, v8, sl, hm, hab, rfl⟩ k
  obtain ⟨x, y, u, hd⟩ := sl.dr
  refine ⟨_, rfl, _, rfl, rfl, _, rfl, ?_⟩
  by_cases h : V.int a = V.int b
  rotate_left
  · refine ifF (decide_eq_false h) ?_
    refine iteF ?_
    exact k _ _ ⟨L, as, R, m, a, b, v7, v8, sl, hm, hab, rfl⟩
  refine ifT (decide_eq_true h) ?_
  refine ⟨_, rfl, d, 4, x, y, u, rfl, hd, by decide, by decide, fun c x1 y1 u1 c0 c1 => ?_⟩
  have sl1 := sl.but (H' := upd H d (dr x1 y1 u1)) But.upd ⟨x1, y1, u1, upd_same⟩
  refine ⟨c, 0, rfl, rfl, _, rfl, ?_⟩
  by_cases hc : 0 < c
  · refine ifT (decide_eq_true hc) ?_
    refine ⟨_, rfl, _, _, rfl, rfl, _, _, rfl, k _ _ ⟨L, as, R, m, 0, m - 1, v7, v8, sl1, hm, ⟨by omega, by omega⟩, ?_⟩⟩
    have e : (((m - 1 : Nat) : Nat) : Int) = (m : Int) - 1 := by omega
    rw [e]
    rfl
  · refine ifF (decide_eq_false hc) ?_
    exact k _ _ ⟨L, as, R, m, a, b, v7, v8, sl1, hm, hab, rfl⟩
theorem sl_4 (T : SlT P w K mg base) (hr : Room 2 (SlX P w K mg base f cdv A outer s H0 E0').A) : Ho (SlX P w K mg base f cdv A outer s H0 E0') (stAt slF 4) (Q2 K d z Hs zs i) (Q3 K d z Hs zs i) := by
  refine ⟨_, ps_set (i := 7) scSL.nd rfl (.inl rfl) (pe_ifExp (pt_cmpR op_eq (pe_d (E := E0) T.draw hr (by decide) rfl pass0 (pa_cons (pv 0) (pa_cons pe_int pa_nil))) pe_int (nomark _))
    (pe_lst (pa_cons (pe_d (E := E0) T.pick hr (by decide) rfl pass0 (pa_cons (pv 0) (pa_cons (pe_lst (pa_cons pe_str (pa_cons pe_str (pa_cons pe_str pa_nil)))) pa_nil))) pa_nil)) (pe_lst pa_nil)), ?_⟩
  rintro D σ H ⟨L, as, R, m, a, b, v7, v8, sl, hm, hab, rfl⟩ k
  obtain ⟨x, y, u, hd⟩ := sl.dr
  refine ⟨_, rfl, d, 6, x, y, u, rfl, hd, by decide, by decide, fun c x1 y1 u1 c0 c1 => ?_⟩
  have sl1 := sl.but (H' := upd H d (dr x1 y1 u1)) But.upd ⟨x1, y1, u1, upd_same⟩
  have hd1 : upd H d (dr x1 y1 u1) d = some (dr x1 y1 u1) := upd_same
  generalize upd H d (dr x1 y1 u1) = G at sl1 hd1 ⊢
  refine ⟨rfl, _, rfl, ?_⟩
  have fin : ∀ {G2 : Hp} {sx : Addr} {ss : List Str}, SLI K d z L Hs zs i as R G2 → G2 sx = none → (∀ y ∈ ss, y ∈ SAYS) → ss.length ≤ 1 → D.nx [some (.ref d), some (.ref z), some (.ref L), some (.int (i : Int)), some (.int (m : Nat)), some (.int (a : Nat)), some (.int (b : Nat)), some (.ref sx), v8] (upd G2 sx (.lst (ss.map V.str))) := fun {G2 sx ss} s2 nx hy hl => by
    have sm := same_new (o := .lst (ss.map V.str)) nx
    obtain ⟨x3, y3, u3, hd3⟩ := s2.dr
    refine k _ _ ⟨L, as, R, m, a, b, sx, ss, v8, s2.same sm, hm, hab, ⟨(ne_of_none hd3 nx).symm, (ne_of_none s2.hL nx).symm, upd_same, hy, hl, ?_⟩, rfl⟩
    cases e : Hs sx with
    | none => rfl
    | some o =>
      have q := s2.bt sx o e (ne_of_none hd3 nx).symm
      rw [nx] at q
      cases q
  by_cases e : V.int c = V.int 0
  · refine ifT (decide_eq_true e) ?_
    refine ⟨_, rfl, (by show 3 ≤ sizeLine; decide), fun l hl => ?_⟩
    have s2 := same_new (o := .lst (SAYS.map V.str)) hl
    have hd2 := s2 _ _ hd1
    refine ⟨d, l, x1, y1, u1, SAYS.map V.str, rfl, hd2, (fun q => by rw [q, hd1] at hl; cases hl), sqL_of upd_same, (by decide), (by decide), fun j v x2 y2 u2 hv => ?_⟩
    rw [List.getElem?_map] at hv
    obtain ⟨q, hq, rfl⟩ := Option.map_eq_some_iff.mp hv
    have sl2 := (sl1.same s2).but (H' := upd (upd G l (.lst (SAYS.map V.str))) d (dr x2 y2 u2)) But.upd ⟨x2, y2, u2, upd_same⟩
    refine ⟨(by show 1 ≤ sizeLine; decide), fun sx hsx => ?_⟩
    exact fin (ss := [q]) sl2 hsx (fun y hy => by rw [List.mem_singleton.mp hy]; exact List.mem_of_getElem? hq) (by show 1 ≤ 1; decide)
  · refine ifF (decide_eq_false e) ?_
    refine ⟨(by show 0 ≤ sizeLine; decide), fun sx hsx => ?_⟩
    exact fin (ss := []) sl1 hsx (fun y hy => by cases hy) (by decide)
theorem sl_5 (T : SlT P w K mg base) (hi : i < 9) (hr : Room 2 (SlX P w K mg base f cdv A outer s H0 E0').A) : Ho (SlX P w K mg base f cdv A outer s H0 E0') (stAt slF 5) (Q3 K d z Hs zs i) (Q4 K d z Hs zs i) := by
  refine ⟨_, ps_set (i := 8) scSL.nd rfl (.inl rfl) (pe_ifExp (pt_cmp (pc_gt (pe_d (E := E0) T.draw hr (by decide) rfl pass0 (pa_cons (pv 0) (pa_cons pe_int pa_nil))) pe_int))
    (pe_op op_add_str pe_str (pe_ix ix_str pe_str (pv 3) (fun _ _ => rfl))) pe_str), ?_⟩
  rintro D σ H ⟨L, as, R, m, a, b, sx, ss, v8, sl, hm, hab, ⟨n1, n2, hs, hy, hl, n3⟩, rfl⟩ k
  obtain ⟨x, y, u, hd⟩ := sl.dr
  refine ⟨_, rfl, d, 20, x, y, u, rfl, hd, by decide, by decide, fun c x1 y1 u1 c0 c1 => ?_⟩
  have bt : But d H (upd H d (dr x1 y1 u1)) := But.upd
  have sl1 := sl.but bt ⟨x1, y1, u1, upd_same⟩
  have hs1 := bt _ _ hs n1
  refine ⟨c, 0, rfl, rfl, _, rfl, ?_⟩
  by_cases hc : 0 < c
  · refine ifT (decide_eq_true hc) ?_
    have q := nm_ok i hi
    cases e : ("abcdefghi" : Str).cps.toList[i]? with
    | none => rw [e] at q; cases q
    | some ch =>
      rw [e] at q
      have q2 : ("r" : Str) ++ (⟨#[ch]⟩ : Str) ∈ NAMES := of_decide_eq_true q
      refine ⟨_, rfl, "abcdefghi", i, ch, rfl, rfl, (by show 9 ≤ sizeLine; decide), atI_nat e, "r", _, rfl, rfl, (by show 1 + 1 ≤ sizeLine; decide), ?_⟩
      exact k _ _ ⟨L, as, R, m, a, b, sx, ss, _, sl1, hm, hab, ⟨n1, n2, hs1, hy, hl, n3⟩, q2, rfl⟩
  · refine ifF (decide_eq_false hc) ?_
    exact k _ _ ⟨L, as, R, m, a, b, sx, ss, "ra", sl1, hm, hab, ⟨n1, n2, hs1, hy, hl, n3⟩, by decide, rfl⟩
end
end Mv
namespace Mv
open PySem PySem.Spec PyProof.Rows L2
section
variable {P : Program} {w : World} {K : PySem.W.Frag} {mg : Str → Option Value} {base : Heap} {d z : Addr} {Hs : Hp} {zs : List Str} {i : Nat}
variable {f : Addr} {cdv : Value} {A : Around} {outer : List Env} {s : Shared} {H0 : Hp} {E0' : XK}
theorem sl_6 (T : SlT P w K mg base) (hi : i < 9) (hr : Room 2 (SlX P w K mg base f cdv A outer s H0 E0').A) : Ho (SlX P w K mg base f cdv A outer s H0 E0') (stAt slF 6) (Q4 K d z Hs zs i) (fun σ H => ∃ L as R v3 v4 v5 v6 v7 v8, SLI K d z L Hs zs (i + 1) as R H ∧ σ = [some (.ref d), some (.ref z), some (.ref L), v3, v4, v5, v6, v7, v8]) := by
  refine ⟨_, ps_expr (pe_bm PySem.F.plainAttrs_list PySem.F.slot_list_append PySem.F.type_list_append mt_append (pv 2) (pa_cons (pe_tup (pa_cons (pv 8) (pa_cons (pe_ix ix_list (pv 1) (pv 5) (fun _ _ => rfl))
    (pa_cons (pe_ifExp (pt_cmp (pc_gt (pe_d (E := E0) T.draw hr (by decide) rfl pass0 (pa_cons (pv 0) (pa_cons pe_int pa_nil))) pe_int)) (pe_ix ix_list (pv 1) (pv 6) (fun _ _ => rfl)) pe_str) (pa_cons (pv 7) pa_nil))))) pa_nil)), ?_⟩
  rintro D σ H ⟨L, as, R, m, a, b, sx, ss, nm, sl, hm, hab, ⟨n1, n2, hs, hy, hl, n3⟩, hn, rfl⟩ k
  obtain ⟨x, y, u, hd⟩ := sl.dr
  have ha : a < zs.length := by omega
  have hb : b < zs.length := by omega
  have ea : (zs.map V.str)[a]? = some (.str zs[a]) := by rw [List.getElem?_map, List.getElem?_eq_getElem ha]; rfl
  have eb : (zs.map V.str)[b]? = some (.str zs[b]) := by rw [List.getElem?_map, List.getElem?_eq_getElem hb]; rfl
  refine ⟨_, rfl, .inl ⟨rfl, _, sqL_of sl.hL⟩, ?_⟩
  refine ⟨_, rfl, _, rfl, _, rfl, z, _, a, _, rfl, rfl, sqL_of sl.hz, atI_nat ea, ?_⟩
  refine ⟨_, rfl, d, 25, x, y, u, rfl, hd, by decide, by decide, fun c x1 y1 u1 c0 c1 => ?_⟩
  have bt : But d H (upd H d (dr x1 y1 u1)) := But.upd
  have sl1 := sl.but bt ⟨x1, y1, u1, upd_same⟩
  have hs1 := bt _ _ hs n1
  have la := paired_n sl.far.now
  refine ⟨c, 0, rfl, rfl, _, rfl, ?_⟩
  generalize upd H d (dr x1 y1 u1) = G at sl1 hs1 ⊢
  have fin : ∀ e : Str, (e ∈ zs ∨ e = "strange") → ∀ p, G p = none → D.nx [some (.ref d), some (.ref z), some (.ref L), some (.int (i : Int)), some (.int (m : Nat)), some (.int (a : Nat)), some (.int (b : Nat)), some (.ref sx), some (.str nm)] (upd (upd G p (.tup [.str nm, .str zs[a], .str e, .ref sx])) L (.lst (as.map V.ref ++ [.ref p]))) := fun e he p hp => by
    obtain ⟨x3, y3, u3, hd3⟩ := sl1.dr
    have npL : p ≠ L := fun q => by rw [q, sl1.hL] at hp; cases hp
    have npd : p ≠ d := fun q => by rw [q, hd3] at hp; cases hp
    have npx : sx ≠ p := ne_of_none hs1 hp
    refine k _ _ ⟨L, as ++ [p], R ++ [⟨nm, zs[a], e, ss⟩], _, _, _, _, _, _, ⟨fun c o ec nc => ?_, ⟨x3, y3, u3, ?_⟩, sl1.nL, ?_, sl1.ne, ?_, fun H2 g => ?_, ?_, fun r hr => ?_⟩, rfl⟩
    · rw [upd_ne (ne_of_none ec sl1.nL)]
      exact same_new hp _ _ (sl1.bt c o ec nc)
    · rw [upd_ne (Ne.symm sl1.ne.1)]
      exact same_new hp _ _ hd3
    · rw [upd_same, List.map_append]
      rfl
    · rw [upd_ne sl1.ne.2.2]
      exact same_new hp _ _ sl1.hz
    · have f1 : Fr2 d L G (upd (upd G p (.tup [.str nm, .str zs[a], .str e, .ref sx])) L (.lst (as.map V.ref ++ [.ref p]))) := (Fr2.of (Fr.same (same_new hp))).trans Fr2.upd
      refine pairedApp (sl1.far H2 (f1.trans g)) (.cons ⟨sx, g _ _ (by rw [upd_ne npL]; exact upd_same) npd npL (fun ps z => by cases z), g _ _ (by rw [upd_ne n2, upd_ne npx]; exact hs1) n1 n2 fun ps z => by cases z⟩ .nil)
    · rw [List.length_append, sl1.l]
      rfl
    · rcases List.mem_append.mp hr with h | h
      · exact sl1.ok r h
      · rw [List.mem_singleton.mp h]
        exact ⟨hn, List.getElem_mem ha, he, hy, hl⟩
  have lL : (as.map V.ref).length < sizeLine := by
    rw [List.length_map, la, sl.l]
    exact small1000 (by omega)
  by_cases hc : 0 < c
  · refine ifT (decide_eq_true hc) ?_
    refine ⟨_, rfl, _, rfl, z, _, b, _, rfl, rfl, sqL_of sl1.hz, atI_nat eb, ?_⟩
    refine ⟨_, rfl, (by show 4 ≤ sizeLine; decide), fun p hp => ?_⟩
    have npL : L ≠ p := ne_of_none sl1.hL hp
    exact ⟨L, _, .ref p, rfl, rfl, by rw [upd_ne npL]; exact sl1.hL, lL, fin _ (.inl (List.getElem_mem hb)) p hp⟩
  · refine ifF (decide_eq_false hc) ?_
    refine ⟨_, rfl, (by show 4 ≤ sizeLine; decide), fun p hp => ?_⟩
    have npL : L ≠ p := ne_of_none sl1.hL hp
    exact ⟨L, _, .ref p, rfl, rfl, by rw [upd_ne npL]; exact sl1.hL, lL, fin _ (.inr rfl) p hp⟩
theorem slF_eq : slF = [stAt slF 0, stAt slF 1, stAt slF 2, stAt slF 3, stAt slF 4, stAt slF 5, stAt slF 6] := rfl
theorem slB_eq : slB = [stAt slB 0, stAt slB 1, stAt slB 2] := rfl
def spLines (K : PySem.W.Frag) : Sp := fun vs H Q _ => ∃ (d z : Addr) (zs : List Str) (x y u : Int), vs = [.ref d, .ref z] ∧ H d = some (dr x y u) ∧ z ≠ d ∧ H z = some (.lst (zs.map V.str)) ∧ 2 ≤ zs.length ∧ zs.length ≤ 900 ∧
  ∀ L H' as R i, SLI K d z L H zs i as R H' → i ≤ 9 → Q (.ref L) H'
theorem ok_lines {f : Addr} {fd : FuncData} (F : Fun K "_law_some_lines" "_law_some_lines" sLines f fd) (T : SlT P w K mg base) : FnOk P w K mg base CX0 3 f fd ["_law_draws", "_law_spots"] (spLines K) := by
  refine F.ok scSL (fun vs H Q E h => ?_) (fun cdv A outer s H vs Q E hr h => ?_)
  · obtain ⟨d, z, zs, x, y, u, rfl, _⟩ := h
    rfl
  · obtain ⟨d, z, zs, x, y, u, rfl, hd, nz, hz, l2, l9, k⟩ := h
    have body : ∀ i, i < 9 → Hos (SlX P w K mg base f cdv A outer s H E) slF (Q0 K d z H zs i) (fun σ H' => ∃ L as R v3 v4 v5 v6 v7 v8, SLI K d z L H zs (i + 1) as R H' ∧ σ = [some (.ref d), some (.ref z), some (.ref L), v3, v4, v5, v6, v7, v8]) := fun i hi => by
      rw [slF_eq]
      exact (sl_0 T l2).cons ((sl_1 T hr).cons ((sl_2 T hr).cons ((sl_3 T hr).cons ((sl_4 T hr).cons ((sl_5 T hi hr).cons ((sl_6 T hi hr).cons Hos.nil))))))
    have hb : PSs (SlX P w K mg base f cdv A outer s H E) slF _ := pss_all (N := 9) (pre := fun i => Q0 K d z H zs i) (post := fun i σ H' => ∃ L as R v3 v4 v5 v6 v7 v8, SLI K d z L H zs (i + 1) as R H' ∧ σ = [some (.ref d), some (.ref z), some (.ref L), v3, v4, v5, v6, v7, v8]) body
    refine ⟨_, (by rw [show defBody sLines = slB from rfl, slB_eq]; exact (pss_cons (ps_set (i := 2) scSL.nd rfl (.inl rfl) (pe_lst pa_nil)) (pss_cons (ps_for PassesOwn.never rfl (pi_range1 (by rfl) T.range (pa_cons (pe_d (E := E0) T.pick hr (by decide) rfl pass0 (pa_cons (pv 0) (pa_cons (pe_lst (pa_cons pe_int (pa_cons pe_int (pa_cons pe_int (pa_cons pe_int (pa_cons pe_int (pa_cons pe_int (pa_cons pe_int pa_nil)))))))) pa_nil))) pa_nil)) (pg_name (i := 3) scSL.nd rfl (.inl rfl)) hb) (pss_one (ps_ret (pv 2)))))), ?_⟩
    refine ⟨(by show 0 ≤ sizeLine; decide), fun L hL => ?_⟩
    have s1 := same_new (o := .lst []) hL
    have nLd : L ≠ d := (ne_of_none hd hL).symm
    have nzL : z ≠ L := ne_of_none hz hL
    have sl : SLI K d z L H zs 0 [] [] (upd H L (.lst [])) := ⟨But.of s1, ⟨x, y, u, s1 _ _ hd⟩, hL, upd_same, ⟨nLd, nz, nzL⟩, s1 _ _ hz, fun _ _ => .nil, rfl, fun r h => by cases h⟩
    generalize upd H L (.lst []) = G at sl ⊢
    obtain ⟨x1, y1, u1, hd1⟩ := sl.dr
    refine ⟨_, rfl, (by show 7 ≤ sizeLine; decide), fun l hl => ?_⟩
    have s2 := same_new (o := .lst [.int 0, .int 1, .int 3, .int 5, .int 8, .int 8, .int 9]) hl
    refine ⟨d, l, x1, y1, u1, [.int 0, .int 1, .int 3, .int 5, .int 8, .int 8, .int 9], rfl, s2 _ _ hd1, (fun q => by rw [q, hd1] at hl; cases hl), sqL_of upd_same, (by show 0 < 7; decide), (by show 7 < 1000; decide), fun j v x2 y2 u2 hv => ?_⟩
    have hv2 : ∃ n : Int, v = .int n ∧ 0 ≤ n ∧ n ≤ 9 := by
      match j, hv with
      | 0, hv => cases hv; exact ⟨0, rfl, by decide, by decide⟩
      | 1, hv => cases hv; exact ⟨1, rfl, by decide, by decide⟩
      | 2, hv => cases hv; exact ⟨3, rfl, by decide, by decide⟩
      | 3, hv => cases hv; exact ⟨5, rfl, by decide, by decide⟩
      | 4, hv => cases hv; exact ⟨8, rfl, by decide, by decide⟩
      | 5, hv => cases hv; exact ⟨8, rfl, by decide, by decide⟩
      | 6, hv => cases hv; exact ⟨9, rfl, by decide, by decide⟩
    obtain ⟨n, rfl, n0, n9⟩ := hv2
    have sl2 := (sl.same s2).but (H' := upd (upd G l (.lst [.int 0, .int 1, .int 3, .int 5, .int 8, .int 8, .int 9])) d (dr x2 y2 u2)) But.upd ⟨x2, y2, u2, upd_same⟩
    refine ⟨n, rfl, by omega, by omega, ?_⟩
    refine for_it walk_range (fun i σ' H' => ∃ L as R v3 v4 v5 v6 v7 v8, SLI K d z L H zs i as R H' ∧ σ' = [some (.ref d), some (.ref z), some (.ref L), v3, v4, v5, v6, v7, v8]) ⟨L, [], [], _, _, _, _, _, _, sl2, rfl⟩ (fun _ _ _ _ _ => True.intro) ?_ (fun σ' H' h => ?_)
    · rintro i v σ' H' _ hi ⟨L, as, R, v3, v4, v5, v6, v7, v8, sl, rfl⟩ ⟨rfl, rfl⟩
      refine ⟨i, by omega, ⟨L, as, R, v4, v5, v6, v7, v8, sl, ?_⟩, fun σ2 H2 h => h⟩
      show List.set [some (.ref d), some (.ref z), some (.ref L), v3, v4, v5, v6, v7, v8] 3 (some (V.int (0 + (i : Int)))) = _
      rw [Int.zero_add]
      rfl
    · obtain ⟨L, as, R, v3, v4, v5, v6, v7, v8, sl, rfl⟩ := h
      exact ⟨_, rfl, k L H' as R _ sl (by omega)⟩
end
end Mv
/-! the law's first bad rule and the program's -/
namespace Mv
open PySem PySem.Spec PyProof.Rows L2 Rq
theorem rus_some (R : List Ru) : rusOf (R.map some) = R := by
  unfold rusOf
  induction R with
  | nil => rfl
  | cons r R ih => rw [List.map_cons, List.filterMap_cons]; simp only [id]; rw [ih]
theorem link1 {zs : List Str} {S : List Ru} {r : Ru} (nd : zs.Nodup) (lz : zs.length ≤ 11) (n : ¬ Cyc S) (hs : ∀ q ∈ S, q.s ∈ zs ∧ q.e ∈ zs) :
    (!mayS zs S r) = (decide (r.n ∈ S.map Ru.n) || (!decide (r.s ∈ zs) || (!decide (r.e ∈ zs) || zs.any fun sp => lots 10 (S ++ [r]) sp [sp] []))) := by
  unfold mayS
  by_cases e1 : r.n ∈ S.map Ru.n
  · rw [decide_eq_true e1]; rfl
  by_cases e2 : r.s ∈ zs
  rotate_left
  · rw [decide_eq_false e1, decide_eq_false e2]; rfl
  by_cases e3 : r.e ∈ zs
  rotate_left
  · rw [decide_eq_false e1, decide_eq_true e2, decide_eq_false e3]; rfl
  have h1 : ∀ q ∈ S ++ [r], q.s ∈ zs ∧ q.e ∈ zs := fun q hq => by
    rcases List.mem_append.mp hq with h | h
    · exact hs q h
    · rw [List.mem_singleton.mp h]; exact ⟨e2, e3⟩
  rw [lots_iff n (fun q hq => (h1 q hq).1) (fun q hq => (h1 q hq).2) nd (show zs.length ≤ 1 + 10 by omega), decide_eq_false e1, decide_eq_true e2, decide_eq_true e3]
  cases decide (r.s ∈ behind (S ++ [r]) r.e) <;> cases saysTwice (S ++ [r]) <;> rfl
theorem due_some {zs : List Str} {R : List Ru} {i : Nat} {r : Ru} (hr : R[i]? = some r) : dueB zs R i = (decide (r.n ∈ (R.take i).map Ru.n) || (!decide (r.s ∈ zs) || (!decide (r.e ∈ zs) || zs.any fun sp => lots 10 (R.take (i + 1)) sp [sp] []))) := by
  unfold dueB
  rw [hr]
theorem link_at {zs : List Str} {R : List Ru} (nd : zs.Nodup) (lz : zs.length ≤ 11) : ∀ i, i ≤ R.length → (∀ j, j < i → dueB zs R j = false) → ¬ Cyc (R.take i) ∧ ∀ r, R[i]? = some r → dueB zs R i = !mayS zs (R.take i) r
  | 0, _, good => by
    have n : ¬ Cyc (R.take 0) := cyc_nil
    refine ⟨n, fun r hr => ?_⟩
    rw [link1 nd lz n (fun q hq => by cases hq), due_some hr, take_next hr]
  | i + 1, hi, good => by
    have good' : ∀ j, j < i → dueB zs R j = false := fun j hj => good j (by omega)
    obtain ⟨n, l⟩ := link_at nd lz i (by omega) good'
    have hr0 : R[i]? = some R[i] := List.getElem?_eq_getElem (by omega)
    have m : mayS zs (R.take i) R[i] = true := by
      have h := l _ hr0
      rw [good i (by omega)] at h
      cases e : mayS zs (R.take i) R[i] with
      | true => rfl
      | false => rw [e] at h; cases h
    have n2 : ¬ Cyc (R.take (i + 1)) := by rw [take_next hr0]; exact may_nocyc n m
    refine ⟨n2, fun r hr => ?_⟩
    rw [link1 nd lz n2 (fun q hq => ⟨(due_ends good q hq).1, (due_ends good q hq).2.1⟩), due_some hr, take_next hr]
/-- rules as the lines tell, then other things -/
theorem bad_link {zs : List Str} {R : List Ru} {os : List (Option Ru)} (nd : zs.Nodup) (lz : zs.length ≤ 11) {i : Nat} (hi : i < R.length) (h8 : i < 8) (ho : os.take (i + 1) = (R.map some).take (i + 1)) (good : ∀ j, j < i → dueB zs R j = false) : badR zs os i = dueB zs R i := by
  have hr0 : R[i]? = some R[i] := List.getElem?_eq_getElem hi
  have e1 : os[i]? = some (some R[i]) := by
    have h := congrArg (fun l => l[i]?) ho
    simp only [List.getElem?_take_of_lt (show i < i + 1 by omega), List.getElem?_map, hr0] at h
    exact h
  have e2 : os.take i = (R.take i).map some := by
    have h := congrArg (fun l => l.take i) ho
    simp only [List.take_take, Nat.min_eq_left (show i ≤ i + 1 by omega)] at h
    rw [h, List.map_take]
  rw [(link_at nd lz i (by omega) good).2 _ hr0]
  unfold badR
  rw [e1, e2, rus_some, decide_eq_false (by omega)]
  rfl
/-- which index is the first bad one -/
def FirstBad (zs : List Str) (os : List (Option Ru)) : Option Nat → Prop
  | none => ∀ j, j < os.length → badR zs os j = false
  | some i => i < os.length ∧ badR zs os i = true ∧ ∀ j, j < i → badR zs os j = false
/-- the first of the lines that is due -/
def FirstDue (zs : List Str) (R : List Ru) : Option Nat → Prop
  | none => ∀ j, j < R.length → dueB zs R j = false
  | some i => i < R.length ∧ dueB zs R i = true ∧ ∀ j, j < i → dueB zs R j = false
theorem first_all {zs : List Str} {R : List Ru} (nd : zs.Nodup) (lz : zs.length ≤ 11) (l9 : R.length ≤ 9) : ∀ {o : Option Nat}, FirstDue zs R o → ∃ p : Option Nat, FirstBad zs (R.map some) p ∧ p = match o with
    | some i => some i
    | none => if R.length > 8 then some 8 else none := by
  have bl : ∀ i, i < R.length → i < 8 → (∀ j, j < i → dueB zs R j = false) → badR zs (R.map some) i = dueB zs R i := fun i h1 h2 h3 => bad_link nd lz h1 h2 rfl h3
  have b8 : badR zs (R.map some) 8 = true := by
    unfold badR
    rw [decide_eq_true (by omega)]
    rfl
  rintro (_ | i) h
  · by_cases h8 : R.length > 8
    · refine ⟨some 8, ⟨by rw [List.length_map]; exact h8, b8, fun j hj => ?_⟩, by rw [if_pos h8]⟩
      rw [bl j (by omega) hj fun k hk => h k (by omega)]
      exact h j (by omega)
    · refine ⟨none, fun j hj => ?_, by rw [if_neg h8]⟩
      rw [List.length_map] at hj
      rw [bl j hj (by omega) fun k hk => h k (by omega)]
      exact h j hj
  · obtain ⟨h1, h2, h3⟩ := h
    by_cases h8 : i < 8
    · refine ⟨some i, ⟨by rw [List.length_map]; exact h1, by rw [bl i h1 h8 h3]; exact h2, fun j hj => ?_⟩, rfl⟩
      rw [bl j (by omega) (by omega) fun k hk => h3 k (by omega)]
      exact h3 j hj
    · have e : i = 8 := by omega
      subst e
      refine ⟨some 8, ⟨by rw [List.length_map]; exact h1, b8, fun j hj => ?_⟩, rfl⟩
      rw [bl j (by omega) hj fun k hk => h3 k (by omega)]
      exact h3 j hj
theorem first_cut {zs : List Str} {R : List Ru} {s : Nat} {os : List (Option Ru)} (nd : zs.Nodup) (lz : zs.length ≤ 11) (hs : s ≤ R.length) (h8 : s ≤ 8) (ho : os.take s = (R.map some).take s) (hn : os[s]? = some none) : ∀ {o : Option Nat}, FirstDue zs (R.take s) o → FirstBad zs os (some (match o with
    | some i => i
    | none => s)) := by
  have hl : s < os.length := (List.getElem?_eq_some_iff.mp hn).1
  have bl : ∀ i, i < s → (∀ j, j < i → dueB zs (R.take s) j = false) → badR zs os i = dueB zs (R.take s) i := fun i h1 h3 => by
    refine bad_link nd lz (by rw [List.length_take]; omega) (by omega) ?_ h3
    have h := congrArg (fun l => l.take (i + 1)) ho
    simp only [List.take_take, Nat.min_eq_left (show i + 1 ≤ s by omega)] at h
    rw [h, List.map_take, List.take_take, Nat.min_eq_left (show i + 1 ≤ s by omega)]
  have hb : badR zs os s = true := by
    unfold badR
    rw [hn]
    cases decide (8 ≤ s) <;> rfl
  rintro (_ | i) h
  · have h : ∀ j, j < s → dueB zs (R.take s) j = false := fun j hj => h j (by rw [List.length_take]; omega)
    refine ⟨hl, hb, fun j hj => ?_⟩
    have hj : j < s := hj
    rw [bl j hj fun k hk => h k (by omega)]
    exact h j hj
  · obtain ⟨h1, h2, h3⟩ := h
    rw [List.length_take] at h1
    have h1 : i < s := by omega
    refine ⟨by show i < os.length; omega, ?_, fun j hj => ?_⟩
    · show badR zs os i = true
      rw [bl i h1 h3]
      exact h2
    · have hj : j < i := hj
      rw [bl j (by omega) fun k hk => h3 k (by omega)]
      exact h3 j hj
end Mv
/-! vows not in ([], ()) -/
namespace Mv
open PySem PySem.Spec PyProof.Rows L2
def rVow (K : PySem.W.Frag) : R2 := fun x y H Q => ∃ t l1 t1, y = .ref t ∧ SqT K H t [.ref l1, .ref t1] ∧ SqL K H l1 [] ∧ SqT K H t1 [] ∧
  ((x = .non ∧ Q (.bl true) H) ∨ (∃ a xs, x = .ref a ∧ a ≠ l1 ∧ SqL K H a xs ∧ Q (.bl (!xs.isEmpty)) H) ∨ (∃ a, x = .ref a ∧ SqT K H a [] ∧ Q (.bl false) H))
theorem op_vow {X : Cx} (hu : X.A.units + 65 < cLine) : OpR X (compareOp .NotIn) (rVow X.K) := by
  intro pins s σ H x y v u Q I rx ry h
  obtain ⟨t, l1, t1, rfl, ht, hl1, ht1, h⟩ := h
  cases ry
  obtain ⟨its, rv, pt, hz⟩ := I.tuple ht
  obtain rfl : its = [Value.ref l1, Value.ref t1] := vals_refs (xs := [l1, t1]) rv
  obtain ⟨i1, r1, p1, _⟩ := I.list hl1
  obtain ⟨i2, r2, p2, _⟩ := I.tuple ht1
  cases r1
  cases r2
  have hu1 : X.A.in1.units < cLine := by
    have e : X.A.in1.units ≤ X.A.units + 1 := Nat.le_refl _
    omega
  rcases h with ⟨rfl, q⟩ | ⟨a, xs, rfl, ne, hx, q⟩ | ⟨a, rfl, hx, q⟩
  · cases rx
    refine SeqAt.notIn_tupleAt (fun _ => false) pt (fun w hw => ?_) ⟨.bl true, H, I, (by show Value.bool _ = Value.bool _; congr 1; simp), q⟩
    have hw : w ∈ [Value.ref l1, Value.ref t1] := by simpa using hw
    rcases List.mem_cons.mp hw with rfl | hw
    · exact SeqAt.EqAt.list_none p1.isList hu1
    · rw [List.mem_singleton.mp hw]
      exact SeqAt.EqAt.tuple_none p2 hu1
  · cases rx
    obtain ⟨ix, rx2, px, _⟩ := I.list hx
    have lx := rx2.length
    cases xs with
    | nil =>
      cases rx2
      refine SeqAt.notIn_tupleAt (fun w => w == Value.ref l1) pt (fun w hw => ?_) ⟨.bl false, H, I, ?_, q⟩
      · have hw : w ∈ [Value.ref l1, Value.ref t1] := by simpa using hw
        rcases List.mem_cons.mp hw with rfl | hw
        · rw [beq_self_eq_true]
          exact SeqAt.EqAt.of_refs (Ne.symm ne) (SeqAt.RcAt.lists (e := fun _ => true) p1.isList px.isList rfl hu1 fun j h1 h2 => absurd h1 (Nat.not_lt_zero j))
        · rw [List.mem_singleton.mp hw]
          have e : (Value.ref t1 == Value.ref l1) = false := by
            cases e : (Value.ref t1 == Value.ref l1) with
            | false => rfl
            | true =>
              have e2 := eq_of_beq e
              injection e2 with e3
              exact absurd e3 (SeqAt.ne_of_list_tuple p1.isList p2).symm
          rw [e]
          exact SeqAt.EqAt.tuple_list p2 px.isList hu1
      · show Value.bool _ = Value.bool _
        congr 1
        simp
    | cons x xs =>
      refine SeqAt.notIn_tupleAt (fun _ => false) pt (fun w hw => ?_) ⟨.bl true, H, I, (by show Value.bool _ = Value.bool _; congr 1; simp), q⟩
      have hw : w ∈ [Value.ref l1, Value.ref t1] := by simpa using hw
      rcases List.mem_cons.mp hw with rfl | hw
      · refine SeqAt.EqAt.of_refs (Ne.symm ne) (SeqAt.RcAt.lists_lengths p1.isList px.isList ?_ hu1)
        have : ix.length = xs.length + 1 := by rw [← lx]; rfl
        simp [this]
      · rw [List.mem_singleton.mp hw]
        exact SeqAt.EqAt.tuple_list p2 px.isList hu1
  · cases rx
    obtain ⟨ix, rx2, px, _⟩ := I.tuple hx
    cases rx2
    refine SeqAt.notIn_tupleAt (fun w => w == Value.ref t1) pt (fun w hw => ?_) ⟨.bl false, H, I, ?_, q⟩
    · have hw : w ∈ [Value.ref l1, Value.ref t1] := by simpa using hw
      rcases List.mem_cons.mp hw with rfl | hw
      · have e : (Value.ref l1 == Value.ref t1) = false := by
          cases e : (Value.ref l1 == Value.ref t1) with
          | false => rfl
          | true =>
            have e2 := eq_of_beq e
            injection e2 with e3
            exact absurd e3 (SeqAt.ne_of_list_tuple p1.isList p2)
        rw [e]
        exact SeqAt.EqAt.list_tuple p1.isList px hu1
      · rw [List.mem_singleton.mp hw, beq_self_eq_true]
        by_cases e : t1 = a
        · rw [e]
          exact SeqAt.EqAt.same _
        · exact SeqAt.EqAt.of_refs e (SeqAt.RcAt.tuples (e := fun _ => true) p2 px hu1 fun j h1 h2 => absurd h1 (Nat.not_lt_zero j))
    · show Value.bool _ = Value.bool _
      congr 1
      simp
end Mv
/-! the law: what it asks of the module, what is known on its way -/
namespace Mv
open PySem PySem.Spec PyProof.Rows L2 LamX
abbrev sFar : Stmt := top 61
abbrev sLaw : Stmt := top 62
abbrev lawB : List Stmt := defBody sLaw
abbrev bodyF (st : Stmt) : List Stmt := match st with
  | .For _ _ b _ _ => b
  | .If _ b _ _ => b
  | _ => []
abbrev oB : List Stmt := bodyF (stAt lawB 0)
abbrev nLaw : List Str := ["_law_script", "_law_turn", "_law_draws", "_law_spots", "_law_lines", "_law_rows", "_law_due", "_law_first_bad", "_law_begins", "_law_vows", "_law_kind_word", "_law_spot", "_law_handed", "_law_line"]
theorem scLa : FnScope nLaw ["_law_script"] (defScope sLaw) := ⟨rfl, rfl, rfl, by decide +kernel, rfl, by decide +kernel, by decide +kernel⟩
theorem oB_len : oB.length = 19 := by decide +kernel
abbrev LX (P : Program) (w : World) (K : PySem.W.Frag) (mg : Str → Option Value) (base : Heap) (f c : Addr) (A : Around) (outer : List Env) (s : Shared) (H : Hp) (E : XK) : Cx := (cxOf C8.CX0 P w K mg base nLaw "law" (defScope sLaw) f (.ref c) A outer s H E).nox
abbrev qLam : Str := "law.<locals>.<lambda>"
abbrev qLam2 : Str := "_law_far_twice.<locals>.<lambda>"
abbrev TT2 (P1 P2 : Addr) : List (Addr × Str) := [(P1, qLam), (P2, qLam2)]
abbrev pRI : List Str := ["self", "name", "start", "end", "when", "says"]
abbrev pSI : List Str := ["self", "places", "begins", "rules", "promise", "faults"]
/-- what the law asks of the module -/
structure LF (P : Program) (w : World) (K : PySem.W.Frag) (mg : Str → Option Value) (base : Heap) (C CF CC CN CB CR CS CW CK CP CG CU CQ CL fI fS g fE fN fH : Addr) (fdI fdS fdg : FuncData) : Prop where
  min : mg "min" = none
  range : mg "range" = none
  len : mg "len" = none
  all : mg "all" = none
  isi : mg "isinstance" = none
  list : mg "list" = none
  tuple : mg "tuple" = none
  src : Dn P w K mg base C8.CX0 1 "_law_source" ["_law_script", "_law_place"] (spSource K)
  draw : Dn P w K mg base C8.CX0 1 "_law_draw" ["_law_draws", "_law_many"] spDraw
  pick : Dn P w K mg base C8.CX0 2 "_law_pick" ["_law_draws", "_law_xs"] (spPick K)
  words : Dn P w K mg base C8.CX0 2 "_law_words" ["_law_draws", "_law_many"] (spLWords K)
  lines : Dn P w K mg base C8.CX0 3 "_law_some_lines" ["_law_draws", "_law_spots"] (spLines K)
  due : Dn P w K mg base C8.CX0 12 "_law_rule_due" ["_law_spots", "_law_lines"] (spRDue K)
  are : Dn P w K mg base C8.CX0 1 "_law_are_words" ["_law_thing", "_law_most"] (spLAre K)
  same : Dn P w K mg base C8.CX0 7 "_law_same" ["_law_found", "_law_due"] (spSame K 6)
  tr : Fun K "_law_tried" "_law_tried" sTried g fdg
  trg : mg "_law_tried" = some (.ref g)
  trb : Binds K fdg ["_law_work"] []
  ep : Err P w K mg base "BadPlaces" CP "words"
  eb : Err P w K mg base "BadBegins" CG "words"
  eu : Err P w K mg base "BadRule" CU "index"
  eq : Err P w K mg base "BadPromise" CQ "index"
  ef : Err P w K mg base "BadFaults" CL "word"
  tf : TrF K CP CG CU CQ CL
  atl : Dn P w K mg base (L2.CX P w) 7 "at_least" ["one", "other"] (spCmp2 K C CF CC CN CB 0)
  att : Dn P w K mg base (L2.CX P w) 5 "at" ["place"] (spTerm K C CW "at")
  mem : Dn P w K mg base CX0 4 "members" [] (spConst K C "n")
  bnd : Dn P w K mg base CX0 4 "bound" [] (spConst K C "t")
  ct : CT K mg CC
  mkr : Mk K CR fI
  gi : FnOk P w K mg base (L2.CX P w) 4 fI fdI pRI (spRInit K CR CC CW CK)
  gR : mg "Rule" = some (.ref CR)
  bi : ∃ (T2 : Addr) (ds : List Value), Vals [V.ref T2] ds ∧ Binds K fdI pRI ds ∧ ∀ H, SqT K H T2 []
  bi0 : Binds K fdI pRI []
  bi2 : ∃ (T1 T2 : Addr) (ds : List Value), Vals [V.ref T1, V.ref T2] ds ∧ Binds K fdI pRI ds ∧ ∀ H, SqT K H T1 [] ∧ SqT K H T2 []
  rt : RT K mg CR
  rq : FQ K mg CR fE
  krr : ∀ T ∈ ["NoneType", "int", "str"], PySem.W.kitOne K (.type T) (.ref CR) = some false
  kcc : PySem.W.kitOne K (.type "int") (.ref CC) = some false
  mks : Mk K CS fS
  gs : FnOk P w K mg base (L2.CX P w) 5 fS fdS pSI (spSInit K CS CR CC CP CG CU CQ CL)
  gS : mg "Scheme" = some (.ref CS)
  bs : ∃ gg, KBn K fdS pSI 4 ["promise", "faults"] gg (fun vs zs => vs ++ zs)
  bs0 : ∃ (T1 : Addr) (ds : List Value), Vals [V.ref T1, V.str "lying"] ds ∧ Binds K fdS pSI ds ∧ ∀ H, SqT K H T1 []
def IG (K : PySem.W.Frag) (P1 P2 a d : Addr) (ns : List Int) (H : Hp) : Prop := SqS K H a d (ns.map V.int) ∧ Tabs (TT2 P1 P2) H ∧ ∃ x y z, H d = some (dr x y z)
section
variable {K : PySem.W.Frag} {P1 P2 a d : Addr} {ns : List Int} {H H' : Hp}
theorem IG.same (h : IG K P1 P2 a d ns H) (s : Same H H') : IG K P1 P2 a d ns H' :=
  let ⟨h1, h2, x, y, z, h3⟩ := h; ⟨h1.fr (Fr.same s), tabs_same h2 s, x, y, z, s _ _ h3⟩
theorem IG.but (h : IG K P1 P2 a d ns H) (b : But d H H') (hd : ∃ x y z, H' d = some (dr x y z)) : IG K P1 P2 a d ns H' :=
  let ⟨h1, h2, x, y, z, h3⟩ := h; ⟨h1.fr (Fr.but b), tabs_but h2 h3 b, hd⟩
theorem IG.ext (h : IG K P1 P2 a d ns H) (e : ExtN H H') (t : Tabs (TT2 P1 P2) H') : IG K P1 P2 a d ns H' :=
  let ⟨h1, h2, x, y, z, h3⟩ := h; ⟨h1.fr (Fr.ext e), t, x, y, z, e _ _ h3 (dr_nt x y z)⟩
end
def OG (K : PySem.W.Frag) (P1 P2 a : Addr) (ns : List Int) (H : Hp) : Prop := SqL K H a (ns.map V.int) ∧ Tabs (TT2 P1 P2) H
/-! what holds on, but for d and the tables -/
def Fu (d : Addr) (R : Hp → Prop) (H : Hp) : Prop := ∀ H', Fr d H H' → R H'
section
variable {d : Addr} {R S : Hp → Prop} {H H' : Hp}
theorem Fu.now (h : Fu d R H) : R H := h H (Fr.refl d H)
theorem Fu.go (h : Fu d R H) (f : Fr d H H') : Fu d R H' := fun H2 f2 => h H2 (f.trans f2)
theorem Fu.same (h : Fu d R H) (s : Same H H') : Fu d R H' := h.go (Fr.same s)
theorem Fu.but (h : Fu d R H) (b : But d H H') : Fu d R H' := h.go (Fr.but b)
theorem Fu.ext (h : Fu d R H) (e : ExtN H H') : Fu d R H' := h.go (Fr.ext e)
theorem Fu.imp (h : Fu d R H) (i : ∀ H', R H' → S H') : Fu d S H := fun H2 f => i H2 (h H2 f)
theorem Fu.and (h : Fu d R H) (g : Fu d S H) : Fu d (fun G => R G ∧ S G) H := fun H2 f => ⟨h H2 f, g H2 f⟩
theorem Fu.all (h : ∀ H', R H') : Fu d R H := fun H2 _ => h H2
theorem fu_obj {b : Addr} {o : HO} (h : H b = some o) (n : b ≠ d) (t : ∀ ps, o ≠ .tbl ps) : Fu d (fun G => G b = some o) H := fun H2 f => f b o h n t
theorem fu_new {b : Addr} {o : HO} (hd : ∃ x y z, H d = some (dr x y z)) (hb : H b = none) (t : ∀ ps, o ≠ .tbl ps) : Fu d (fun G => G b = some o) (upd H b o) := by
  obtain ⟨x, y, z, hd⟩ := hd
  exact fu_obj upd_same (fun e => by rw [e, hd] at hb; cases hb) t
end
/-- words that were drawn as places -/
structure ZOk (zs : List Str) : Prop where
  nd : zs.Nodup
  m : ∀ w ∈ zs, w ∈ MENU
  l2 : 2 ≤ zs.length
  l7 : zs.length ≤ 7
theorem ZOk.w {zs : List Str} (h : ZOk zs) {z : Str} (hz : z ∈ zs) : isWS z = true ∧ z.length ≤ 8 ∧ PyData.strOk z = true := menu_ok.2 z (h.m z hz)
def fbV : Option Nat → V
  | none => .non
  | some i => .int i
/-- rules as told, with the first bad one; or what is no list -/
inductive RwV (K : PySem.W.Frag) (CR : Addr) (zs : List Str) : V → Option Nat → Hp → Prop
  | lst {a : Addr} {xs : List V} {os : List (Option Ru)} {fb : Option Nat} {G : Hp} (h : G a = some (.lst xs)) (p : Paired (TRu K CR G) xs os) (f : FirstBad zs os fb) (l : xs.length ≤ 10) : RwV K CR zs (.ref a) fb G
  | non {G : Hp} : RwV K CR zs .non (some 0) G
  | str {G : Hp} : RwV K CR zs (.str "rules") (some 0) G
  | int {G : Hp} : RwV K CR zs (.int 5) (some 0) G
  | dic {a : Addr} {G : Hp} (h : G a = some (.dK [])) : RwV K CR zs (.ref a) (some 0) G
/-- promises as told, with the first bad one -/
inductive VwV (K : PySem.W.Frag) (CC : Addr) : V → Option Nat → Hp → Prop
  | nilL {a : Addr} {G : Hp} (h : G a = some (.lst [])) : VwV K CC (.ref a) none G
  | nilT {a : Addr} {G : Hp} (h : SqT K G a []) : VwV K CC (.ref a) none G
  | non {G : Hp} : VwV K CC .non (some 0) G
  | five {a : Addr} {G : Hp} (h : G a = some (.lst [.int 5])) : VwV K CC (.ref a) (some 0) G
  | two {a p q : Addr} {ps qs : Prs} {c1 c2 : Int} {G : Hp} (h : G a = some (.lst [.ref p, .ref q])) (h1 : CmpAt K CC G p ps c1) (h2 : CmpAt K CC G q qs c2) (b1 : isP ps = true) (b2 : isP qs = false) (n1 : ∀ q ∈ ps, q.1 ≠ []) (n2 : ∀ q ∈ qs, q.1 ≠ []) (l1 : ps.length ≤ 900) (l2 : qs.length ≤ 900) : VwV K CC (.ref a) (some 1) G
/-- a word of faults, or another thing -/
def KdV (K : PySem.W.Frag) (v : V) (dd : PyData) (G : Hp) : Prop := KnFa K G v dd ∧ SmD K G 4 v v
/-- places or beginnings as told -/
def ObV (K : PySem.W.Frag) (v : V) (o : Option (List V)) (G : Hp) : Prop := KnL K G v o ∧ SmD K G 4 v v
def DuV (v : V) (t : Str × V) (G : Hp) : Prop := ∃ p, v = .ref p ∧ G p = some (.tup [.str t.1, t.2])
/-- what is due, the later ones ahead -/
def due1 (kd : Bool) (kv : V) : Str × V := if kd then ("made", .bl true) else ("faults", kv)
def due2 (vw : Option Nat) (t : Str × V) : Str × V := match vw with
  | some i => ("promise", .int i)
  | none => t
def due3 (fb : Option Nat) (t : Str × V) : Str × V := match fb with
  | some i => ("rule", .int i)
  | none => t
def due4 (ok : Bool) (bv : V) (t : Str × V) : Str × V := if ok then t else ("begins", bv)
def due5 (ok : Bool) (sv : V) (t : Str × V) : Str × V := if ok then t else ("places", sv)
theorem du_new {d p : Addr} {t : Str × V} {H : Hp} (hd : ∃ x y z, H d = some (dr x y z)) (hp : H p = none) : Fu d (DuV (.ref p) t) (upd H p (.tup [.str t.1, t.2])) := (fu_new hd hp fun ps e => by cases e).imp fun G h => ⟨p, rfl, h⟩
end Mv
/-! the law, statements 0 to 2 -/
namespace Mv
open PySem PySem.Spec PyProof.Rows L2 LamX
theorem cmp2_of {K : PySem.W.Frag} {C CF CC CN CB : Addr} {x y : V} {ps qs rs : Prs} {r r2 l : Int} {H : Hp} {Q : VK} {E : XK} (f1 : AsF K C H x ps r) (f2 : AsF K C H y qs r2) (ok : okB ps qs rs (r - r2) l = true)
    (k : ∀ p H', Same H H' → H p = none → CmpAt K CC H' p (divP rs (gI rs)) (conI rs (r - r2) l) → Q (.ref p) H') : spCmp2 K C CF CC CN CB l [x, y] H Q E := by
  unfold okB at ok
  simp only [Bool.and_eq_true, decide_eq_true_eq, Bool.or_eq_true, Bool.not_eq_true'] at ok
  obtain ⟨c1, c2, c3, gg, l1, l2, bd, ne, hc⟩ := ok
  refine ⟨x, y, rfl, x, y, l, rfl, .inr ⟨ps, r, f1, canon_of c1, l1, .inr ⟨qs, r2, f2, canon_of c2, l2, fun rs2 cz gz lz => ?_⟩⟩⟩
  have er : rs2 = rs := cz.uniq (canon_of c3) fun t => by rw [gz t, gp_of gg t]
  subst er
  refine ⟨fun p hp => of_decide_eq_true (List.all_eq_true.mp bd p hp), fun e => ?_, fun _ _ p H' s n hp => k p H' s n hp, fun _ h => absurd hc h⟩
  rw [e] at ne
  cases ne
section
variable {P : Program} {w : World} {K : PySem.W.Frag} {mg : Str → Option Value} {base : Heap} {C CF CC CN CB CR CS CW CK CP CG CU CQ CL fI fS g fE fN fH : Addr} {fdI fdS fdg : FuncData} {P1 P2 c f : Addr} {A : Around} {outer : List Env} {s : Shared} {H0 : Hp} {E0' : XK} {a : Addr} {ns : List Int}
def D0 (K : PySem.W.Frag) (P1 P2 a : Addr) (ns : List Int) (σ : L2.St) (H : Hp) : Prop := ∃ d, IG K P1 P2 a d ns H ∧ ∃ v1 v3 v4 v5 v6 v7 v8 v9 v10 v11 v12 v13, σ = [some (.ref a), v1, some (.ref d), v3, v4, v5, v6, v7, v8, v9, v10, v11, v12, v13]
/-- the places that were drawn -/
structure SpF (d z : Addr) (zs : List Str) (H : Hp) : Prop where
  ok : ZOk zs
  n : z ≠ d
  h : Fu d (fun G => G z = some (.lst (zs.map V.str))) H
theorem SpF.go {d z : Addr} {zs : List Str} {H H' : Hp} (h : SpF d z zs H) (f : Fr d H H') : SpF d z zs H' := ⟨h.ok, h.n, h.h.go f⟩
/-- the lines that were drawn -/
structure LnF (d l : Addr) (zs : List Str) (as : List Addr) (R : List Ru) (H : Hp) : Prop where
  ok : ∀ r ∈ R, OkL zs r
  l9 : R.length ≤ 9
  h : Fu d (fun G => G l = some (.lst (as.map V.ref)) ∧ Paired (LineAt G) as R) H
theorem LnF.go {d l : Addr} {zs : List Str} {as : List Addr} {R : List Ru} {H H' : Hp} (h : LnF d l zs as R H) (f : Fr d H H') : LnF d l zs as R H' := ⟨h.ok, h.l9, h.h.go f⟩
def D1 (K : PySem.W.Frag) (P1 P2 a : Addr) (ns : List Int) (σ : L2.St) (H : Hp) : Prop := ∃ d z zs, IG K P1 P2 a d ns H ∧ SpF d z zs H ∧ ∃ v1 v4 v5 v6 v7 v8 v9 v10 v11 v12 v13, σ = [some (.ref a), v1, some (.ref d), some (.ref z), v4, v5, v6, v7, v8, v9, v10, v11, v12, v13]
def D2 (K : PySem.W.Frag) (P1 P2 a : Addr) (ns : List Int) (σ : L2.St) (H : Hp) : Prop := ∃ d z zs l as R, IG K P1 P2 a d ns H ∧ SpF d z zs H ∧ LnF d l zs as R H ∧ ∃ v1 v5 v6 v7 v8 v9 v10 v11 v12 v13, σ = [some (.ref a), v1, some (.ref d), some (.ref z), some (.ref l), v5, v6, v7, v8, v9, v10, v11, v12, v13]
theorem ho_0 (F : LF P w K mg base C CF CC CN CB CR CS CW CK CP CG CU CQ CL fI fS g fE fN fH fdI fdS fdg) (hr : Room 14 (LX P w K mg base f c A outer s H0 E0').A) :
    Ho (LX P w K mg base f c A outer s H0 E0') (stAt oB 0) (fun σ H => ∃ i : Nat, i ≤ 1000 ∧ OG K P1 P2 a ns H ∧ ∃ v2 v3 v4 v5 v6 v7 v8 v9 v10 v11 v12 v13, σ = [some (.ref a), some (.int i), v2, v3, v4, v5, v6, v7, v8, v9, v10, v11, v12, v13]) (D0 K P1 P2 a ns) := by
  refine ⟨_, ps_set (i := 2) scLa.nd rfl (.inl rfl) (pe_d F.src hr (by decide) rfl pass0 (pa_cons (pv 0) (pa_cons (pv 1) pa_nil))), ?_⟩
  rintro D σ H ⟨i, hi, ⟨hS, hT⟩, v2, v3, v4, v5, v6, v7, v8, v9, v10, v11, v12, v13, rfl⟩ k
  refine ⟨_, rfl, _, rfl, a, ns, i, rfl, hS, hi, fun l x y hl => ?_⟩
  have sm := same_new (o := dr x y 0) hl
  exact k _ _ ⟨l, ⟨(SqS.of hS hl).fr (Fr.same sm), tabs_same hT sm, x, y, 0, upd_same⟩, _, v3, v4, v5, v6, v7, v8, v9, v10, v11, v12, v13, rfl⟩
theorem ho_1 (F : LF P w K mg base C CF CC CN CB CR CS CW CK CP CG CU CQ CL fI fS g fE fN fH fdI fdS fdg) (hr : Room 14 (LX P w K mg base f c A outer s H0 E0').A) : Ho (LX P w K mg base f c A outer s H0 E0') (stAt oB 1) (D0 K P1 P2 a ns) (D1 K P1 P2 a ns) := by
  refine ⟨_, ps_set (i := 3) scLa.nd rfl (.inr rfl) (pe_d (E := E0) F.words hr (by decide) rfl pass0 (pa_cons (pv 2) (pa_cons (pe_op op_add pe_int (pe_d (E := E0) F.draw hr (by decide) rfl pass0 (pa_cons (pv 2) (pa_cons pe_int pa_nil)))) pa_nil))), ?_⟩
  rintro D σ H ⟨d, ig, v1, v3, v4, v5, v6, v7, v8, v9, v10, v11, v12, v13, rfl⟩ k
  obtain ⟨x, y, z, hd⟩ := ig.2.2
  refine ⟨_, rfl, _, rfl, d, 6, x, y, z, rfl, hd, by decide, by decide, fun r x1 y1 z1 r0 r1 => ?_⟩
  refine ⟨2, r, rfl, rfl, d, 2 + r, x1, y1, z1, rfl, upd_same, by omega, by omega, fun L H' ws x2 y2 z2 bt hd2 nL hL nd mm lw => ?_⟩
  have b0 : But d H (upd H d (dr x1 y1 z1)) := But.upd
  have n : L ≠ d := fun e => by rw [e, upd_same] at nL; cases nL
  exact k _ _ ⟨d, L, ws, ig.but (b0.trans bt) ⟨_, _, _, hd2⟩, ⟨⟨nd, mm, by omega, by omega⟩, n, fu_obj hL n fun ps e => by cases e⟩, v1, v4, v5, v6, v7, v8, v9, v10, v11, v12, v13, rfl⟩
theorem ho_2 (F : LF P w K mg base C CF CC CN CB CR CS CW CK CP CG CU CQ CL fI fS g fE fN fH fdI fdS fdg) (hr : Room 14 (LX P w K mg base f c A outer s H0 E0').A) : Ho (LX P w K mg base f c A outer s H0 E0') (stAt oB 2) (D1 K P1 P2 a ns) (D2 K P1 P2 a ns) := by
  refine ⟨_, ps_set (i := 4) scLa.nd rfl (.inl rfl) (pe_d (E := E0) F.lines hr (by decide) rfl pass0 (pa_cons (pv 2) (pa_cons (pv 3) pa_nil))), ?_⟩
  rintro D σ H ⟨d, z, zs, ig, sp, v1, v4, v5, v6, v7, v8, v9, v10, v11, v12, v13, rfl⟩ k
  obtain ⟨x, y, u, hd⟩ := ig.2.2
  have zo := sp.ok
  refine ⟨_, rfl, _, rfl, d, z, zs, x, y, u, rfl, hd, sp.n, sp.h.now, zo.l2, (by have := zo.l7; omega), fun L H' as R i sl hi => ?_⟩
  have f1 : Fr d H H' := Fr.but sl.bt
  refine k _ _ ⟨d, z, zs, L, as, R, ig.but sl.bt sl.dr, sp.go f1, ⟨sl.ok, by rw [sl.l]; exact hi, fun H2 f2 => ⟨f2 _ _ sl.hL sl.ne.1 (fun ps e => by cases e), sl.far H2 fun b o e n _ t => f2 b o e n t⟩⟩, v1, v5, v6, v7, v8, v9, v10, v11, v12, v13, rfl⟩
end
end Mv
/-! the law, statement 3: the rules of the lines -/
namespace Mv
open PySem PySem.Spec PyProof.Rows L2 LamX
theorem sqT_fr2 {K : PySem.W.Frag} {H H' : Hp} {d D a : Addr} {x y z : Int} {ws xs : List V} (hd : H d = some (dr x y z)) (hD : H D = some (.lst ws)) (f : Fr2 d D H H') (h : SqT K H a xs) : SqT K H' a xs := by
  have n1 : ∀ {o : HO}, H a = some o → o ≠ dr x y z → a ≠ d := fun {o} e n q => by
    rw [q, hd] at e
    exact n (Option.some.inj e).symm
  have n2 : ∀ {o : HO}, H a = some o → o ≠ .lst ws → a ≠ D := fun {o} e n q => by
    rw [q, hD] at e
    exact n (Option.some.inj e).symm
  rcases h with (h | ⟨u, h⟩) | h
  · exact .inl (.inl (f _ _ h (n1 h fun q => by cases q) (n2 h fun q => by cases q) fun ps q => by cases q))
  · exact .inl (.inr ⟨u, f _ _ h (n1 h fun q => by cases q) (n2 h fun q => by cases q) fun ps q => by cases q⟩)
  · exact .inr h
theorem ruAt_far {K : PySem.W.Frag} {CR : Addr} {H : Hp} {d D p : Addr} {x y z : Int} {ws : List V} {r : Ru} (hd : H d = some (dr x y z)) (hD : H D = some (.lst ws)) (h : RuAt K CR H p r) : Far d D (fun G => RuAt K CR G p r) H := fun H2 f => by
  obtain ⟨vs, ⟨dx, tw, ts, h1, h2, h3⟩⟩ := h
  refine ⟨vs, ⟨dx, tw, ts, f _ _ h1 (fun e => by rw [e, hd] at h1; cases h1) (fun e => by rw [e, hD] at h1; cases h1) (fun ps e => by cases e), sqT_fr2 hd hD f h2, sqT_fr2 hd hD f h3⟩⟩
theorem strange_w : isWS "strange" = true ∧ ("strange" : Str).length ≤ 8 := by decide +kernel
/-- what a line that was drawn is made of -/
theorem OkL.words {zs : List Str} {r : Ru} (zo : ZOk zs) (h : OkL zs r) (z : Str) (hz : z = r.n ∨ z = r.s ∨ z = r.e ∨ z ∈ r.ss) : isWS z = true ∧ z.length ≤ 8 := by
  rcases hz with rfl | rfl | rfl | hz
  · exact ⟨(names_w _ h.n).1, (names_w _ h.n).2.1⟩
  · exact ⟨(zo.w h.s).1, (zo.w h.s).2.1⟩
  · rcases h.e with e | e
    · exact ⟨(zo.w e).1, (zo.w e).2.1⟩
    · rw [e]; exact strange_w
  · exact ⟨(says_w _ (h.y z hz)).1, (says_w _ (h.y z hz)).2.1⟩
theorem kn_w {K : PySem.W.Frag} {H : Hp} {z : Str} (h : z.length ≤ 8) : Kn K H (.str z) := .str (Nat.le_trans h (by show 8 ≤ sizeLine; decide))
theorem bad_one {ss : List Str} (l : ss.length ≤ 1) (h : ∀ z ∈ ss, isWS z = true) : ∀ j, j < (ss.map V.str).length → badAt (ss.map V.str) j = false := fun j hj => by
  rw [List.length_map] at hj
  have e : j = 0 := by omega
  subst e
  match ss, l, h, hj with
  | [z], _, h, _ =>
    have hz : isW (.str z) = true := h z (List.mem_singleton.mpr rfl)
    show (!isW (.str z) || inV (.str z) []) = false
    rw [hz]
    rfl
theorem perm_one {ss ys : List Str} (l : ss.length ≤ 1) (h : ys.Perm ss) : ys = ss := by
  match ss, l, h with
  | [], _, h => exact List.perm_nil.mp h
  | [z], _, h => exact List.perm_singleton.mp h
/-- Rule(..) of a line gives the rule -/
theorem rule_made {K : PySem.W.Frag} {CR CC CW CK : Addr} {zs : List Str} {r : Ru} {sl wl np dx : Addr} {H : Hp} {Q : VK} (zo : ZOk zs) (ok : OkL zs r) (hsl : SqL K H sl (r.ss.map V.str)) (hwl : SqL K H wl []) (hp : H np = some (.ins CR dx []))
    (k : ∀ H', RuAt K CR H' np r → (∀ b o, H b = some o → b ≠ np → H' b = some o) → Q .non H') : spRInit K CR CC CW CK [.ref np, .str r.n, .str r.s, .str r.e, .ref wl, .ref sl] H Q E0 := by
  have w := ok.words zo
  have w3 : ∀ u ∈ [V.str r.n, .str r.s, .str r.e], ∃ z, u = .str z ∧ isWS z = true ∧ z.length ≤ 8 := fun u hu => by
    simp only [List.mem_cons, List.not_mem_nil, or_false] at hu
    rcases hu with rfl | rfl | rfl
    · exact ⟨_, rfl, w _ (.inl rfl)⟩
    · exact ⟨_, rfl, w _ (.inr (.inl rfl))⟩
    · exact ⟨_, rfl, w _ (.inr (.inr (.inl rfl)))⟩
  have nb := bad_one ok.l fun z hz => (w z (.inr (.inr (.inr hz)))).1
  refine ⟨np, dx, _, _, _, _, _, rfl, hp, fun u hu H' _ => ?_, fun i u hi hw _ => ?_, fun _ => .inr ⟨sl, r.ss.map V.str, rfl, .inl hsl, fun u hu H' _ => ?_, ?_, fun i u hi hb _ => ?_, fun _ => ⟨r.ss, rfl, .inr ⟨wl, [], [], rfl, .inl hwl, .nil, fun i hi => by simp at hi, fun _ tw ts ys H' pm so h1 h2 h3 keep => ?_⟩⟩⟩⟩
  · obtain ⟨z, rfl, _, hz⟩ := w3 u hu
    exact kn_w hz
  · obtain ⟨z, rfl, hz, _⟩ := w3 u (List.mem_of_getElem? hi)
    rw [show isW (.str z) = true from hz] at hw
    cases hw
  · obtain ⟨z, hz, rfl⟩ := List.mem_map.mp hu
    exact kn_w (w z (.inr (.inr (.inr hz)))).2
  · rw [List.length_map]
    have := ok.l
    omega
  · rw [nb i (List.getElem?_eq_some_iff.mp hi).1] at hb
    cases hb
  · rw [perm_one ok.l pm] at h2
    exact k H' ⟨[], dx, tw, ts, h3, h1, h2⟩ keep
section
variable {P : Program} {w : World} {K : PySem.W.Frag} {mg : Str → Option Value} {base : Heap} {C CF CC CN CB CR CS CW CK CP CG CU CQ CL fI fS g fE fN fH : Addr} {fdI fdS fdg : FuncData} {P1 P2 c f : Addr} {A : Around} {outer : List Env} {s : Shared} {H0 : Hp} {E0' : XK} {a : Addr} {ns : List Int}
/-- the rules of the lines -/
def RlF (K : PySem.W.Frag) (CR d rl : Addr) (rs : List Addr) (R : List Ru) (H : Hp) : Prop := Fu d (fun G => G rl = some (.lst (rs.map V.ref)) ∧ Paired (RuAt K CR G) rs R) H
def D3 (K : PySem.W.Frag) (CR P1 P2 a : Addr) (ns : List Int) (σ : L2.St) (H : Hp) : Prop := ∃ d z zs l as R rl rs du, IG K P1 P2 a d ns H ∧ SpF d z zs H ∧ LnF d l zs as R H ∧ RlF K CR d rl rs R H ∧ Fu d (DuV du ("made", .bl true)) H ∧
  ∃ v1 v7 v8 v9 v10 v11 v12 v13, σ = [some (.ref a), v1, some (.ref d), some (.ref z), some (.ref l), some (.ref rl), some du, v7, v8, v9, v10, v11, v12, v13]
theorem ho_3 (F : LF P w K mg base C CF CC CN CB CR CS CW CK CP CG CU CQ CL fI fS g fE fN fH fdI fdS fdg) (hr : Room 14 (LX P w K mg base f c A outer s H0 E0').A) : Ho (LX P w K mg base f c A outer s H0 E0') (stAt oB 3) (D2 K P1 P2 a ns) (D3 K CR P1 P2 a ns) := by
  refine ⟨_, ps_par (i := 5) (j := 6) rfl scLa.nd rfl rfl (by decide) rfl rfl (pa_cons (pe_lc (own := [("_law_line", 13)]) (g := gName 13) (tt := tYes) rfl scLa.nd (pi_list (pv 4)) (blkOk_by (N := nLaw) (sc := defScope sLaw) (by decide +kernel))
      (fun _ _ _ _ _ => pg_name (i := 13) scLa.nd rfl (Or.inl rfl)) (fun _ _ _ _ _ => pts_nil)
      (fun _ _ _ _ _ => pe_make F.mkr F.gi (hr.mono (by decide)) rfl F.gR F.bi0 .nil passX (pa_cons (pe_ix (show IxR _ (rIxT K) from ix_tup) (pv 13) pe_int (fun _ _ => rfl)) (pa_cons (pe_ix (show IxR _ (rIxT K) from ix_tup) (pv 13) pe_int (fun _ _ => rfl)) (pa_cons (pe_ix (show IxR _ (rIxT K) from ix_tup) (pv 13) pe_int (fun _ _ => rfl))
        (pa_cons (pe_lst pa_nil) (pa_cons (pe_ix (show IxR _ (rIxT K) from ix_tup) (pv 13) pe_int (fun _ _ => rfl)) pa_nil))))))) (pa_cons (pe_tup (pa_cons pe_str (pa_cons pe_bl pa_nil))) pa_nil)) (by rfl), ?_⟩
  rintro D σ H ⟨d, z, zs, l, as, R, ig, sp, ln, v1, v5, v6, v7, v8, v9, v10, v11, v12, v13, rfl⟩ k
  obtain ⟨x0, y0, u0, hd⟩ := ig.2.2
  obtain ⟨hl, pr⟩ := ln.h.now
  have la := paired_n pr
  refine ⟨_, rfl, l, rfl, ⟨_, sqL_of hl⟩, fun Dd hD => ?_⟩
  refine lc_it (walk_list (xs := as.map V.ref)) (fun j H' => Same H H' ∧ ∃ rs : List Addr, H' Dd = some (.lst (rs.map V.ref)) ∧ rs.length = j ∧ Far d Dd (fun G => Paired (RuAt K CR G) rs (R.take j)) H') ⟨same_new hD, [], upd_same, rfl, fun _ _ => .nil⟩ (fun j H' _ q => same_sqL q.1 (sqL_of hl)) ?_ ?_
  · rintro j x2 Hj0 Hj hj ⟨sj, rs, hv, lrs, far⟩ ⟨rfl, hx2⟩
    rw [List.getElem?_map] at hx2
    obtain ⟨q, hq, rfl⟩ := Option.map_eq_some_iff.mp hx2
    obtain ⟨r, hr2, sl, g1, g2⟩ := pairAtI pr hq
    have ok := ln.ok r (List.mem_of_getElem? hr2)
    refine ⟨rfl, ?_⟩
    unfold tYes
    refine iteT ?_
    have i1 := sj _ _ g1
    have i2 := sj _ _ g2
    refine ⟨_, rfl, q, _, 0, _, rfl, rfl, .inl (.inl i1), atI_nat (j := 0) rfl, ?_⟩
    refine ⟨_, rfl, q, _, 1, _, rfl, rfl, .inl (.inl i1), atI_nat (j := 1) rfl, ?_⟩
    refine ⟨_, rfl, q, _, 2, _, rfl, rfl, .inl (.inl i1), atI_nat (j := 2) rfl, ?_⟩
    refine ⟨(by show 0 ≤ sizeLine; decide), fun wl hwl => ?_⟩
    have s1 := same_new (o := .lst []) hwl
    refine ⟨_, rfl, q, _, 3, _, rfl, rfl, .inl (.inl (s1 _ _ i1)), atI_nat (j := 3) rfl, ?_⟩
    intro np dx hnp hdx hne
    have s2 : Same (upd Hj wl (.lst [])) (upd (upd (upd Hj wl (.lst [])) dx (.own np)) np (.ins CR dx [])) := (same_new hdx).trans (same_new (by rw [upd_ne (Ne.symm hne)]; exact hnp))
    have s12 := s1.trans s2
    refine rule_made sp.ok ok (sqL_of (s12 _ _ i2)) (sqL_of (s2 _ _ upd_same)) upd_same fun H2 ra keep => ⟨rfl, ?_⟩
    have nD : Dd ≠ np := ne_of_none (s1 _ _ hv) hnp
    have k2 : ∀ b o, Hj b = some o → H2 b = some o := fun b o e => keep b o (s12 _ _ e) (ne_of_none (s1 _ _ e) hnp)
    have hv2 := k2 _ _ hv
    have sm2 : Same H H2 := fun b o e => k2 b o (sj _ _ e)
    have hd2 := sm2 _ _ hd
    have nDd : Dd ≠ d := (ne_of_none hd hD).symm
    have lR : rs.length < sizeLine := small1000 (by
      have h9 := ln.l9
      rw [List.length_map] at hj
      omega)
    refine ⟨_, hv2, by rw [List.length_map]; exact lR, same_put sm2 hD, rs ++ [np], by rw [upd_same, List.map_append]; rfl, by rw [List.length_append, lrs]; rfl, ?_⟩
    have f1 : Fr2 d Dd Hj H2 := fun b o e _ _ _ => k2 b o e
    have f2 : Fr2 d Dd H2 (upd H2 Dd (.lst (rs.map V.ref ++ [V.ref np]))) := Fr2.upd
    intro H3 f3
    rw [take_next hr2]
    exact pairedApp (far H3 (f1.trans (f2.trans f3))) (.cons (ruAt_far hd2 hv2 ra H3 (f2.trans f3)) .nil)
  · rintro H2 ⟨s2, rs, hv, lrs, far⟩
    rw [List.length_map, la, List.take_length] at far
    have nDd : Dd ≠ d := (ne_of_none hd hD).symm
    have ig2 := ig.same s2
    refine ⟨(by show 2 ≤ sizeLine; decide), fun p hp => ⟨_, _, rfl, ?_⟩⟩
    have s3 := same_new (o := .tup [V.str "made", V.bl true]) hp
    have f3 : Fr d H (upd H2 p (.tup [V.str "made", V.bl true])) := Fr.same (s2.trans s3)
    refine k _ _ ⟨d, z, zs, l, as, R, Dd, rs, .ref p, ig2.same s3, sp.go f3, ln.go f3, ?_, du_new ig2.2.2 hp, v1, v7, v8, v9, v10, v11, v12, _, rfl⟩
    intro H4 f4
    have f5 : Fr d H2 H4 := (Fr.same s3).trans f4
    exact ⟨f5 _ _ hv nDd (fun ps e => by cases e), far H4 fun b o e n _ t => f5 b o e n t⟩
end
end Mv
/-! the law, statement 4; what is told as places or beginnings -/
namespace Mv
open PySem PySem.Spec PyProof.Rows L2 LamX
section
variable {P : Program} {w : World} {K : PySem.W.Frag} {mg : Str → Option Value} {base : Heap} {C CF CC CN CB CR CS CW CK CP CG CU CQ CL fI fS g fE fN fH : Addr} {fdI fdS fdg : FuncData} {P1 P2 c f : Addr} {A : Around} {outer : List Env} {s : Shared} {H0 : Hp} {E0' : XK} {a : Addr} {ns : List Int}
def D4 (K : PySem.W.Frag) (CR P1 P2 a : Addr) (ns : List Int) (σ : L2.St) (H : Hp) : Prop := ∃ d z zs l as R rl rs du fb, IG K P1 P2 a d ns H ∧ SpF d z zs H ∧ LnF d l zs as R H ∧ RlF K CR d rl rs R H ∧ Fu d (DuV du ("made", .bl true)) H ∧ FirstBad zs (R.map some) fb ∧
  ∃ v1 v8 v9 v10 v11 v12 v13, σ = [some (.ref a), v1, some (.ref d), some (.ref z), some (.ref l), some (.ref rl), some du, some (fbV fb), v8, v9, v10, v11, v12, v13]
theorem ho_4 (F : LF P w K mg base C CF CC CN CB CR CS CW CK CP CG CU CQ CL fI fS g fE fN fH fdI fdS fdg) (hr : Room 14 (LX P w K mg base f c A outer s H0 E0').A) : Ho (LX P w K mg base f c A outer s H0 E0') (stAt oB 4) (D3 K CR P1 P2 a ns) (D4 K CR P1 P2 a ns) := by
  refine ⟨_, ps_set (i := 7) scLa.nd rfl (.inl rfl) (pe_d (E := E0) F.due hr (by decide) rfl pass0 (pa_cons (pv 3) (pa_cons (pv 4) pa_nil))), ?_⟩
  rintro D σ H ⟨d, z, zs, l, as, R, rl, rs, du, ig, sp, ln, rf, hdu, v1, v7, v8, v9, v10, v11, v12, v13, rfl⟩ k
  obtain ⟨hl, pr⟩ := ln.h.now
  have zo := sp.ok
  have lz : zs.length ≤ 11 := by have := zo.l7; omega
  have fin : ∀ (o : Option Nat) (H' : Hp), Same H H' → FirstBad zs (R.map some) o → D.nx [some (.ref a), v1, some (.ref d), some (.ref z), some (.ref l), some (.ref rl), some du, some (fbV o), v8, v9, v10, v11, v12, v13] H' := fun o H' s1 h =>
    k _ _ ⟨d, z, zs, l, as, R, rl, rs, du, o, ig.same s1, sp.go (Fr.same s1), ln.go (Fr.same s1), rf.same s1, hdu.same s1, h, v1, v8, v9, v10, v11, v12, v13, rfl⟩
  refine ⟨_, rfl, _, rfl, z, l, zs, as, R, rfl, sqL_of sp.h.now, zo.nd, lz, sqL_of hl, pr, ln.l9, fun r hr => by have := (ln.ok r hr).l; omega, fun i hi hb hg H' s1 => ?_, fun hg H' s1 => ?_⟩
  · obtain ⟨p, hp, e⟩ := first_all zo.nd lz ln.l9 (o := some i) ⟨hi, hb, hg⟩
    subst e
    exact fin (some i) H' s1 hp
  · obtain ⟨p, hp, e⟩ := first_all zo.nd lz ln.l9 (o := none) hg
    have e : p = if R.length > 8 then some 8 else none := e
    have e2 : fbV p = if R.length > 8 then V.int 8 else .non := by
      rw [e]
      by_cases h8 : R.length > 8
      · rw [if_pos h8, if_pos h8]; rfl
      · rw [if_neg h8, if_neg h8]; rfl
    rw [← e2]
    exact fin p H' s1 hp
end
end Mv
/-! the law, statement 5 -/
namespace Mv
open PySem PySem.Spec PyProof.Rows L2 LamX
/-- what stands in a list that is told as places or beginnings -/
inductive El (G : Hp) : V → Prop
  | str {z : Str} (h : z.length ≤ 8) : El G (.str z)
  | non : El G .non
  | int (i : Int) : El G (.int i)
  | lst {a : Addr} (h : G a = some (.lst [.str "a"])) : El G (.ref a)
section
variable {K : PySem.W.Frag} {G H H' : Hp} {d b : Addr} {v x : V} {xs : List V}
theorem El.same (s : Same H H') (h : El H x) : El H' x := by
  cases h with
  | str h => exact .str h
  | non => exact .non
  | int i => exact .int i
  | lst h => exact .lst (s _ _ h)
theorem El.kn (h : El H x) : Kn K H x := by
  cases h with
  | str h => exact kn_w h
  | non => exact .oth (.base .non) (kit_ty (by decide +kernel)) rfl
  | int i => exact .oth (.base (.int _)) (kit_ty (by decide +kernel)) rfl
  | lst h => exact .oth (.base (.lst h)) (kit_ty (by decide +kernel)) rfl
theorem El.sm (h : El H x) : SmD K H 3 x x := by
  cases h with
  | str h => exact .str _ _
  | non => exact .non _
  | int i => exact .int _ _
  | lst h => exact .lst (sqL_of h) (sqL_of h) rfl (by show 1 ≤ 1000; decide) (fun i x y e1 e2 => by
      rw [e1] at e2
      cases e2
      rw [List.mem_singleton.mp (List.mem_of_getElem? e1)]
      exact .str _ _)
theorem ob_lst (h : G b = some (.lst xs)) (hx : ∀ x ∈ xs, El G x) (l : xs.length ≤ 900) : ObV K (.ref b) (some xs) G :=
  ⟨.inr ⟨b, xs, rfl, rfl, .inl (sqL_of h), fun y hy H' s => ((hx y hy).same s).kn, l⟩, .lst (sqL_of h) (sqL_of h) rfl (by omega) fun i x y e1 e2 => by
    rw [e1] at e2
    cases e2
    exact (hx x (List.mem_of_getElem? e1)).sm⟩
theorem ob_tup (h : SqT K G b xs) (hx : ∀ x ∈ xs, El G x) (l : xs.length ≤ 900) : ObV K (.ref b) (some xs) G :=
  ⟨.inr ⟨b, xs, rfl, rfl, .inr h, fun y hy H' s => ((hx y hy).same s).kn, l⟩, .tup h h rfl (by omega) fun i x y e1 e2 => by
    rw [e1] at e2
    cases e2
    exact (hx x (List.mem_of_getElem? e1)).sm⟩
theorem ob_non : ObV K .non none G := ⟨.inl ⟨rfl, fun H' _ => ⟨_, .base .non, kit_any (bs := ["list", "tuple"]) (by decide +kernel)⟩⟩, .non _⟩
theorem ob_str (z : Str) : ObV K (.str z) none G := ⟨.inl ⟨rfl, fun H' _ => ⟨_, .base (.str _), kit_any (bs := ["list", "tuple"]) (by decide +kernel)⟩⟩, .str _ _⟩
theorem el_strs {zs : List Str} (h : ∀ z ∈ zs, z.length ≤ 8) : ∀ x ∈ zs.map V.str, El G x := fun x hx => by
  obtain ⟨z, hz, rfl⟩ := List.mem_map.mp hx
  exact .str (h z hz)
theorem ZOk.len {zs : List Str} (h : ZOk zs) : ∀ z ∈ zs, z.length ≤ 8 := fun z hz => (h.w hz).2.1
theorem sqT_fr {a : Addr} {x y z : Int} (hd : H d = some (dr x y z)) (f : Fr d H H') (h : SqT K H a xs) : SqT K H' a xs := by
  have ne : ∀ {b : Addr} {o : HO}, H b = some o → o ≠ dr x y z → b ≠ d := fun {b o} e n z => by
    rw [z, hd] at e
    exact n (Option.some.inj e).symm
  rcases h with (h | ⟨u, h⟩) | h
  · exact .inl (.inl (f _ _ h (ne h fun z => by cases z) fun ps z => by cases z))
  · exact .inl (.inr ⟨u, f _ _ h (ne h fun z => by cases z) fun ps z => by cases z⟩)
  · exact .inr h
theorem cut_map {zs : List Str} {i : Nat} (h : i ≤ zs.length) : cutV (zs.map V.str) none (some (i : Int)) = (zs.take i).map V.str := by
  rw [cut_take (i := i) (by rw [List.length_map]; exact h), List.map_take]
end
theorem kd_word {K : PySem.W.Frag} {G : Hp} (z : Str) (h : SeqAt.shaped (.str z) = true) : KdV K (.str z) (.str z) G := ⟨⟨fun H' _ => .str _, h⟩, .str _ _⟩
section
variable {P : Program} {w : World} {K : PySem.W.Frag} {mg : Str → Option Value} {base : Heap} {C CF CC CN CB CR CS CW CK CP CG CU CQ CL fI fS g fE fN fH : Addr} {fdI fdS fdg : FuncData} {P1 P2 c f : Addr} {A : Around} {outer : List Env} {s : Shared} {H0 : Hp} {E0' : XK} {a : Addr} {ns : List Int}
/-- beginnings as told -/
structure BgF (K : PySem.W.Frag) (d : Addr) (v : V) (o : Option (List V)) (H : Hp) : Prop where
  l : ∀ xs, o = some xs → xs.length ≤ 7
  h : Fu d (ObV K v o) H
theorem BgF.go {d : Addr} {v : V} {o : Option (List V)} {H H' : Hp} (h : BgF K d v o H) (f : Fr d H H') : BgF K d v o H' := ⟨h.l, h.h.go f⟩
/-- all that is there behind statement 5 -/
structure All (K : PySem.W.Frag) (CR CC P1 P2 a : Addr) (ns : List Int) (d z l rl : Addr) (zs : List Str) (as rs : List Addr) (R : List Ru) (fb : Option Nat) (bv : V) (ob : Option (List V)) (vv : V) (vw : Option Nat) (kv : V) (kd : PyData) (H : Hp) : Prop where
  ig : IG K P1 P2 a d ns H
  sp : SpF d z zs H
  ln : LnF d l zs as R H
  rl : RlF K CR d rl rs R H
  fb : FirstBad zs (R.map some) fb
  bg : BgF K d bv ob H
  vw : Fu d (VwV K CC vv vw) H
  kd : Fu d (KdV K kv kd) H
theorem All.but {CR CC P1 P2 a d z l rl : Addr} {zs : List Str} {as rs : List Addr} {R : List Ru} {fb : Option Nat} {bv vv kv : V} {ob : Option (List V)} {vw : Option Nat} {kd : PyData} {H H' : Hp} (h : All K CR CC P1 P2 a ns d z l rl zs as rs R fb bv ob vv vw kv kd H) (b : But d H H') (hd : ∃ x y z, H' d = some (dr x y z)) : All K CR CC P1 P2 a ns d z l rl zs as rs R fb bv ob vv vw kv kd H' :=
  ⟨h.ig.but b hd, h.sp.go (Fr.but b), h.ln.go (Fr.but b), h.rl.but b, h.fb, h.bg.go (Fr.but b), h.vw.but b, h.kd.but b⟩
theorem All.same {CR CC P1 P2 a d z l rl : Addr} {zs : List Str} {as rs : List Addr} {R : List Ru} {fb : Option Nat} {bv vv kv : V} {ob : Option (List V)} {vw : Option Nat} {kd : PyData} {H H' : Hp} (h : All K CR CC P1 P2 a ns d z l rl zs as rs R fb bv ob vv vw kv kd H) (s : Same H H') : All K CR CC P1 P2 a ns d z l rl zs as rs R fb bv ob vv vw kv kd H' :=
  let ⟨x, y, u, hd⟩ := h.ig.2.2
  h.but (But.of s) ⟨x, y, u, s _ _ hd⟩
/-- the slots -/
abbrev sl14 (a d z l rl : Addr) (du : V) (fb bv vv kv : V) (v1 v11 v12 v13 : Option V) : L2.St := [some (.ref a), v1, some (.ref d), some (.ref z), some (.ref l), some (.ref rl), some du, some fb, some bv, some vv, some kv, v11, v12, v13]
def D5 (K : PySem.W.Frag) (CR CC P1 P2 a : Addr) (ns : List Int) (σ : L2.St) (H : Hp) : Prop := ∃ d z l rl zs as rs R fb bv ob vv kv kd du, All K CR CC P1 P2 a ns d z l rl zs as rs R fb bv ob vv none kv kd H ∧ Fu d (DuV du ("made", .bl true)) H ∧
  ∃ v1 v11 v12 v13, σ = sl14 a d z l rl du (fbV fb) bv vv kv v1 v11 v12 v13
theorem ho_5 (F : LF P w K mg base C CF CC CN CB CR CS CW CK CP CG CU CQ CL fI fS g fE fN fH fdI fdS fdg) (hr : Room 14 (LX P w K mg base f c A outer s H0 E0').A) : Ho (LX P w K mg base f c A outer s H0 E0') (stAt oB 5) (D4 K CR P1 P2 a ns) (D5 K CR CC P1 P2 a ns) := by
  refine ⟨_, ps_asg (pe_tup (pa_cons (pe_d (E := E0) F.pick hr (by decide) rfl pass0 (pa_cons (pv 2) (pa_cons (pe_lst (pa_cons (pe_slice (show SlR _ (rSlL K) from sl_list) (pv 3) po_none (po_some pe_int)) (pa_cons (pe_slice (show SlR _ (rSlL K) from sl_list) (pv 3) po_none (po_some pe_int))
      (pa_cons (pe_callTy call_tupS (by rfl) F.tuple (by decide +kernel) (pa_cons (pv 3) pa_nil)) pa_nil)))) pa_nil))) (pa_cons (pe_lst pa_nil) (pa_cons pe_str pa_nil))))
    (pg_tup rfl (pgs_cons (pg_name (i := 8) scLa.nd rfl (.inr rfl)) (pgs_cons (pg_name (i := 9) scLa.nd rfl (.inr rfl)) (pgs_cons (pg_name (i := 10) scLa.nd rfl (.inr rfl)) pgs_nil)))), ?_⟩
  rintro D σ H ⟨d, z, zs, l, as, R, rl, rs, du, fb, ig, sp, ln, rf, hdu, hfb, v1, v8, v9, v10, v11, v12, v13, rfl⟩ k
  obtain ⟨x0, y0, u0, hd⟩ := ig.2.2
  have hz := sp.h.now
  have zo := sp.ok
  refine ⟨_, rfl, _, rfl, _, rfl, z, _, rfl, sqL_of hz, fun p1 hp1 => ?_⟩
  rw [show cutV (zs.map V.str) none (some 1) = (zs.take 1).map V.str from cut_map (i := 1) (by have := zo.l2; omega)]
  have s1 := same_new (o := .lst ((zs.take 1).map V.str)) hp1
  refine ⟨_, rfl, _, rfl, z, _, rfl, sqL_of (s1 _ _ hz), fun p2 hp2 => ?_⟩
  rw [show cutV (zs.map V.str) none (some 2) = (zs.take 2).map V.str from cut_map (i := 2) zo.l2]
  have s2 := same_new (o := .lst ((zs.take 2).map V.str)) hp2
  refine ⟨_, rfl, z, _, rfl, .inl (sqL_of ((s1.trans s2) _ _ hz)), fun tw G3 s3 ht => ?_⟩
  refine ⟨(by show 3 ≤ sizeLine; decide), fun pl hpl => ?_⟩
  have s4 := same_new (o := .lst [V.ref p1, .ref p2, .ref tw]) hpl
  have s14 := s1.trans (s2.trans (s3.trans s4))
  have d4 := s14 _ _ hd
  have n1 : p1 ≠ d := (ne_of_none hd hp1).symm
  have n2 : p2 ≠ d := (ne_of_none (s1 _ _ hd) hp2).symm
  have nl : pl ≠ d := (ne_of_none ((s1.trans (s2.trans s3)) _ _ hd) hpl).symm
  have g1 := (s2.trans (s3.trans s4)) _ _ (upd_same (H := H) (a := p1) (o := .lst ((zs.take 1).map V.str)))
  have g2 := (s3.trans s4) _ _ (upd_same (H := upd H p1 (.lst ((zs.take 1).map V.str))) (a := p2) (o := .lst ((zs.take 2).map V.str)))
  have g3 := same_sqT s4 ht
  have g4 : upd G3 pl (.lst [V.ref p1, .ref p2, .ref tw]) pl = some (.lst [V.ref p1, .ref p2, .ref tw]) := upd_same
  generalize upd G3 pl (.lst [V.ref p1, .ref p2, .ref tw]) = G4 at s14 d4 g1 g2 g3 g4 ⊢
  refine ⟨d, pl, _, _, _, _, rfl, d4, nl, sqL_of g4, (by show 0 < 3; decide), (by show 3 < 1000; decide), fun i v x' y' z' hv => ?_⟩
  have el : ∀ {G : Hp}, ∀ x ∈ zs.map V.str, El G x := fun {G} => el_strs zo.len
  have elt : ∀ {G : Hp} (j : Nat), ∀ x ∈ (zs.take j).map V.str, El G x := fun {G} j => el_strs fun z hz => zo.len z (List.mem_of_mem_take hz)
  have bg : ∃ o, BgF K d v o G4 := by
    match i, hv with
    | 0, hv =>
      cases hv
      refine ⟨some ((zs.take 1).map V.str), fun xs e => ?_, (fu_obj g1 n1 fun ps e => by cases e).imp fun G h => ob_lst h (elt 1) ?_⟩
      · cases e; rw [List.length_map, List.length_take]; omega
      · rw [List.length_map, List.length_take]; omega
    | 1, hv =>
      cases hv
      refine ⟨some ((zs.take 2).map V.str), fun xs e => ?_, (fu_obj g2 n2 fun ps e => by cases e).imp fun G h => ob_lst h (elt 2) ?_⟩
      · cases e; rw [List.length_map, List.length_take]; omega
      · rw [List.length_map, List.length_take]; omega
    | 2, hv =>
      cases hv
      have l7 := zo.l7
      refine ⟨some (zs.map V.str), fun xs e => ?_, fun G f => ob_tup (sqT_fr d4 f g3) el ?_⟩
      · cases e; rw [List.length_map]; exact l7
      · rw [List.length_map]; omega
  obtain ⟨o, bg⟩ := bg
  have b5 : But d G4 (upd G4 d (dr x' y' z')) := But.upd
  have d5 : upd G4 d (dr x' y' z') d = some (dr x' y' z') := upd_same
  generalize upd G4 d (dr x' y' z') = G5 at b5 d5 ⊢
  refine ⟨(by show 0 ≤ sizeLine; decide), fun vl hvl => ?_⟩
  have s6 := same_new (o := .lst []) hvl
  refine ⟨(by show 3 ≤ sizeLine; decide), fun tp htp => ?_⟩
  have s7 := same_new (o := .tup [v, .ref vl, .str "lying"]) htp
  refine ⟨tp, _, rfl, .inl (.inl upd_same), rfl, _, _, rfl, _, _, rfl, _, _, rfl, rfl, ?_⟩
  have s67 := s6.trans s7
  have f45 : Fr d G4 (upd (upd G5 vl (.lst [])) tp (.tup [v, .ref vl, .str "lying"])) := (Fr.but b5).trans (Fr.same s67)
  have f05 : Fr d H (upd (upd G5 vl (.lst [])) tp (.tup [v, .ref vl, .str "lying"])) := (Fr.same s14).trans f45
  refine k _ _ ⟨d, z, l, rl, zs, as, rs, R, fb, v, o, .ref vl, .str "lying", .str "lying", du, ⟨?_, sp.go f05, ln.go f05, rf.go f05, hfb, bg.go f45, ?_, Fu.all fun G => kd_word _ (by decide +kernel)⟩, hdu.go f05, v1, v11, v12, v13, rfl⟩
  · exact ((ig.same s14).but b5 ⟨_, _, _, d5⟩).same s67
  · exact Fu.same ((fu_new ⟨_, _, _, d5⟩ hvl fun ps e => by cases e).imp fun G h => .nilL h) s7
end
end Mv
/-! the law, statements 6 and 7 -/
namespace Mv
open PySem PySem.Spec PyProof.Rows L2 LamX
/-- whether the next number is 0 -/
def tDz : TT := fun σ H Q => ∃ d x y z, σ[2]? = some (some (.ref d)) ∧ H d = some (dr x y z) ∧ ∀ b x' y' z', Q b (upd H d (dr x' y' z'))
theorem dz_imp {m : Int} (h0 : 0 < m) (h1 : m < 1000) (σ : L2.St) (H : Hp) (Q : Bool → Hp → Prop) (h : tDz σ H Q) : tCall spDraw [] E0 (tCons (tVar 2) (tCons (tC (.int m)) tNil)) σ H fun v H' => ∃ i, v = .int i ∧ Q (decide (V.int i = V.int 0)) H' := by
  obtain ⟨d, x, y, z, e, hd, k⟩ := h
  exact ⟨_, e, d, m, x, y, z, rfl, hd, h0, h1, fun r x' y' z' _ _ => ⟨r, rfl, k _ x' y' z'⟩⟩
section
variable {P : Program} {w : World} {K : PySem.W.Frag} {mg : Str → Option Value} {base : Heap} {C CF CC CN CB CR CS CW CK CP CG CU CQ CL fI fS g fE fN fH : Addr} {fdI fdS fdg : FuncData} {P1 P2 c f : Addr} {A : Around} {outer : List Env} {s : Shared} {H0 : Hp} {E0' : XK} {a : Addr} {ns : List Int}
def KDS : List PyData := [.str "silent", .str "stopping", .str "late", .none, .int 5, .list [.str "lying"], .bool true]
theorem kds_ok : ∀ d ∈ KDS, SeqAt.shaped d = true := by decide +kernel
theorem ho_6 (F : LF P w K mg base C CF CC CN CB CR CS CW CK CP CG CU CQ CL fI fS g fE fN fH fdI fdS fdg) (hr : Room 14 (LX P w K mg base f c A outer s H0 E0').A) : Ho (LX P w K mg base f c A outer s H0 E0') (stAt oB 6) (D5 K CR CC P1 P2 a ns) (D5 K CR CC P1 P2 a ns) := by
  refine ⟨_, ps_if (pt_cmpR op_eq (pe_d (E := E0) F.draw hr (by decide) rfl pass0 (pa_cons (pv 2) (pa_cons pe_int pa_nil))) pe_int (nomark _))
    (pss_one (ps_set (i := 10) scLa.nd rfl (.inr rfl) (pe_d (E := E0) F.pick hr (by decide) rfl pass0 (pa_cons (pv 2) (pa_cons (pe_lst (pa_cons pe_str (pa_cons pe_str (pa_cons pe_str (pa_cons pe_non (pa_cons pe_int (pa_cons (pe_lst (pa_cons pe_str pa_nil)) (pa_cons pe_bl pa_nil)))))))) pa_nil))))) pss_nil, ?_⟩
  rintro D σ H ⟨d, z, l, rl, zs, as, rs, R, fb, bv, ob, vv, kv, kd, du, al, hdu, v1, v11, v12, v13, rfl⟩ k
  obtain ⟨x0, y0, u0, hd⟩ := al.ig.2.2
  refine ⟨_, rfl, d, 5, x0, y0, u0, rfl, hd, by decide, by decide, fun r x1 y1 u1 r0 r1 => ?_⟩
  have b1 : But d H (upd H d (dr x1 y1 u1)) := But.upd
  have hd1 : upd H d (dr x1 y1 u1) d = some (dr x1 y1 u1) := upd_same
  have al1 := al.but b1 ⟨_, _, _, hd1⟩
  have hdu1 := hdu.but b1
  generalize upd H d (dr x1 y1 u1) = G at al1 hdu1 hd1 ⊢
  refine ⟨rfl, _, rfl, ?_⟩
  by_cases h : V.int r = V.int 0
  rotate_left
  · refine ifF (decide_eq_false h) ?_
    exact k _ _ ⟨d, z, l, rl, zs, as, rs, R, fb, bv, ob, vv, kv, kd, du, al1, hdu1, v1, v11, v12, v13, rfl⟩
  refine ifT (decide_eq_true h) ?_
  refine ⟨_, rfl, (by show 1 ≤ sizeLine; decide), fun p hp => ⟨(by show 7 ≤ sizeLine; decide), fun q hq => ?_⟩⟩
  have s1 := same_new (o := .lst [V.str "lying"]) hp
  have s2 := same_new (o := .lst [V.str "silent", .str "stopping", .str "late", .non, .int 5, .ref p, .bl true]) hq
  have hd3 := (s1.trans s2) _ _ hd1
  have np : p ≠ d := (ne_of_none hd1 hp).symm
  have nq : q ≠ d := (ne_of_none (s1 _ _ hd1) hq).symm
  have gp := s2 _ _ (upd_same (H := G) (a := p) (o := .lst [V.str "lying"]))
  refine ⟨d, q, _, _, _, _, rfl, hd3, nq, sqL_of upd_same, (by show 0 < 7; decide), (by show 7 < 1000; decide), fun i v x' y' z' hv => ?_⟩
  have al3 := (al1.same (s1.trans s2)).but (But.upd (o := dr x' y' z')) ⟨_, _, _, upd_same⟩
  have hdu3 := (hdu1.same (s1.trans s2)).but (But.upd (d := d) (o := dr x' y' z'))
  have gp3 : upd (upd (upd G p (.lst [V.str "lying"])) q (.lst [V.str "silent", .str "stopping", .str "late", .non, .int 5, .ref p, .bl true])) d (dr x' y' z') p = some (.lst [V.str "lying"]) := by rw [upd_ne np]; exact gp
  generalize upd (upd (upd G p (.lst [V.str "lying"])) q (.lst [V.str "silent", .str "stopping", .str "late", .non, .int 5, .ref p, .bl true])) d (dr x' y' z') = G3 at al3 hdu3 gp3 ⊢
  have kdv : ∃ dd, Fu d (KdV K v dd) G3 := by
    match i, hv with
    | 0, hv => cases hv; exact ⟨.str "silent", Fu.all fun G => ⟨⟨fun H' _ => .str _, kds_ok _ (by simp [KDS])⟩, .str _ _⟩⟩
    | 1, hv => cases hv; exact ⟨.str "stopping", Fu.all fun G => ⟨⟨fun H' _ => .str _, kds_ok _ (by simp [KDS])⟩, .str _ _⟩⟩
    | 2, hv => cases hv; exact ⟨.str "late", Fu.all fun G => ⟨⟨fun H' _ => .str _, kds_ok _ (by simp [KDS])⟩, .str _ _⟩⟩
    | 3, hv => cases hv; exact ⟨.none, Fu.all fun G => ⟨⟨fun H' _ => .non, kds_ok _ (by simp [KDS])⟩, .non _⟩⟩
    | 4, hv => cases hv; exact ⟨.int 5, Fu.all fun G => ⟨⟨fun H' _ => .int _, kds_ok _ (by simp [KDS])⟩, .int _ _⟩⟩
    | 5, hv =>
      cases hv
      exact ⟨.list [.str "lying"], (fu_obj gp3 np fun ps e => by cases e).imp fun G h => ⟨⟨fun H' s => .lst (sqL_of (s _ _ h)) (.cons (.str _) .nil), kds_ok _ (by simp [KDS])⟩, .lst (sqL_of h) (sqL_of h) rfl (by show 1 ≤ 1000; decide) (fun i x y e1 e2 => by
        rw [e1] at e2
        cases e2
        rw [List.mem_singleton.mp (List.mem_of_getElem? e1)]
        exact .str _ _)⟩⟩
    | 6, hv => cases hv; exact ⟨.bool true, Fu.all fun G => ⟨⟨fun H' _ => .bl _, kds_ok _ (by simp [KDS])⟩, .bl _ _⟩⟩
  obtain ⟨dd, kdv⟩ := kdv
  exact k _ _ ⟨d, z, l, rl, zs, as, rs, R, fb, bv, ob, vv, v, dd, du, ⟨al3.ig, al3.sp, al3.ln, al3.rl, al3.fb, al3.bg, al3.vw, kdv⟩, hdu3, v1, v11, v12, v13, rfl⟩
def D7 (K : PySem.W.Frag) (CR CC P1 P2 a : Addr) (ns : List Int) (σ : L2.St) (H : Hp) : Prop := ∃ d z l rl zs as rs R fb bv ob vv kv kd du, All K CR CC P1 P2 a ns d z l rl zs as rs R fb bv ob vv none kv kd H ∧ Fu d (DuV du (due1 (fauB kd) kv)) H ∧
  ∃ v1 v11 v12 v13, σ = sl14 a d z l rl du (fbV fb) bv vv kv v1 v11 v12 v13
theorem ho_7 (F : LF P w K mg base C CF CC CN CB CR CS CW CK CP CG CU CQ CL fI fS g fE fN fH fdI fdS fdg) (hr : Room 14 (LX P w K mg base f c A outer s H0 E0').A) : Ho (LX P w K mg base f c A outer s H0 E0') (stAt oB 7) (D5 K CR CC P1 P2 a ns) (D7 K CR CC P1 P2 a ns) := by
  refine ⟨_, ps_if (pt_cmpR (op_notInT (show (LX P w K mg base f c A outer s H0 E0').A.units + 65 < cLine from by have := hr.un; omega)) (pv 10) (pe_tup (pa_cons pe_str (pa_cons pe_str (pa_cons pe_str pa_nil)))) (by with_unfolding_all rfl))
    (pss_one (ps_set (i := 6) scLa.nd rfl (.inl rfl) (pe_tup (pa_cons pe_str (pa_cons (pv 10) pa_nil))))) pss_nil, ?_⟩
  rintro D σ H ⟨d, z, l, rl, zs, as, rs, R, fb, bv, ob, vv, kv, kd, du, al, hdu, v1, v11, v12, v13, rfl⟩ k
  refine ⟨_, rfl, (by show 3 ≤ sizeLine; decide), fun p hp => ?_⟩
  have s1 := same_new (o := .tup [V.str "lying", .str "silent", .str "stopping"]) hp
  obtain ⟨⟨k1, k2⟩, k3⟩ := al.kd.now
  have al1 := al.same s1
  have hdu1 := hdu.same s1
  have dF : Dp K (upd H p (.tup [V.str "lying", .str "silent", .str "stopping"])) (.ref p) (.tuple FAU) := .tup (sqT_of upd_same) (.cons (.str _) (.cons (.str _) (.cons (.str _) .nil)))
  refine ⟨kd, FAU, k1 _ s1, dF, k2, (by decide +kernel), _, rfl, ?_⟩
  cases e : fauB kd with
  | true =>
    refine ifF (by show (!fauB kd) = false; rw [e]; rfl) ?_
    exact k _ _ ⟨d, z, l, rl, zs, as, rs, R, fb, bv, ob, vv, kv, kd, du, al1, (by rw [e]; exact hdu1), v1, v11, v12, v13, rfl⟩
  | false =>
    refine ifT (by show (!fauB kd) = true; rw [e]; rfl) ?_
    refine ⟨_, rfl, (by show 2 ≤ sizeLine; decide), fun q hq => ?_⟩
    have s2 := same_new (o := .tup [V.str "faults", kv]) hq
    exact k _ _ ⟨d, z, l, rl, zs, as, rs, R, fb, bv, ob, vv, kv, kd, .ref q, al1.same s2, (by rw [e]; exact du_new (t := ("faults", kv)) al1.ig.2.2 hq), v1, v11, v12, v13, rfl⟩
end
end Mv
/-! the law, statements 8 and 9 -/
namespace Mv
open PySem PySem.Spec PyProof.Rows L2 LamX
abbrev mPs : Prs := divP [(["n"], 1), (["t"], -1)] (gI [(["n"], 1), (["t"], -1)])
theorem okQ2 : okB [(["n"], 1)] [(["t"], 1)] [(["n"], 1), (["t"], -1)] (0 - 0) 0 = true := by decide +kernel
theorem mps_ok : isP mPs = true ∧ (∀ q ∈ mPs, q.1 ≠ []) ∧ mPs.length ≤ 900 := by decide +kernel
abbrev aRs (z : Str) : Prs := [((["at", z] : Term), (1 : Int))]
abbrev aPs (z : Str) : Prs := divP (aRs z) (gI (aRs z))
theorem okA : ∀ z ∈ MENU, okB (aRs z) [] (aRs z) (0 - 1) 0 = true := by decide +kernel
theorem aps_ok : ∀ z ∈ MENU, isP (aPs z) = false ∧ (∀ q ∈ aPs z, q.1 ≠ []) ∧ (aPs z).length ≤ 900 := by decide +kernel
theorem pairs_fr {K : PySem.W.Frag} {H H' : Hp} {d : Addr} {x y z : Int} {as : List Addr} {ps : Prs} (hd : H d = some (dr x y z)) (f : Fr d H H') (h : Paired (PairAt K H) as ps) : Paired (PairAt K H') as ps :=
  L2.Paired.mapP h fun _ _ ⟨c, g1, g2⟩ => ⟨c, sqT_fr hd f g1, f _ _ g2 (fun e => by unfold TermAt at g2; rw [e, hd] at g2; unfold dr at g2; cases g2) fun ps z => by cases z⟩
theorem cmp_fr {K : PySem.W.Frag} {CC p : Addr} {H H' : Hp} {d : Addr} {x y z : Int} {ps : Prs} {r : Int} (hd : H d = some (dr x y z)) (f : Fr d H H') (h : CmpAt K CC H p ps r) : CmpAt K CC H' p ps r := by
  obtain ⟨dx, tp, as, e1, e2, e3⟩ := h.ob
  exact ⟨dx, tp, as, f _ _ e1 (fun e => by rw [e, hd] at e1; unfold dr at e1; cases e1) (fun ps z => by cases z), sqT_fr hd f e2, pairs_fr hd f e3⟩
section
variable {P : Program} {w : World} {K : PySem.W.Frag} {mg : Str → Option Value} {base : Heap} {C CF CC CN CB CR CS CW CK CP CG CU CQ CL fI fS g fE fN fH : Addr} {fdI fdS fdg : FuncData} {P1 P2 c f : Addr} {A : Around} {outer : List Env} {s : Shared} {H0 : Hp} {E0' : XK} {a : Addr} {ns : List Int}
def D8 (K : PySem.W.Frag) (CR CC P1 P2 a : Addr) (ns : List Int) (σ : L2.St) (H : Hp) : Prop := ∃ d z l rl zs as rs R fb bv ob vv vw kv kd du, All K CR CC P1 P2 a ns d z l rl zs as rs R fb bv ob vv vw kv kd H ∧ Fu d (DuV du (due1 (fauB kd) kv)) H ∧
  ∃ v1 v11 v12 v13, σ = sl14 a d z l rl du (fbV fb) bv vv kv v1 v11 v12 v13
theorem ho_8 (F : LF P w K mg base C CF CC CN CB CR CS CW CK CP CG CU CQ CL fI fS g fE fN fH fdI fdS fdg) (hr : Room 14 (LX P w K mg base f c A outer s H0 E0').A) : Ho (LX P w K mg base f c A outer s H0 E0') (stAt oB 8) (D7 K CR CC P1 P2 a ns) (D8 K CR CC P1 P2 a ns) := by
  refine ⟨_, ps_if (pt_cmpR op_eq (pe_d (E := E0) F.draw hr (by decide) rfl pass0 (pa_cons (pv 2) (pa_cons pe_int pa_nil))) pe_int (nomark _))
    (pss_one (ps_set (i := 9) scLa.nd rfl (.inr rfl) (pe_d (E := E0) F.pick hr (by decide) rfl pass0 (pa_cons (pv 2) (pa_cons (pe_lst (pa_cons pe_non (pa_cons (pe_lst (pa_cons pe_int pa_nil)) (pa_cons (pe_lst (pa_cons (pe_atl F.atl hr (by decide) rfl (pa_cons (pe_asF (pe_cst F.mem hr (by decide) rfl)) (pa_cons (pe_asF (pe_cst F.bnd hr (by decide) rfl)) pa_nil)) okQ2)
      (pa_cons (pe_d (E := E0) F.atl hr (by decide) rfl passX (pa_cons (pe_d (E := E0) F.att hr (by decide) rfl passX (pa_cons (pe_ix ix_list (pv 3) pe_int (fun _ _ => rfl)) pa_nil)) (pa_cons pe_int pa_nil))) pa_nil))) (pa_cons (pe_tup pa_nil) pa_nil))))) pa_nil))))) pss_nil, ?_⟩
  rintro D σ H ⟨d, z, l, rl, zs, as, rs, R, fb, bv, ob, vv, kv, kd, du, al, hdu, v1, v11, v12, v13, rfl⟩ k
  obtain ⟨x0, y0, u0, hd⟩ := al.ig.2.2
  refine ⟨_, rfl, d, 5, x0, y0, u0, rfl, hd, by decide, by decide, fun r x1 y1 u1 r0 r1 => ?_⟩
  have b1 : But d H (upd H d (dr x1 y1 u1)) := But.upd
  have hd1 : upd H d (dr x1 y1 u1) d = some (dr x1 y1 u1) := upd_same
  have al1 := al.but b1 ⟨_, _, _, hd1⟩
  have hdu1 := hdu.but b1
  generalize upd H d (dr x1 y1 u1) = G at al1 hdu1 hd1 ⊢
  refine ⟨rfl, _, rfl, ?_⟩
  by_cases h : V.int r = V.int 0
  rotate_left
  · refine ifF (decide_eq_false h) ?_
    exact k _ _ ⟨d, z, l, rl, zs, as, rs, R, fb, bv, ob, vv, none, kv, kd, du, al1, hdu1, v1, v11, v12, v13, rfl⟩
  refine ifT (decide_eq_true h) ?_
  have zo := al1.sp.ok
  obtain ⟨z0, hz0⟩ : ∃ z0, zs[0]? = some z0 := ⟨_, List.getElem?_eq_getElem (by have := zo.l2; omega)⟩
  have m0 := zo.m z0 (List.mem_of_getElem? hz0)
  have w0 := zo.w (List.mem_of_getElem? hz0)
  refine ⟨_, rfl, (by show 1 ≤ sizeLine; decide), fun p5 hp5 => ?_⟩
  have s1 := same_new (o := .lst [V.int 5]) hp5
  have n5 : p5 ≠ d := (ne_of_none hd1 hp5).symm
  have g5 : upd G p5 (.lst [V.int 5]) p5 = some (.lst [V.int 5]) := upd_same
  generalize upd G p5 (.lst [V.int 5]) = G1 at s1 g5 ⊢
  intro c1 G2 s2 nc1 hc1
  have al2 := al1.same (s1.trans s2)
  refine ⟨_, rfl, z, _, 0, _, rfl, rfl, sqL_of al2.sp.h.now, atI_nat (j := 0) (by rw [List.getElem?_map, hz0]; rfl), ?_⟩
  refine ⟨_, rfl, kn_w w0.2.1, fun y e _ pf G3 s3 nf hf => ?_, fun e => ?_⟩
  rotate_left
  · have e2 : isWS z0 = false := e
    rw [w0.1] at e2
    cases e2
  cases e
  refine cmp2_of (ps := aRs z0) (qs := []) (rs := aRs z0) (r := 0) (r2 := 1) (.inl ⟨pf, rfl, hf⟩) (.inr ⟨rfl, rfl⟩) (okA z0 m0) fun c2 G4 s4 nc2 hc2 => ?_
  refine ⟨(by show 2 ≤ sizeLine; decide), fun p2 hp2 => ?_⟩
  have s5 := same_new (o := .lst [V.ref c1, .ref c2]) hp2
  have s25 := s2.trans (s3.trans (s4.trans s5))
  have hd4 := (s1.trans (s2.trans (s3.trans s4))) _ _ hd1
  have n2 : p2 ≠ d := (ne_of_none hd4 hp2).symm
  have gp2 : upd G4 p2 (.lst [V.ref c1, .ref c2]) p2 = some (.lst [V.ref c1, .ref c2]) := upd_same
  have hc1' := hc1.same (s3.trans (s4.trans s5))
  have hc2' := hc2.same s5
  have g5' := s25 _ _ g5
  have s15 := s1.trans s25
  generalize upd G4 p2 (.lst [V.ref c1, .ref c2]) = G5 at s15 gp2 hc1' hc2' g5' ⊢
  refine ⟨(by show 0 ≤ sizeLine; decide), fun pt hpt => ?_⟩
  have s6 := same_new (o := .tup []) hpt
  have gpt : upd G5 pt (.tup []) pt = some (.tup []) := upd_same
  have npt : pt ≠ d := (ne_of_none (s15 _ _ hd1) hpt).symm
  refine ⟨(by show 4 ≤ sizeLine; decide), fun q hq => ?_⟩
  have s7 := same_new (o := .lst [.non, .ref p5, .ref p2, .ref pt]) hq
  have s67 := s6.trans s7
  have s17 := s15.trans s67
  have hd7 := s17 _ _ hd1
  have nq : q ≠ d := (ne_of_none ((s15.trans s6) _ _ hd1) hq).symm
  have gpt' := s7 _ _ gpt
  have gp2' := s67 _ _ gp2
  have g5'' := s67 _ _ g5'
  have hc1'' := hc1'.same s67
  have hc2'' := hc2'.same s67
  refine ⟨d, q, _, _, _, _, rfl, hd7, nq, sqL_of upd_same, (by show 0 < 4; decide), (by show 4 < 1000; decide), fun i v x' y' z' hv => ?_⟩
  have al7 := al1.same s17
  have hdu7 := hdu1.same s17
  generalize upd (upd G5 pt (.tup [])) q (.lst [.non, .ref p5, .ref p2, .ref pt]) = G7 at al7 hdu7 hd7 gpt' gp2' g5'' hc1'' hc2'' ⊢
  have vw : ∃ o, Fu d (VwV K CC v o) G7 := by
    match i, hv with
    | 0, hv => cases hv; exact ⟨some 0, Fu.all fun G => .non⟩
    | 1, hv => cases hv; exact ⟨some 0, (fu_obj g5'' n5 fun ps e => by cases e).imp fun G h => .five h⟩
    | 2, hv =>
      cases hv
      obtain ⟨a1, a2, a3⟩ := aps_ok z0 m0
      obtain ⟨b1, b2, b3⟩ := mps_ok
      exact ⟨some 1, fun G f => .two (f _ _ gp2' n2 fun ps e => by cases e) (cmp_fr hd7 f hc1'') (cmp_fr hd7 f hc2'') b1 a1 b2 a2 b3 a3⟩
    | 3, hv => cases hv; exact ⟨none, (fu_obj gpt' npt fun ps e => by cases e).imp fun G h => .nilT (sqT_of h)⟩
  obtain ⟨o, vw⟩ := vw
  have b8 : But d G7 (upd G7 d (dr x' y' z')) := But.upd
  have al8 := al7.but b8 ⟨_, _, _, upd_same⟩
  exact k _ _ ⟨d, z, l, rl, zs, as, rs, R, fb, bv, ob, v, o, kv, kd, du, ⟨al8.ig, al8.sp, al8.ln, al8.rl, al8.fb, al8.bg, vw.but b8, al8.kd⟩, hdu7.but b8, v1, v11, v12, v13, rfl⟩
end
end Mv
/-! the law, statement 9 -/
namespace Mv
open PySem PySem.Spec PyProof.Rows L2 LamX
section
variable {P : Program} {w : World} {K : PySem.W.Frag} {mg : Str → Option Value} {base : Heap} {C CF CC CN CB CR CS CW CK CP CG CU CQ CL fI fS g fE fN fH : Addr} {fdI fdS fdg : FuncData} {P1 P2 c f : Addr} {A : Around} {outer : List Env} {s : Shared} {H0 : Hp} {E0' : XK} {a : Addr} {ns : List Int}
def D9 (K : PySem.W.Frag) (CR CC P1 P2 a : Addr) (ns : List Int) (σ : L2.St) (H : Hp) : Prop := ∃ d z l rl zs as rs R fb bv ob vv vw kv kd du, All K CR CC P1 P2 a ns d z l rl zs as rs R fb bv ob vv vw kv kd H ∧ Fu d (DuV du (due2 vw (due1 (fauB kd) kv))) H ∧
  ∃ v1 v11 v12 v13, σ = sl14 a d z l rl du (fbV fb) bv vv kv v1 v11 v12 v13
theorem ho_9 (F : LF P w K mg base C CF CC CN CB CR CS CW CK CP CG CU CQ CL fI fS g fE fN fH fdI fdS fdg) (hr : Room 14 (LX P w K mg base f c A outer s H0 E0').A) : Ho (LX P w K mg base f c A outer s H0 E0') (stAt oB 9) (D8 K CR CC P1 P2 a ns) (D9 K CR CC P1 P2 a ns) := by
  refine ⟨_, ps_if (pt_cmpR (op_vow (show (LX P w K mg base f c A outer s H0 E0').A.units + 65 < cLine from by have := hr.un; omega)) (pv 9) (pe_tup (pa_cons (pe_lst pa_nil) (pa_cons (pe_tup pa_nil) pa_nil))) (by with_unfolding_all rfl))
    (pss_one (ps_set (i := 6) scLa.nd rfl (.inl rfl) (pe_tup (pa_cons pe_str (pa_cons (pe_ifExp (PW.pt (pw_and (pt_val (pe_callB call_isi (by rfl) F.isi (by decide +kernel) (pa_cons (pv 9) (pa_cons (pe_bltn (v := .ty "list") (by rfl) F.list (by decide +kernel) rfl) pa_nil))))
      (pw_and1 (pt_cmpR op_eq (pe_callB call_len_seq (by rfl) F.len PySem.boot_len (pa_cons (pv 9) pa_nil)) pe_int (nomark _))))) pe_int pe_int) pa_nil))))) pss_nil, ?_⟩
  rintro D σ H ⟨d, z, l, rl, zs, as, rs, R, fb, bv, ob, vv, vw, kv, kd, du, al, hdu, v1, v11, v12, v13, rfl⟩ k
  refine ⟨_, rfl, (by show 0 ≤ sizeLine; decide), fun l1 hl1 => ?_⟩
  have s1 := same_new (o := .lst []) hl1
  refine ⟨(by show 0 ≤ sizeLine; decide), fun t1 ht1 => ?_⟩
  have s2 := same_new (o := .tup []) ht1
  refine ⟨(by show 2 ≤ sizeLine; decide), fun t ht => ?_⟩
  have s3 := same_new (o := .tup [V.ref l1, .ref t1]) ht
  have sm := s1.trans (s2.trans s3)
  have g1 := (s2.trans s3) _ _ (upd_same (H := H) (a := l1) (o := .lst []))
  have g2 := s3 _ _ (upd_same (H := upd H l1 (.lst [])) (a := t1) (o := .tup []))
  have g3 : upd (upd (upd H l1 (.lst [])) t1 (.tup [])) t (.tup [V.ref l1, .ref t1]) t = some (.tup [V.ref l1, .ref t1]) := upd_same
  have al1 := al.same sm
  have hdu1 := hdu.same sm
  have vw0 := al.vw.now
  have vw1 := al1.vw.now
  generalize upd (upd (upd H l1 (.lst [])) t1 (.tup [])) t (.tup [V.ref l1, .ref t1]) = G at sm g1 g2 g3 al1 hdu1 vw1 ⊢
  refine ⟨t, l1, t1, rfl, sqT_of g3, sqL_of g1, sqT_of g2, ?_⟩
  have fin : ∀ (i : Nat) (q : Addr), G q = none → vw = some i → D.nx (sl14 a d z l rl (.ref q) (fbV fb) bv vv kv v1 v11 v12 v13) (upd G q (.tup [V.str "promise", .int i])) := fun i q hq e =>
    k _ _ ⟨d, z, l, rl, zs, as, rs, R, fb, bv, ob, vv, vw, kv, kd, .ref q, al1.same (same_new hq), (by rw [e]; exact du_new (t := ("promise", .int i)) al1.ig.2.2 hq), v1, v11, v12, v13, rfl⟩
  have no : vw = none → D.nx (sl14 a d z l rl du (fbV fb) bv vv kv v1 v11 v12 v13) G := fun e =>
    k _ _ ⟨d, z, l, rl, zs, as, rs, R, fb, bv, ob, vv, vw, kv, kd, du, al1, (by rw [e]; exact hdu1), v1, v11, v12, v13, rfl⟩
  cases vw0 with
  | @nilL av _ hv0 =>
    have nav : av ≠ l1 := ne_of_none hv0 hl1
    refine .inr (.inl ⟨av, [], rfl, nav, sqL_of (sm _ _ hv0), _, rfl, ?_⟩)
    refine ifF rfl ?_
    exact no rfl
  | @nilT av _ hv0 =>
    refine .inr (.inr ⟨av, rfl, same_sqT sm hv0, _, rfl, ?_⟩)
    refine ifF rfl ?_
    exact no rfl
  | non =>
    refine .inl ⟨rfl, _, rfl, ?_⟩
    refine ifT rfl ?_
    refine ⟨_, rfl, _, _, _, _, false, rfl, .ty "list", .base .non, kit_ty (by decide +kernel), false, rfl, ?_⟩
    refine iteF ?_
    refine iteF ?_
    exact ⟨(by show 2 ≤ sizeLine; decide), fun q hq => fin 0 q hq rfl⟩
  | @five av _ hv0 =>
    have nav : av ≠ l1 := ne_of_none hv0 hl1
    have hv1 := sm _ _ hv0
    refine .inr (.inl ⟨av, _, rfl, nav, sqL_of hv1, _, rfl, ?_⟩)
    refine ifT rfl ?_
    refine ⟨_, rfl, _, _, _, _, true, rfl, .ty "list", .base (.lst hv1), kit_ty (by decide +kernel), true, rfl, ?_⟩
    refine iteT ?_
    refine ⟨_, rfl, av, _, rfl, .inl (sqL_of hv1), rfl, _, rfl, ?_⟩
    refine ifF (by decide) ?_
    exact ⟨(by show 2 ≤ sizeLine; decide), fun q hq => fin 0 q hq rfl⟩
  | @two av p q0 ps qs c1 c2 _ hv0 hh1 hh2 b1 b2 n1 n2 l1' l2' =>
    have nav : av ≠ l1 := ne_of_none hv0 hl1
    have hv1 := sm _ _ hv0
    refine .inr (.inl ⟨av, _, rfl, nav, sqL_of hv1, _, rfl, ?_⟩)
    refine ifT rfl ?_
    refine ⟨_, rfl, _, _, _, _, true, rfl, .ty "list", .base (.lst hv1), kit_ty (by decide +kernel), true, rfl, ?_⟩
    refine iteT ?_
    refine ⟨_, rfl, av, _, rfl, .inl (sqL_of hv1), rfl, _, rfl, ?_⟩
    refine ifT (decide_eq_true rfl) ?_
    exact ⟨(by show 2 ≤ sizeLine; decide), fun q hq => fin 1 q hq rfl⟩
end
end Mv
/-! the law, statement 10: a thing among the rules -/
namespace Mv
open PySem PySem.Spec PyProof.Rows L2 LamX
theorem cut_drop {xs : List V} {i : Nat} (h : i ≤ xs.length) : cutV xs (some (i : Int)) none = xs.drop i := by
  unfold cutV
  rw [HT.sIx_nat, Nat.min_eq_left h]
  show (xs.drop i).take (xs.length - i) = _
  exact List.take_of_length_le (by rw [List.length_drop]; exact Nat.le_refl _)
section
variable {P : Program} {w : World} {K : PySem.W.Frag} {mg : Str → Option Value} {base : Heap} {C CF CC CN CB CR CS CW CK CP CG CU CQ CL fI fS g fE fN fH : Addr} {fdI fdS fdg : FuncData} {P1 P2 c f : Addr} {A : Around} {outer : List Env} {s : Shared} {H0 : Hp} {E0' : XK} {a : Addr} {ns : List Int}
/-- all that is there behind statement 10 -/
structure AlB (K : PySem.W.Frag) (CR CC P1 P2 a : Addr) (ns : List Int) (d z : Addr) (zs : List Str) (rv : V) (fb : Option Nat) (bv : V) (ob : Option (List V)) (vv : V) (vw : Option Nat) (kv : V) (kd : PyData) (H : Hp) : Prop where
  ig : IG K P1 P2 a d ns H
  sp : SpF d z zs H
  rw : Fu d (RwV K CR zs rv fb) H
  bg : BgF K d bv ob H
  vw : Fu d (VwV K CC vv vw) H
  kd : Fu d (KdV K kv kd) H
theorem AlB.but {CR CC P1 P2 a d z : Addr} {zs : List Str} {rv : V} {fb : Option Nat} {bv vv kv : V} {ob : Option (List V)} {vw : Option Nat} {kd : PyData} {H H' : Hp} (h : AlB K CR CC P1 P2 a ns d z zs rv fb bv ob vv vw kv kd H) (b : But d H H') (hd : ∃ x y z, H' d = some (dr x y z)) : AlB K CR CC P1 P2 a ns d z zs rv fb bv ob vv vw kv kd H' :=
  ⟨h.ig.but b hd, h.sp.go (Fr.but b), h.rw.but b, h.bg.go (Fr.but b), h.vw.but b, h.kd.but b⟩
theorem AlB.same {CR CC P1 P2 a d z : Addr} {zs : List Str} {rv : V} {fb : Option Nat} {bv vv kv : V} {ob : Option (List V)} {vw : Option Nat} {kd : PyData} {H H' : Hp} (h : AlB K CR CC P1 P2 a ns d z zs rv fb bv ob vv vw kv kd H) (s : Same H H') : AlB K CR CC P1 P2 a ns d z zs rv fb bv ob vv vw kv kd H' :=
  let ⟨x, y, u, hd⟩ := h.ig.2.2
  h.but (But.of s) ⟨x, y, u, s _ _ hd⟩
theorem AlB.ext {CR CC P1 P2 a d z : Addr} {zs : List Str} {rv : V} {fb : Option Nat} {bv vv kv : V} {ob : Option (List V)} {vw : Option Nat} {kd : PyData} {H H' : Hp} (h : AlB K CR CC P1 P2 a ns d z zs rv fb bv ob vv vw kv kd H) (e : ExtN H H') (t : Tabs (TT2 P1 P2) H') : AlB K CR CC P1 P2 a ns d z zs rv fb bv ob vv vw kv kd H' :=
  ⟨h.ig.ext e t, h.sp.go (Fr.ext e), h.rw.ext e, h.bg.go (Fr.ext e), h.vw.ext e, h.kd.ext e⟩
abbrev slb14 (a d z : Addr) (rv du fb bv vv kv : V) (v1 v4 v11 v12 v13 : Option V) : L2.St := [some (.ref a), v1, some (.ref d), some (.ref z), v4, some rv, some du, some fb, some bv, some vv, some kv, v11, v12, v13]
def D10 (K : PySem.W.Frag) (CR CC P1 P2 a : Addr) (ns : List Int) (σ : L2.St) (H : Hp) : Prop := ∃ d z zs rv fb bv ob vv vw kv kd du, AlB K CR CC P1 P2 a ns d z zs rv fb bv ob vv vw kv kd H ∧ Fu d (DuV du (due2 vw (due1 (fauB kd) kv))) H ∧
  ∃ v1 v4 v11 v12 v13, σ = slb14 a d z rv du (fbV fb) bv vv kv v1 v4 v11 v12 v13
theorem tru_rules {CR : Addr} {G : Hp} : ∀ {rs : List Addr} {R : List Ru}, Paired (RuAt K CR G) rs R → (∀ r ∈ R, r.ss.length ≤ 900) → Paired (TRu K CR G) (rs.map V.ref) (R.map some)
  | _, _, .nil, _ => .nil
  | _, _, .cons h t, l => .cons (.inl ⟨_, _, rfl, rfl, h, l _ List.mem_cons_self⟩) (tru_rules t fun r hr => l r (List.mem_cons_of_mem _ hr))
theorem pair_drop {α β : Type} {R : α → β → Prop} : ∀ {as : List α} {bs : List β}, Paired R as bs → ∀ i, Paired R (as.drop i) (bs.drop i)
  | _, _, h, 0 => h
  | _, _, .nil, _ + 1 => .nil
  | _, _, .cons _ t, i + 1 => pair_drop t i
theorem All.toB {CR CC P1 P2 a d z l rl : Addr} {zs : List Str} {as rs : List Addr} {R : List Ru} {fb : Option Nat} {bv vv kv : V} {ob : Option (List V)} {vw : Option Nat} {kd : PyData} {H : Hp} (h : All K CR CC P1 P2 a ns d z l rl zs as rs R fb bv ob vv vw kv kd H) : AlB K CR CC P1 P2 a ns d z zs (.ref rl) fb bv ob vv vw kv kd H := by
  refine ⟨h.ig, h.sp, h.rl.imp fun G ⟨g1, g2⟩ => .lst g1 (tru_rules g2 fun r hr => by have := (h.ln.ok r hr).l; omega) h.fb ?_, h.bg, h.vw, h.kd⟩
  rw [List.length_map, paired_n g2]
  have := h.ln.l9
  omega
theorem tru_odd {CR : Addr} (kr : ∀ T ∈ ["NoneType", "int", "str"], PySem.W.kitOne K (.type T) (.ref CR) = some false) {v : V} (h : v = .non ∨ v = .int 5 ∨ v = .str "ra") (G : Hp) : TRu K CR G v none := by
  rcases h with rfl | rfl | rfl
  · exact .inr ⟨rfl, fun H' _ => ⟨_, .base .non, kr _ (by simp)⟩⟩
  · exact .inr ⟨rfl, fun H' _ => ⟨_, .base (.int _), kr _ (by simp)⟩⟩
  · exact .inr ⟨rfl, fun H' _ => ⟨_, .base (.str _), kr _ (by simp)⟩⟩
/-- rules with another thing among them -/
theorem rw_among {CR : Addr} {G : Hp} {p : Addr} {rs : List Addr} {R : List Ru} {s : Nat} {v : V} {zs : List Str} {o : Option Nat} (kr : ∀ T ∈ ["NoneType", "int", "str"], PySem.W.kitOne K (.type T) (.ref CR) = some false) (hv : v = .non ∨ v = .int 5 ∨ v = .str "ra") (zo : ZOk zs) (hs : s ≤ R.length) (h8 : s ≤ 8) (l9 : R.length ≤ 9) (l1 : ∀ r ∈ R, r.ss.length ≤ 1)
    (h : G p = some (.lst (((rs.take s).map V.ref ++ [v]) ++ (rs.drop s).map V.ref))) (pr : Paired (RuAt K CR G) rs R) (fd : FirstDue zs (R.take s) o) : RwV K CR zs (.ref p) (some (o.getD s)) G := by
  have l9' : ∀ r ∈ R, r.ss.length ≤ 900 := fun r hr => by have := l1 r hr; omega
  have p1 : Paired (TRu K CR G) (((rs.take s).map V.ref ++ [v]) ++ (rs.drop s).map V.ref) ((((R.take s).map some) ++ [none]) ++ (R.drop s).map some) :=
    pairedApp (pairedApp (tru_rules (pair_take pr s) fun r hr => l9' r (List.mem_of_mem_take hr)) (.cons (tru_odd kr hv G) .nil)) (tru_rules (pair_drop pr s) fun r hr => l9' r (List.mem_of_mem_drop hr))
  have lt : ((R.take s).map some).length = s := by rw [List.length_map, List.length_take]; omega
  have fc : FirstBad zs ((((R.take s).map some) ++ [none]) ++ (R.drop s).map some) (some (o.getD s)) := by
    have q := first_cut (os := (((R.take s).map some) ++ [none]) ++ (R.drop s).map some) zo.nd (by have := zo.l7; omega) hs h8 ?_ ?_ fd
    · cases o <;> exact q
    · rw [List.append_assoc, List.take_append_of_le_length (by rw [lt]; exact Nat.le_refl _), List.map_take, List.take_take, Nat.min_self]
    · rw [List.append_assoc, List.getElem?_append_right (by rw [lt]; exact Nat.le_refl _), lt, Nat.sub_self]
      rfl
  refine .lst h p1 fc ?_
  have := paired_n pr
  simp only [List.length_append, List.length_map, List.length_take, List.length_drop, List.length_cons, List.length_nil]
  omega
theorem ho_10 (F : LF P w K mg base C CF CC CN CB CR CS CW CK CP CG CU CQ CL fI fS g fE fN fH fdI fdS fdg) (hr : Room 14 (LX P w K mg base f c A outer s H0 E0').A) : Ho (LX P w K mg base f c A outer s H0 E0') (stAt oB 10) (D9 K CR CC P1 P2 a ns) (D10 K CR CC P1 P2 a ns) := by
  refine ⟨_, ps_if (pt_cmpR op_eq (pe_d (E := E0) F.draw hr (by decide) rfl pass0 (pa_cons (pv 2) (pa_cons pe_int pa_nil))) pe_int (nomark _))
    (pss_cons (ps_set (i := 11) scLa.nd rfl (.inl rfl) (pe_d (E := E0) F.draw hr (by decide) rfl pass0 (pa_cons (pv 2) (pa_cons (pe_op op_add (pe_callB (call_min2 rfl) (by rfl) F.min (by decide +kernel) (pa_cons pe_int (pa_cons (pe_callB call_len_seq (by rfl) F.len PySem.boot_len (pa_cons (pv 5) pa_nil)) pa_nil))) pe_int) pa_nil))))
    (pss_cons (ps_set (i := 5) scLa.nd rfl (.inl rfl) (pe_op op_cat (pe_op op_cat (pe_slice sl_list (pv 5) po_none (po_some (pv 11))) (pe_lst (pa_cons (pe_d (E := E0) F.pick hr (by decide) rfl pass0 (pa_cons (pv 2) (pa_cons (pe_lst (pa_cons pe_non (pa_cons pe_int (pa_cons pe_str pa_nil)))) pa_nil))) pa_nil))) (pe_slice sl_list (pv 5) (po_some (pv 11)) po_none)))
    (pss_cons (ps_set (i := 7) scLa.nd rfl (.inl rfl) (pe_d (E := E0) F.due hr (by decide) rfl pass0 (pa_cons (pv 3) (pa_cons (pe_slice sl_list (pv 4) po_none (po_some (pv 11))) pa_nil))))
    (pss_one (ps_set (i := 7) scLa.nd rfl (.inl rfl) (pe_ifExp (pt_cmp (pc_isN (pv 7))) (pv 11) (pv 7))))))) pss_nil, ?_⟩
  rintro D σ H ⟨d, z, l, rl, zs, as, rs, R, fb, bv, ob, vv, vw, kv, kd, du, al, hdu, v1, v11, v12, v13, rfl⟩ k
  obtain ⟨x0, y0, u0, hd⟩ := al.ig.2.2
  refine ⟨_, rfl, d, 8, x0, y0, u0, rfl, hd, by decide, by decide, fun r x1 y1 u1 r0 r1 => ?_⟩
  have b1 : But d H (upd H d (dr x1 y1 u1)) := But.upd
  have hd1 : upd H d (dr x1 y1 u1) d = some (dr x1 y1 u1) := upd_same
  have al1 := al.but b1 ⟨_, _, _, hd1⟩
  have hdu1 := hdu.but b1
  generalize upd H d (dr x1 y1 u1) = G at al1 hdu1 hd1 ⊢
  refine ⟨rfl, _, rfl, ?_⟩
  by_cases h : V.int r = V.int 0
  rotate_left
  · refine ifF (decide_eq_false h) ?_
    exact k _ _ ⟨d, z, zs, _, fb, bv, ob, vv, vw, kv, kd, du, al1.toB, hdu1, v1, _, v11, v12, v13, rfl⟩
  refine ifT (decide_eq_true h) ?_
  obtain ⟨hrl, prr⟩ := al1.rl.now
  have lrs := paired_n prr
  have l9 := al1.ln.l9
  have zo := al1.sp.ok
  refine ⟨_, rfl, _, rfl, rl, _, rfl, .inl (sqL_of hrl), 8, _, rfl, ?_⟩
  rw [List.length_map, lrs]
  obtain ⟨m, em, m8, mR⟩ : ∃ m : Nat, (if (R.length : Int) < 8 then (R.length : Int) else 8) = m ∧ m ≤ 8 ∧ m ≤ R.length := by
    by_cases c8 : (R.length : Int) < 8
    · exact ⟨R.length, by rw [if_pos c8], by omega, Nat.le_refl _⟩
    · exact ⟨8, by rw [if_neg c8]; rfl, Nat.le_refl _, by omega⟩
  rw [em]
  refine ⟨_, 1, rfl, rfl, d, _, _, _, _, rfl, hd1, by omega, by omega, fun t x2 y2 u2 t0 t1 => ?_⟩
  have b2 : But d G (upd G d (dr x2 y2 u2)) := But.upd
  have hd2 : upd G d (dr x2 y2 u2) d = some (dr x2 y2 u2) := upd_same
  have al2 := al1.but b2 ⟨_, _, _, hd2⟩
  have hdu2 := hdu1.but b2
  generalize upd G d (dr x2 y2 u2) = G2 at al2 hdu2 hd2 ⊢
  obtain ⟨n, rfl⟩ : ∃ n : Nat, t = (n : Int) := ⟨t.toNat, (Int.toNat_of_nonneg t0).symm⟩
  have n8 : n ≤ 8 := by omega
  have nR : n ≤ R.length := by omega
  clear t1 t0 em m8 mR hrl prr
  obtain ⟨hrl, prr⟩ := al2.rl.now
  -- the rules, anew
  refine ⟨_, rfl, _, rfl, _, rfl, rl, _, rfl, sqL_of hrl, fun p1 hp1 => ?_⟩
  rw [cut_take (i := n) (by rw [List.length_map, lrs]; exact nR)]
  rw [← List.map_take]
  have s1 := same_new (o := .lst ((rs.take n).map V.ref)) hp1
  have hdp1 := s1 _ _ hd2
  have n1 : p1 ≠ d := (ne_of_none hd2 hp1).symm
  have g1 : upd G2 p1 (.lst ((rs.take n).map V.ref)) p1 = some (.lst ((rs.take n).map V.ref)) := upd_same
  have al3 := al2.same s1
  have hdu3 := hdu2.same s1
  generalize upd G2 p1 (.lst ((rs.take n).map V.ref)) = G3 at al3 hdu3 hdp1 g1 ⊢
  refine ⟨_, rfl, (by show 3 ≤ sizeLine; decide), fun q hq => ?_⟩
  have s2 := same_new (o := .lst [.non, .int 5, .str "ra"]) hq
  have nq : q ≠ d := (ne_of_none hdp1 hq).symm
  refine ⟨d, q, _, _, _, _, rfl, s2 _ _ hdp1, nq, sqL_of upd_same, (by show 0 < 3; decide), (by show 3 < 1000; decide), fun i v x' y' z' hv => ?_⟩
  have vOk : v = .non ∨ v = .int 5 ∨ v = .str "ra" := by
    match i, hv with
    | 0, hv => cases hv; exact .inl rfl
    | 1, hv => cases hv; exact .inr (.inl rfl)
    | 2, hv => cases hv; exact .inr (.inr rfl)
  have b3 : But d G3 (upd (upd G3 q (.lst [.non, .int 5, .str "ra"])) d (dr x' y' z')) := (But.of s2).trans But.upd
  have hd4 : upd (upd G3 q (.lst [.non, .int 5, .str "ra"])) d (dr x' y' z') d = some (dr x' y' z') := upd_same
  have al4 := al3.but b3 ⟨_, _, _, hd4⟩
  have hdu4 := hdu3.but b3
  have g14 := b3 _ _ g1 n1
  generalize upd (upd G3 q (.lst [.non, .int 5, .str "ra"])) d (dr x' y' z') = G4 at al4 hdu4 hd4 g14 ⊢
  refine ⟨(by show 1 ≤ sizeLine; decide), fun b hb => ?_⟩
  have s5 := same_new (o := .lst [v]) hb
  have sz : ((rs.take n).map V.ref).length + 1 ≤ sizeLine := by
    rw [List.length_map, List.length_take]
    have := small1000 (n := 20) (by omega)
    omega
  refine ⟨p1, b, _, _, rfl, rfl, s5 _ _ g14, upd_same, sz, fun p2 hp2 => ?_⟩
  have s6 := same_new (o := .lst ((rs.take n).map V.ref ++ [v])) hp2
  have g2 : upd (upd G4 b (.lst [v])) p2 (.lst ((rs.take n).map V.ref ++ [v])) p2 = some (.lst ((rs.take n).map V.ref ++ [v])) := upd_same
  have al6 := al4.same (s5.trans s6)
  have hdu6 := hdu4.same (s5.trans s6)
  have hd6 := (s5.trans s6) _ _ hd4
  generalize upd (upd G4 b (.lst [v])) p2 (.lst ((rs.take n).map V.ref ++ [v])) = G6 at al6 hdu6 g2 hd6 ⊢
  refine ⟨_, rfl, _, rfl, _, rfl, rl, _, rfl, sqL_of al6.rl.now.1, fun p3 hp3 => ?_⟩
  rw [cut_drop (i := n) (by rw [List.length_map, lrs]; exact nR), ← List.map_drop]
  have s7 := same_new (o := .lst ((rs.drop n).map V.ref)) hp3
  have sz2 : ((rs.take n).map V.ref ++ [v]).length + ((rs.drop n).map V.ref).length ≤ sizeLine := by
    simp only [List.length_append, List.length_map, List.length_take, List.length_drop, List.length_cons, List.length_nil]
    have := small1000 (n := 30) (by omega)
    omega
  refine ⟨p2, p3, _, _, rfl, rfl, s7 _ _ g2, upd_same, sz2, fun pn hpn => ?_⟩
  have s8 := same_new (o := .lst (((rs.take n).map V.ref ++ [v]) ++ (rs.drop n).map V.ref)) hpn
  have nn : pn ≠ d := (ne_of_none (s7 _ _ hd6) hpn).symm
  have al8 := al6.same (s7.trans s8)
  have hdu8 := hdu6.same (s7.trans s8)
  have g8 : upd (upd G6 p3 (.lst ((rs.drop n).map V.ref))) pn (.lst (((rs.take n).map V.ref ++ [v]) ++ (rs.drop n).map V.ref)) pn = some (.lst (((rs.take n).map V.ref ++ [v]) ++ (rs.drop n).map V.ref)) := upd_same
  show (tSeq _ _) _ _ (upd (upd G6 p3 (.lst ((rs.drop n).map V.ref))) pn (.lst (((rs.take n).map V.ref ++ [v]) ++ (rs.drop n).map V.ref)))
  generalize upd (upd G6 p3 (.lst ((rs.drop n).map V.ref))) pn (.lst (((rs.take n).map V.ref ++ [v]) ++ (rs.drop n).map V.ref)) = G8 at al8 hdu8 g8 ⊢
  -- the first bad one, anew
  obtain ⟨hl, prl⟩ := al8.ln.h.now
  have las := paired_n prl
  refine ⟨_, rfl, _, rfl, _, rfl, _, rfl, l, _, rfl, sqL_of hl, fun p4 hp4 => ?_⟩
  rw [cut_take (i := n) (by rw [List.length_map, las]; exact nR), ← List.map_take]
  have s9 := same_new (o := .lst ((as.take n).map V.ref)) hp4
  have al9 := al8.same s9
  have hdu9 := hdu8.same s9
  have g9 := s9 _ _ g8
  have fin : ∀ (o : Option Nat) (H' : Hp), Same (upd G8 p4 (.lst ((as.take n).map V.ref))) H' → FirstDue zs (R.take n) o → D.nx (slb14 a d z (.ref pn) du (fbV (some (o.getD n))) bv vv kv v1 (some (.ref l)) (some (.int n)) v12 v13) H' := fun o H' s10 h => by
    refine k _ _ ⟨d, z, zs, _, _, bv, ob, vv, vw, kv, kd, du, ⟨al9.ig.same s10, al9.sp.go (Fr.same s10), fun H2 f2 => ?_, al9.bg.go (Fr.same s10), al9.vw.same s10, al9.kd.same s10⟩, hdu9.same s10, v1, _, _, v12, v13, rfl⟩
    have f3 := (Fr.same s10).trans f2
    exact rw_among F.krr vOk zo nR n8 l9 (fun r hr => (al9.ln.ok r hr).l) (f3 _ _ g9 nn fun ps e => by cases e) (al9.rl H2 f3).2 h
  refine ⟨z, p4, zs, as.take n, R.take n, rfl, sqL_of al9.sp.h.now, zo.nd, (by have := zo.l7; omega), sqL_of upd_same, pair_take (al9.ln.h.now).2 n, (by rw [List.length_take]; omega), fun r hr => by have := (al9.ln.ok r (List.mem_of_mem_take hr)).l; omega, fun i hi hb hg H' s10 => ?_, fun hg H' s10 => ?_⟩
  · refine ⟨_, rfl, _, rfl, ?_⟩
    refine iteF ?_
    exact ⟨_, rfl, fin (some i) H' s10 ⟨hi, hb, hg⟩⟩
  · have e8 : ¬ (R.take n).length > 8 := by rw [List.length_take]; omega
    rw [if_neg e8]
    refine ⟨_, rfl, _, rfl, ?_⟩
    refine iteT ?_
    exact ⟨_, rfl, fin none H' s10 hg⟩
end
end Mv
/-! the law, statements 11 to 13 -/
namespace Mv
open PySem PySem.Spec PyProof.Rows L2 LamX
theorem pi_or {X : Cx} {tg e : Expr} {w1 w2 : TI} (h1 : PI X tg e w1) (h2 : PI X tg e w2) : PI X tg e (fun σ H R => w1 σ H R ∨ w2 σ H R) := ⟨fun pins s σ H R I h => h.elim (h1.run pins s σ H R I) (h2.run pins s σ H R I)⟩
section
variable {P : Program} {w : World} {K : PySem.W.Frag} {mg : Str → Option Value} {base : Heap} {C CF CC CN CB CR CS CW CK CP CG CU CQ CL fI fS g fE fN fH : Addr} {fdI fdS fdg : FuncData} {P1 P2 c f : Addr} {A : Around} {outer : List Env} {s : Shared} {H0 : Hp} {E0' : XK} {a : Addr} {ns : List Int}
theorem ho_11 (F : LF P w K mg base C CF CC CN CB CR CS CW CK CP CG CU CQ CL fI fS g fE fN fH fdI fdS fdg) (hr : Room 14 (LX P w K mg base f c A outer s H0 E0').A) : Ho (LX P w K mg base f c A outer s H0 E0') (stAt oB 11) (D10 K CR CC P1 P2 a ns) (D10 K CR CC P1 P2 a ns) := by
  refine ⟨_, ps_if (pt_cmpR op_eq (pe_d (E := E0) F.draw hr (by decide) rfl pass0 (pa_cons (pv 2) (pa_cons pe_int pa_nil))) pe_int (nomark _))
    (pss_one (ps_par (i := 5) (j := 7) rfl scLa.nd rfl rfl (by decide) rfl rfl (pa_cons (pe_d (E := E0) F.pick hr (by decide) rfl pass0 (pa_cons (pv 2) (pa_cons (pe_lst (pa_cons pe_non (pa_cons pe_str (pa_cons pe_int (pa_cons pe_dnewK pa_nil))))) pa_nil))) (pa_cons pe_int pa_nil)) (by rfl))) pss_nil, ?_⟩
  rintro D σ H ⟨d, z, zs, rv, fb, bv, ob, vv, vw, kv, kd, du, al, hdu, v1, v4, v11, v12, v13, rfl⟩ k
  obtain ⟨x0, y0, u0, hd⟩ := al.ig.2.2
  refine ⟨_, rfl, d, 10, x0, y0, u0, rfl, hd, by decide, by decide, fun r x1 y1 u1 r0 r1 => ?_⟩
  have b1 : But d H (upd H d (dr x1 y1 u1)) := But.upd
  have hd1 : upd H d (dr x1 y1 u1) d = some (dr x1 y1 u1) := upd_same
  have al1 := al.but b1 ⟨_, _, _, hd1⟩
  have hdu1 := hdu.but b1
  generalize upd H d (dr x1 y1 u1) = G at al1 hdu1 hd1 ⊢
  refine ⟨rfl, _, rfl, ?_⟩
  by_cases h : V.int r = V.int 0
  rotate_left
  · refine ifF (decide_eq_false h) ?_
    exact k _ _ ⟨d, z, zs, rv, fb, bv, ob, vv, vw, kv, kd, du, al1, hdu1, v1, v4, v11, v12, v13, rfl⟩
  refine ifT (decide_eq_true h) ?_
  refine ⟨_, rfl, fun p hp => ⟨(by show 4 ≤ sizeLine; decide), fun q hq => ?_⟩⟩
  have s1 := same_new (o := .dK []) hp
  have s2 := same_new (o := .lst [.non, .str "rules", .int 5, .ref p]) hq
  have s12 := s1.trans s2
  have np : p ≠ d := (ne_of_none hd1 hp).symm
  have nq : q ≠ d := (ne_of_none (s1 _ _ hd1) hq).symm
  have gp := s2 _ _ (upd_same (H := G) (a := p) (o := .dK []))
  refine ⟨d, q, _, _, _, _, rfl, s12 _ _ hd1, nq, sqL_of upd_same, (by show 0 < 4; decide), (by show 4 < 1000; decide), fun i v x' y' z' hv => ?_⟩
  have b3 : But d G (upd (upd (upd G p (.dK [])) q (.lst [.non, .str "rules", .int 5, .ref p])) d (dr x' y' z')) := (But.of s12).trans But.upd
  have al3 := al1.but b3 ⟨_, _, _, upd_same⟩
  have hdu3 := hdu1.but b3
  have gp3 : upd (upd (upd G p (.dK [])) q (.lst [.non, .str "rules", .int 5, .ref p])) d (dr x' y' z') p = some (.dK []) := by rw [upd_ne np]; exact gp
  generalize upd (upd (upd G p (.dK [])) q (.lst [.non, .str "rules", .int 5, .ref p])) d (dr x' y' z') = G3 at al3 hdu3 gp3 ⊢
  have rw' : Fu d (RwV K CR zs v (some 0)) G3 := by
    match i, hv with
    | 0, hv => cases hv; exact Fu.all fun G => .non
    | 1, hv => cases hv; exact Fu.all fun G => .str
    | 2, hv => cases hv; exact Fu.all fun G => .int
    | 3, hv => cases hv; exact (fu_obj gp3 np fun ps e => by cases e).imp fun G h => .dic h
  exact ⟨_, _, rfl, k _ _ ⟨d, z, zs, v, some 0, bv, ob, vv, vw, kv, kd, du, ⟨al3.ig, al3.sp, rw', al3.bg, al3.vw, al3.kd⟩, hdu3, v1, v4, v11, v12, v13, rfl⟩⟩
def D12 (K : PySem.W.Frag) (CR CC P1 P2 a : Addr) (ns : List Int) (σ : L2.St) (H : Hp) : Prop := ∃ d z zs rv fb bv ob vv vw kv kd du, AlB K CR CC P1 P2 a ns d z zs rv fb bv ob vv vw kv kd H ∧ Fu d (DuV du (due3 fb (due2 vw (due1 (fauB kd) kv)))) H ∧
  ∃ v1 v4 v7 v11 v12 v13, σ = slb14 a d z rv du v7 bv vv kv v1 v4 v11 v12 v13
theorem ho_12 (F : LF P w K mg base C CF CC CN CB CR CS CW CK CP CG CU CQ CL fI fS g fE fN fH fdI fdS fdg) (hr : Room 14 (LX P w K mg base f c A outer s H0 E0').A) : Ho (LX P w K mg base f c A outer s H0 E0') (stAt oB 12) (D10 K CR CC P1 P2 a ns) (D12 K CR CC P1 P2 a ns) := by
  refine ⟨_, ps_set (i := 6) scLa.nd rfl (.inl rfl) (pe_ifExp (pt_cmp (pc_isN (pv 7))) (pv 6) (pe_tup (pa_cons pe_str (pa_cons (pv 7) pa_nil)))), ?_⟩
  rintro D σ H ⟨d, z, zs, rv, fb, bv, ob, vv, vw, kv, kd, du, al, hdu, v1, v4, v11, v12, v13, rfl⟩ k
  cases fb with
  | none =>
    refine ⟨_, rfl, _, rfl, ?_⟩
    refine iteT ?_
    exact ⟨_, rfl, k _ _ ⟨d, z, zs, rv, none, bv, ob, vv, vw, kv, kd, du, al, hdu, v1, v4, _, v11, v12, v13, rfl⟩⟩
  | some i =>
    refine ⟨_, rfl, _, rfl, ?_⟩
    refine iteF ?_
    refine ⟨_, rfl, (by show 2 ≤ sizeLine; decide), fun p hp => ?_⟩
    have s1 := same_new (o := .tup [V.str "rule", fbV (some i)]) hp
    exact k _ _ ⟨d, z, zs, rv, some i, bv, ob, vv, vw, kv, kd, .ref p, al.same s1, du_new (t := ("rule", .int i)) al.ig.2.2 hp, v1, v4, _, v11, v12, v13, rfl⟩
end
end Mv
/-! the law, statement 13 -/
namespace Mv
open PySem PySem.Spec PyProof.Rows L2 LamX
section
variable {P : Program} {w : World} {K : PySem.W.Frag} {mg : Str → Option Value} {base : Heap} {C CF CC CN CB CR CS CW CK CP CG CU CQ CL fI fS g fE fN fH : Addr} {fdI fdS fdg : FuncData} {P1 P2 c f : Addr} {A : Around} {outer : List Env} {s : Shared} {H0 : Hp} {E0' : XK} {a : Addr} {ns : List Int}
theorem ho_13 (F : LF P w K mg base C CF CC CN CB CR CS CW CK CP CG CU CQ CL fI fS g fE fN fH fdI fdS fdg) (hr : Room 14 (LX P w K mg base f c A outer s H0 E0').A) : Ho (LX P w K mg base f c A outer s H0 E0') (stAt oB 13) (D12 K CR CC P1 P2 a ns) (D12 K CR CC P1 P2 a ns) := by
  refine ⟨_, ps_if (pt_cmpR op_eq (pe_d (E := E0) F.draw hr (by decide) rfl pass0 (pa_cons (pv 2) (pa_cons pe_int pa_nil))) pe_int (nomark _))
    (pss_one (ps_set (i := 8) scLa.nd rfl (.inr rfl) (pe_d (E := E0) F.pick hr (by decide) rfl pass0 (pa_cons (pv 2) (pa_cons (pe_lst (pa_cons (pe_lst pa_nil) (pa_cons (pe_lst (pa_cons pe_str pa_nil)) (pa_cons (pe_op op_rep (pe_slice sl_list (pv 3) po_none (po_some pe_int)) pe_int) (pa_cons pe_non
      (pa_cons (pe_ix ix_list (pv 3) pe_int (fun _ _ => rfl)) (pa_cons (pe_lst (pa_cons pe_non pa_nil)) (pa_cons (pe_lst (pa_cons pe_int pa_nil)) pa_nil)))))))) pa_nil))))) pss_nil, ?_⟩
  rintro D σ H ⟨d, z, zs, rv, fb, bv, ob, vv, vw, kv, kd, du, al, hdu, v1, v4, v7, v11, v12, v13, rfl⟩ k
  obtain ⟨x0, y0, u0, hd⟩ := al.ig.2.2
  refine ⟨_, rfl, d, 6, x0, y0, u0, rfl, hd, by decide, by decide, fun r x1 y1 u1 r0 r1 => ?_⟩
  have b1 : But d H (upd H d (dr x1 y1 u1)) := But.upd
  have hd1 : upd H d (dr x1 y1 u1) d = some (dr x1 y1 u1) := upd_same
  have al1 := al.but b1 ⟨_, _, _, hd1⟩
  have hdu1 := hdu.but b1
  generalize upd H d (dr x1 y1 u1) = G at al1 hdu1 hd1 ⊢
  refine ⟨rfl, _, rfl, ?_⟩
  by_cases h : V.int r = V.int 0
  rotate_left
  · refine ifF (decide_eq_false h) ?_
    exact k _ _ ⟨d, z, zs, rv, fb, bv, ob, vv, vw, kv, kd, du, al1, hdu1, v1, v4, v7, v11, v12, v13, rfl⟩
  refine ifT (decide_eq_true h) ?_
  have zo := al1.sp.ok
  obtain ⟨z0, zr, ez⟩ : ∃ z0 zr, zs = z0 :: zr := by
    cases zs with
    | nil => exact absurd zo.l2 (by decide)
    | cons z0 zr => exact ⟨z0, zr, rfl⟩
  have w0 := zo.w (z := z0) (by rw [ez]; exact List.mem_cons_self)
  refine ⟨_, rfl, (by show 0 ≤ sizeLine; decide), fun p0 hp0 => ?_⟩
  have s0 := same_new (o := .lst []) hp0
  have n0 : p0 ≠ d := (ne_of_none hd1 hp0).symm
  refine ⟨(by show 1 ≤ sizeLine; decide), fun p1 hp1 => ?_⟩
  have s1 := same_new (o := .lst [V.str "strange"]) hp1
  have n1 : p1 ≠ d := (ne_of_none (s0 _ _ hd1) hp1).symm
  have g0 := s1 _ _ (upd_same (H := G) (a := p0) (o := .lst []))
  have g1 : upd (upd G p0 (.lst [])) p1 (.lst [V.str "strange"]) p1 = some (.lst [V.str "strange"]) := upd_same
  have sA := s0.trans s1
  generalize upd (upd G p0 (.lst [])) p1 (.lst [V.str "strange"]) = G1 at sA g0 g1 ⊢
  refine ⟨_, rfl, _, rfl, z, _, rfl, sqL_of (al1.same sA).sp.h.now, fun p2 hp2 => ?_⟩
  rw [show cutV (zs.map V.str) none (some 1) = [V.str z0] from by rw [show (some (1 : Int)) = some ((1 : Nat) : Int) from rfl, cut_map (i := 1) (by rw [ez]; simp), ez]; rfl]
  have s2 := same_new (o := .lst [V.str z0]) hp2
  refine ⟨p2, 2, _, rfl, rfl, upd_same, by decide, by decide, (by show 1 * 2 ≤ sizeLine; decide), fun p3 hp3 => ?_⟩
  have s3 := same_new (o := .lst [V.str z0, .str z0]) hp3
  have n3 : p3 ≠ d := (ne_of_none ((sA.trans s2) _ _ hd1) hp3).symm
  have s03 := sA.trans (s2.trans s3)
  have g0 := (s2.trans s3) _ _ g0
  have g1 := (s2.trans s3) _ _ g1
  have g3 : upd (upd G1 p2 (.lst [V.str z0])) p3 (.lst [V.str z0, .str z0]) p3 = some (.lst [V.str z0, .str z0]) := upd_same
  have al3 := al1.same s03
  have e3 : (List.replicate (2 : Int).toNat [V.str z0]).flatten = [V.str z0, .str z0] := rfl
  rw [e3]
  generalize upd (upd G1 p2 (.lst [V.str z0])) p3 (.lst [V.str z0, .str z0]) = G3 at s03 g0 g1 g3 al3 ⊢
  refine ⟨_, rfl, z, _, 0, _, rfl, rfl, sqL_of al3.sp.h.now, atI_nat (j := 0) (by rw [ez]; rfl), ?_⟩
  refine ⟨(by show 1 ≤ sizeLine; decide), fun p4 hp4 => ?_⟩
  have s4 := same_new (o := .lst [V.non]) hp4
  have n4 : p4 ≠ d := (ne_of_none (s03 _ _ hd1) hp4).symm
  refine ⟨(by show 1 ≤ sizeLine; decide), fun p5 hp5 => ?_⟩
  have s5 := same_new (o := .lst [V.int 5]) hp5
  have n5 : p5 ≠ d := (ne_of_none ((s03.trans s4) _ _ hd1) hp5).symm
  refine ⟨(by show 7 ≤ sizeLine; decide), fun q hq => ?_⟩
  have s6 := same_new (o := .lst [V.ref p0, .ref p1, .ref p3, .non, .str z0, .ref p4, .ref p5]) hq
  have nq : q ≠ d := (ne_of_none ((s03.trans (s4.trans s5)) _ _ hd1) hq).symm
  have s46 := s4.trans (s5.trans s6)
  have g4 := (s5.trans s6) _ _ (upd_same (H := G3) (a := p4) (o := .lst [V.non]))
  have g5 := s6 _ _ (upd_same (H := upd G3 p4 (.lst [V.non])) (a := p5) (o := .lst [V.int 5]))
  have g0 := s46 _ _ g0
  have g1 := s46 _ _ g1
  have g3 := s46 _ _ g3
  have al6 := al3.same s46
  have hdu6 := hdu1.same (s03.trans s46)
  have hd6 := (s03.trans s46) _ _ hd1
  have gq : upd (upd (upd G3 p4 (.lst [V.non])) p5 (.lst [V.int 5])) q (.lst [V.ref p0, .ref p1, .ref p3, .non, .str z0, .ref p4, .ref p5]) q = some (.lst [V.ref p0, .ref p1, .ref p3, .non, .str z0, .ref p4, .ref p5]) := upd_same
  generalize upd (upd (upd G3 p4 (.lst [V.non])) p5 (.lst [V.int 5])) q (.lst [V.ref p0, .ref p1, .ref p3, .non, .str z0, .ref p4, .ref p5]) = G6 at g0 g1 g3 g4 g5 gq al6 hdu6 hd6 ⊢
  refine ⟨d, q, _, _, _, _, rfl, hd6, nq, sqL_of gq, (by show 0 < 7; decide), (by show 7 < 1000; decide), fun i v x' y' z' hv => ?_⟩
  have b7 : But d G6 (upd G6 d (dr x' y' z')) := But.upd
  have lstOk : ∀ {p : Addr} {xs : List V}, G6 p = some (.lst xs) → p ≠ d → (∀ G x, x ∈ xs → El G x) → xs.length ≤ 7 → ∃ o, BgF K d (.ref p) o G6 := fun {p xs} e n hx l => ⟨some xs, ⟨fun ys ey => by cases ey; exact l, (fu_obj e n fun ps e => by cases e).imp fun G h => ob_lst h (hx G) (by omega)⟩⟩
  have bg : ∃ o, BgF K d v o G6 := by
    match i, hv with
    | 0, hv => cases hv; exact lstOk g0 n0 (fun G x hx => by cases hx) (by decide)
    | 1, hv => cases hv; exact lstOk g1 n1 (fun G x hx => by rw [List.mem_singleton.mp hx]; exact .str strange_w.2) (by decide)
    | 2, hv =>
      cases hv
      refine lstOk g3 n3 (fun G x hx => ?_) (by show 2 ≤ 7; decide)
      have : x = .str z0 := by
        rcases List.mem_cons.mp hx with e | e
        · exact e
        · exact List.mem_singleton.mp e
      rw [this]
      exact .str w0.2.1
    | 3, hv => cases hv; exact ⟨none, ⟨(fun xs e => by cases e), Fu.all fun G => ob_non⟩⟩
    | 4, hv => cases hv; exact ⟨none, ⟨(fun xs e => by cases e), Fu.all fun G => ob_str _⟩⟩
    | 5, hv => cases hv; exact lstOk g4 n4 (fun G x hx => by rw [List.mem_singleton.mp hx]; exact .non) (by decide)
    | 6, hv => cases hv; exact lstOk g5 n5 (fun G x hx => by rw [List.mem_singleton.mp hx]; exact .int _) (by decide)
  obtain ⟨o, bg⟩ := bg
  have al7 := al6.but b7 ⟨_, _, _, upd_same⟩
  exact k _ _ ⟨d, z, zs, rv, fb, v, o, vv, vw, kv, kd, du, ⟨al7.ig, al7.sp, al7.rw, bg.go (Fr.but b7), al7.vw, al7.kd⟩, hdu6.but b7, v1, v4, v7, v11, v12, v13, rfl⟩
end
end Mv
/-! the law, statement 14 -/
namespace Mv
open PySem PySem.Spec PyProof.Rows L2 LamX
def bgOk (o : Option (List V)) (zs : List Str) : Bool := wordsB 7 o && (match o with
  | none => true
  | some xs => xs.all fun y => inV y (zs.map V.str))
section
variable {K : PySem.W.Frag}
theorem all_in {J : It} {Yg : Hp → Prop} {G : Hp} {D a : Addr} {ys : List V} {zs ws : List Str} {i j : Nat} {σ : L2.St} {Qd : Hp → Prop} (wk : Walk J ys.length Yg (YAt ys)) (hY : ∀ H', Same G H' → Yg H') (hy : ys = ws.map V.str) (ha : Sq K G a (zs.map V.str)) (ly : ys.length ≤ 900) (hD : G D = none) (hw : ∀ x, wipe ((wipe σ [i]).set i x) [i] = wipe σ [i]) (hv2 : ∀ x, ((wipe σ [i]).set i (some x))[i]? = some (some x)) (hv1 : ∀ x, ((wipe σ [i]).set i x)[j]? = some (some (.ref a)))
    (k : ∀ H', Same G H' → H' D = some (.lst ((ys.map fun y => inV y (zs.map V.str)).map V.bl)) → Qd H') :
    ∃ W : Nat → Nat → Hp → Prop, (∃ m, W 0 m (upd G D (.lst []))) ∧ ∀ n m H, W n m H →
      (J.stop n H ∧ Qd H) ∨ (J.go n H ∧ ∃ Nx : Hp → Prop, (∀ H', Nx H' → ∃ m', m' < m ∧ W (n + 1) m' H') ∧ ∀ x H', J.yld n H x H' → gName i x (wipe σ [i]) H' fun σ2 H2 => wipe σ2 [i] = wipe σ [i] ∧ tYes σ2 H2 fun b H3 =>
        if b = true then (tOp (rIn K false) (tVar i) (tVar j)) σ2 H3 fun y H4 => ∃ acc, H4 D = some (.lst acc) ∧ acc.length < sizeLine ∧ Nx (upd H4 D (.lst (acc ++ [y]))) else Nx H3) := by
  refine lc_it wk (fun j H' => Same G H' ∧ H' D = some (.lst (((ys.take j).map fun y => inV y (zs.map V.str)).map V.bl))) ⟨same_new hD, upd_same⟩ (fun j H' _ q => hY H' q.1) ?_ ?_
  · rintro j x2 Hj0 Hj hj ⟨sj, hv⟩ ⟨rfl, hx2⟩
    have hx3 := hx2
    rw [hy, List.getElem?_map] at hx3
    obtain ⟨z, hz, rfl⟩ := Option.map_eq_some_iff.mp hx3
    refine ⟨hw _, ?_⟩
    unfold tYes
    refine iteT ?_
    refine ⟨_, hv2 _, _, hv1 _, a, _, rfl, ha.same sj, rfl, flat_strs zs, _, hv, ?_, same_put sj hD, ?_⟩
    · rw [List.length_map, List.length_map, List.length_take]
      exact small1000 (by omega)
    · rw [upd_same, take_next hx2, List.map_append, List.map_append]
      rfl
  · rintro H2 ⟨sj, hv⟩
    rw [List.take_length] at hv
    exact k H2 sj hv
end
section
variable {P : Program} {w : World} {K : PySem.W.Frag} {mg : Str → Option Value} {base : Heap} {C CF CC CN CB CR CS CW CK CP CG CU CQ CL fI fS g fE fN fH : Addr} {fdI fdS fdg : FuncData} {P1 P2 c f : Addr} {A : Around} {outer : List Env} {s : Shared} {H0 : Hp} {E0' : XK} {a : Addr} {ns : List Int}
def D14 (K : PySem.W.Frag) (CR CC P1 P2 a : Addr) (ns : List Int) (σ : L2.St) (H : Hp) : Prop := ∃ d z zs rv fb bv ob vv vw kv kd du, AlB K CR CC P1 P2 a ns d z zs rv fb bv ob vv vw kv kd H ∧ Fu d (DuV du (due4 (bgOk ob zs) bv (due3 fb (due2 vw (due1 (fauB kd) kv))))) H ∧
  ∃ v1 v4 v7 v11 v12 v13, σ = slb14 a d z rv du v7 bv vv kv v1 v4 v11 v12 v13
theorem ho_14 (F : LF P w K mg base C CF CC CN CB CR CS CW CK CP CG CU CQ CL fI fS g fE fN fH fdI fdS fdg) (hr : Room 14 (LX P w K mg base f c A outer s H0 E0').A) : Ho (LX P w K mg base f c A outer s H0 E0') (stAt oB 14) (D12 K CR CC P1 P2 a ns) (D14 K CR CC P1 P2 a ns) := by
  refine ⟨_, ps_set (i := 6) scLa.nd rfl (.inl rfl) (pe_ifExp (PW.pt (pw_and (pt_val (pe_d (E := E0) F.are hr (by decide) rfl pass0 (pa_cons (pv 8) (pa_cons pe_int pa_nil))))
    (pw_and1 (pt_val (pe_callB (cr_all rfl) (by rfl) F.all (by decide +kernel) (pa_cons (pe_lc (own := [("_law_spot", 11)]) (g := gName 11) (tt := tYes) rfl scLa.nd (pi_or (pi_list (pv 8)) (pi_tup (pv 8))) (blkOk_by (N := nLaw) (sc := defScope sLaw) (by decide +kernel))
          (fun _ _ _ _ _ => pg_name (i := 11) scLa.nd rfl (Or.inl rfl)) (fun _ _ _ _ _ => pts_nil) (fun _ _ _ _ _ => pe_cmpR (show OpR _ (compareOp .In) (rIn K false) from op_in_seq) (pv 11) (pv 3) (by with_unfolding_all rfl))) pa_nil))))))
    (pv 6) (pe_tup (pa_cons pe_str (pa_cons (pv 8) pa_nil)))), ?_⟩
  rintro D σ H ⟨d, z, zs, rv, fb, bv, ob, vv, vw, kv, kd, du, al, hdu, v1, v4, v7, v11, v12, v13, rfl⟩ k
  have yes : ∀ H' v11, Same H H' → bgOk ob zs = true → D.nx (slb14 a d z rv du v7 bv vv kv v1 v4 v11 v12 v13) H' := fun H' v11 s1 e =>
    k _ _ ⟨d, z, zs, rv, fb, bv, ob, vv, vw, kv, kd, du, al.same s1, (by rw [e]; exact hdu.same s1), v1, v4, v7, v11, v12, v13, rfl⟩
  have no : ∀ H' p v11, Same H H' → H' p = none → bgOk ob zs = false → D.nx (slb14 a d z rv (.ref p) v7 bv vv kv v1 v4 v11 v12 v13) (upd H' p (.tup [.str "begins", bv])) := fun H' p v11 s1 hp e =>
    k _ _ ⟨d, z, zs, rv, fb, bv, ob, vv, vw, kv, kd, .ref p, (al.same s1).same (same_new hp), (by rw [e]; exact du_new (t := ("begins", bv)) (al.same s1).ig.2.2 hp), v1, v4, v7, v11, v12, v13, rfl⟩
  have kn := al.bg.h.now.1
  refine ⟨_, rfl, bv, 7, ob, rfl, kn, fun H1 s1 => ⟨_, rfl, ?_⟩⟩
  cases e1 : wordsB 7 ob with
  | false =>
    refine iteF ?_
    refine iteF ?_
    have e : bgOk ob zs = false := by unfold bgOk; rw [e1]; rfl
    exact ⟨_, rfl, (by show 2 ≤ sizeLine; decide), fun p hp => no H1 p _ s1 hp e⟩
  | true =>
    refine iteT ?_
    rcases kn with ⟨rfl, _⟩ | ⟨b, ys, rfl, rfl, hS, _, l9⟩
    · cases e1
    have nb : noBad ys = true := (Bool.and_eq_true_iff.mp e1).2
    obtain ⟨ws, ey⟩ := noBad_strs (noBad_isw nb)
    have zS : Sq K H1 z (zs.map V.str) := .inl (sqL_of (al.same s1).sp.h.now)
    rcases hS with hS | hS
    · refine .inl ⟨_, rfl, b, rfl, ⟨_, same_sqL s1 hS⟩, fun R hR => ?_⟩
      refine all_in (i := 11) (j := 3) (walk_list (xs := ys)) (fun H' s => same_sqL (s1.trans s) hS) ey zS l9 hR (fun _ => rfl) (fun _ => rfl) (fun _ => rfl) fun H2 s2 hv => ?_
      have e2 : (ys.map fun y => inV y (zs.map V.str)).all id = ys.all fun y => inV y (zs.map V.str) := by rw [List.all_map]; rfl
      refine ⟨R, _, rfl, SqL.of hv, ?_⟩
      rw [e2]
      have eb : bgOk (some ys) zs = ys.all fun y => inV y (zs.map V.str) := by unfold bgOk; rw [e1]; rfl
      refine ⟨_, rfl, ?_⟩
      rw [← eb]
      cases e : bgOk (some ys) zs with
      | true =>
        refine iteT ?_
        exact ⟨_, rfl, yes H2 _ (s1.trans s2) e⟩
      | false =>
        refine iteF ?_
        exact ⟨_, rfl, (by show 2 ≤ sizeLine; decide), fun p hp => no H2 p _ (s1.trans s2) hp e⟩
    · refine .inr ⟨_, rfl, b, rfl, ⟨_, same_sqT s1 hS⟩, fun R hR => ?_⟩
      refine all_in (i := 11) (j := 3) (walk_tup (xs := ys)) (fun H' s => same_sqT (s1.trans s) hS) ey zS l9 hR (fun _ => rfl) (fun _ => rfl) (fun _ => rfl) fun H2 s2 hv => ?_
      have e2 : (ys.map fun y => inV y (zs.map V.str)).all id = ys.all fun y => inV y (zs.map V.str) := by rw [List.all_map]; rfl
      refine ⟨R, _, rfl, SqL.of hv, ?_⟩
      rw [e2]
      have eb : bgOk (some ys) zs = ys.all fun y => inV y (zs.map V.str) := by unfold bgOk; rw [e1]; rfl
      refine ⟨_, rfl, ?_⟩
      rw [← eb]
      cases e : bgOk (some ys) zs with
      | true =>
        refine iteT ?_
        exact ⟨_, rfl, yes H2 _ (s1.trans s2) e⟩
      | false =>
        refine iteF ?_
        exact ⟨_, rfl, (by show 2 ≤ sizeLine; decide), fun p hp => no H2 p _ (s1.trans s2) hp e⟩
end
end Mv
/-! the law, statement 15 -/
namespace Mv
open PySem PySem.Spec PyProof.Rows L2 LamX
def chs (z : Str) : List Str := z.cps.toList.map fun c => (⟨#[c]⟩ : Str)
def rListT : List V → Hp → VK → Prop := fun xs H Q => ∃ z, xs = [.str z] ∧ z.length ≤ sizeLine ∧ ∀ q, H q = none → Q (.ref q) (upd H q (.lst ((chs z).map V.str)))
theorem call_listT {X : Cx} (hc : X.calm = true) : CallR X (.type "list") rListT := by
  intro pins s σ H xs us Q I r h
  obtain ⟨z, rfl, hz, q⟩ := h
  obtain ⟨u, rfl, t, rfl⟩ := vals1 r
  refine PySem.call_list_str (I.ok.hd hc) z t (hn := hz) fun h' tk acc c' hk e hi => ?_
  refine ⟨.ref s.heap.objs.size, upd H s.heap.objs.size (.lst ((chs z).map V.str)), I.laid hk (Nat.le_refl _) ⟨?_, acc.toList, c', ?_, by rw [Array.toArray_toList]; exact e⟩, rfl, q _ (I.hok.fresh (Nat.le_refl _))⟩
  · rw [List.length_map]
    unfold chs
    rw [List.length_map, Array.length_toList]
    exact hz
  · refine vals_of_idx _ _ (by rw [List.length_map]; unfold chs; rw [List.length_map, Array.length_toList, Array.length_toList]; exact hi.1) fun j u hj => ?_
    obtain ⟨c, t', hc, rfl⟩ := hi.2 j u (by rw [← Array.getElem?_toList]; exact hj)
    refine ⟨.str ⟨#[c]⟩, ?_, ⟨_, rfl⟩⟩
    unfold chs
    rw [List.getElem?_map, List.getElem?_map, Array.getElem?_toList, hc]
    rfl
theorem words_places {o : Option (List V)} : wordsB 7 o = placesB o := by
  cases o with
  | none => rfl
  | some xs =>
    show ((decide ((1 : Int) ≤ xs.length) && decide ((xs.length : Int) ≤ 7)) && noBad xs) = ((decide (1 ≤ xs.length) && decide (xs.length ≤ 7)) && noBad xs)
    have e1 : decide ((1 : Int) ≤ xs.length) = decide (1 ≤ xs.length) := by by_cases h : 1 ≤ xs.length <;> simp [h] <;> omega
    have e2 : decide ((xs.length : Int) ≤ 7) = decide (xs.length ≤ 7) := by by_cases h : xs.length ≤ 7 <;> simp [h] <;> omega
    rw [e1, e2]
theorem bad_places {xs : List V} (i : Nat) (hi : i < xs.length) (h : badAt xs i = true) : placesB (some xs) = false := by
  show ((decide (1 ≤ xs.length) && decide (xs.length ≤ 7)) && noBad xs) = false
  rw [noBad_false hi h, Bool.and_false]
section
variable {P : Program} {w : World} {K : PySem.W.Frag} {mg : Str → Option Value} {base : Heap} {C CF CC CN CB CR CS CW CK CP CG CU CQ CL fI fS g fE fN fH : Addr} {fdI fdS fdg : FuncData} {P1 P2 c f : Addr} {A : Around} {outer : List Env} {s : Shared} {H0 : Hp} {E0' : XK} {a : Addr} {ns : List Int}
/-- the places that are told at the end -/
structure PlF (K : PySem.W.Frag) (d z : Addr) (zs : List Str) (v : V) (o : Option (List V)) (H : Hp) : Prop where
  w : (v = .ref z ∧ o = some (zs.map V.str)) ∨ placesB o = false
  h : Fu d (ObV K v o) H
theorem PlF.go {d z : Addr} {zs : List Str} {v : V} {o : Option (List V)} {H H' : Hp} (h : PlF K d z zs v o H) (f : Fr d H H') : PlF K d z zs v o H' := ⟨h.w, h.h.go f⟩
abbrev slc14 (a d : Addr) (sv rv du fb bv vv kv : V) (v1 v4 v11 v12 v13 : Option V) : L2.St := [some (.ref a), v1, some (.ref d), some sv, v4, some rv, some du, some fb, some bv, some vv, some kv, v11, v12, v13]
def D15 (K : PySem.W.Frag) (CR CC P1 P2 a : Addr) (ns : List Int) (σ : L2.St) (H : Hp) : Prop := ∃ d z zs rv fb bv ob vv vw kv kd du sv os, AlB K CR CC P1 P2 a ns d z zs rv fb bv ob vv vw kv kd H ∧ PlF K d z zs sv os H ∧ Fu d (DuV du (due4 (bgOk ob zs) bv (due3 fb (due2 vw (due1 (fauB kd) kv))))) H ∧
  ∃ v1 v4 v7 v11 v12 v13, σ = slc14 a d sv rv du v7 bv vv kv v1 v4 v11 v12 v13
theorem ho_15 (F : LF P w K mg base C CF CC CN CB CR CS CW CK CP CG CU CQ CL fI fS g fE fN fH fdI fdS fdg) (hr : Room 14 (LX P w K mg base f c A outer s H0 E0').A) : Ho (LX P w K mg base f c A outer s H0 E0') (stAt oB 15) (D14 K CR CC P1 P2 a ns) (D15 K CR CC P1 P2 a ns) := by
  refine ⟨_, ps_if (pt_cmpR op_eq (pe_d (E := E0) F.draw hr (by decide) rfl pass0 (pa_cons (pv 2) (pa_cons pe_int pa_nil))) pe_int (nomark _))
    (pss_one (ps_set (i := 3) scLa.nd rfl (.inr rfl) (pe_d (E := E0) F.pick hr (by decide) rfl pass0 (pa_cons (pv 2) (pa_cons (pe_lst (pa_cons (pe_lst pa_nil) (pa_cons (pe_op op_rep (pe_slice sl_list (pv 3) po_none (po_some pe_int)) pe_int) (pa_cons (pe_op op_cat (pv 3) (pe_lst (pa_cons pe_str pa_nil))) (pa_cons pe_non
      (pa_cons pe_str (pa_cons (pe_callTy (call_listT rfl) (by rfl) F.list (by decide +kernel) (pa_cons pe_str pa_nil)) (pa_cons (pe_lst (pa_cons (pe_lst (pa_cons pe_str pa_nil)) pa_nil)) pa_nil)))))))) pa_nil))))) pss_nil, ?_⟩
  rintro D σ H ⟨d, z, zs, rv, fb, bv, ob, vv, vw, kv, kd, du, al, hdu, v1, v4, v7, v11, v12, v13, rfl⟩ k
  obtain ⟨x0, y0, u0, hd⟩ := al.ig.2.2
  refine ⟨_, rfl, d, 8, x0, y0, u0, rfl, hd, by decide, by decide, fun r x1 y1 u1 r0 r1 => ?_⟩
  have b1 : But d H (upd H d (dr x1 y1 u1)) := But.upd
  have hd1 : upd H d (dr x1 y1 u1) d = some (dr x1 y1 u1) := upd_same
  have al1 := al.but b1 ⟨_, _, _, hd1⟩
  have hdu1 := hdu.but b1
  generalize upd H d (dr x1 y1 u1) = G at al1 hdu1 hd1 ⊢
  have zo := al1.sp.ok
  refine ⟨rfl, _, rfl, ?_⟩
  by_cases h : V.int r = V.int 0
  rotate_left
  · refine ifF (decide_eq_false h) ?_
    refine k _ _ ⟨d, z, zs, rv, fb, bv, ob, vv, vw, kv, kd, du, .ref z, some (zs.map V.str), al1, ⟨.inl ⟨rfl, rfl⟩, al1.sp.h.imp fun G h => ob_lst h (el_strs zo.len) ?_⟩, hdu1, v1, v4, v7, v11, v12, v13, rfl⟩
    rw [List.length_map]
    have := zo.l7
    omega
  refine ifT (decide_eq_true h) ?_
  obtain ⟨z0, zr, ez⟩ : ∃ z0 zr, zs = z0 :: zr := by
    cases zs with
    | nil => exact absurd zo.l2 (by decide)
    | cons z0 zr => exact ⟨z0, zr, rfl⟩
  have w0 := zo.w (z := z0) (by rw [ez]; exact List.mem_cons_self)
  refine ⟨_, rfl, (by show 0 ≤ sizeLine; decide), fun p0 hp0 => ?_⟩
  have s0 := same_new (o := .lst []) hp0
  have n0 : p0 ≠ d := (ne_of_none hd1 hp0).symm
  have g0 : upd G p0 (.lst []) p0 = some (.lst []) := upd_same
  generalize upd G p0 (.lst []) = G0 at s0 g0 ⊢
  refine ⟨_, rfl, _, rfl, z, _, rfl, sqL_of (al1.same s0).sp.h.now, fun p2 hp2 => ?_⟩
  rw [show cutV (zs.map V.str) none (some 1) = [V.str z0] from by rw [show (some (1 : Int)) = some ((1 : Nat) : Int) from rfl, cut_map (i := 1) (by rw [ez]; simp), ez]; rfl]
  have s2 := same_new (o := .lst [V.str z0]) hp2
  refine ⟨p2, 2, _, rfl, rfl, upd_same, by decide, by decide, (by show 1 * 2 ≤ sizeLine; decide), fun p3 hp3 => ?_⟩
  rw [show (List.replicate (2 : Int).toNat [V.str z0]).flatten = [V.str z0, .str z0] from rfl]
  have s3 := same_new (o := .lst [V.str z0, .str z0]) hp3
  have s03 := s0.trans (s2.trans s3)
  have n3 : p3 ≠ d := (ne_of_none ((s0.trans s2) _ _ hd1) hp3).symm
  have g0 := (s2.trans s3) _ _ g0
  have g3 : upd (upd G0 p2 (.lst [V.str z0])) p3 (.lst [V.str z0, .str z0]) p3 = some (.lst [V.str z0, .str z0]) := upd_same
  have al3 := al1.same s03
  generalize upd (upd G0 p2 (.lst [V.str z0])) p3 (.lst [V.str z0, .str z0]) = G3 at s03 g0 g3 al3 ⊢
  refine ⟨_, rfl, (by show 1 ≤ sizeLine; decide), fun p4 hp4 => ?_⟩
  have s4 := same_new (o := .lst [V.str "A"]) hp4
  have sz : (zs.map V.str).length + 1 ≤ sizeLine := by
    rw [List.length_map]
    have := small1000 (n := 20) (by omega)
    have := zo.l7
    omega
  refine ⟨z, p4, _, _, rfl, rfl, (al3.same s4).sp.h.now, upd_same, sz, fun p5 hp5 => ?_⟩
  have s5 := same_new (o := .lst (zs.map V.str ++ [V.str "A"])) hp5
  have s45 := s4.trans s5
  have n5 : p5 ≠ d := (ne_of_none ((s03.trans s4) _ _ hd1) hp5).symm
  have g0 := s45 _ _ g0
  have g3 := s45 _ _ g3
  have g5 : upd (upd G3 p4 (.lst [V.str "A"])) p5 (.lst (zs.map V.str ++ [V.str "A"])) p5 = some (.lst (zs.map V.str ++ [V.str "A"])) := upd_same
  have s05 := s03.trans s45
  generalize upd (upd G3 p4 (.lst [V.str "A"])) p5 (.lst (zs.map V.str ++ [V.str "A"])) = G5 at s05 g0 g3 g5 ⊢
  refine ⟨_, rfl, (by show 8 ≤ sizeLine; decide), fun p6 hp6 => ?_⟩
  have s6 := same_new (o := .lst ((chs "abcdefgh").map V.str)) hp6
  have n6 : p6 ≠ d := (ne_of_none (s05 _ _ hd1) hp6).symm
  refine ⟨(by show 1 ≤ sizeLine; decide), fun p7 hp7 => ?_⟩
  have s7 := same_new (o := .lst [V.str "a"]) hp7
  have n7 : p7 ≠ d := (ne_of_none ((s05.trans s6) _ _ hd1) hp7).symm
  refine ⟨(by show 1 ≤ sizeLine; decide), fun p8 hp8 => ?_⟩
  have s8 := same_new (o := .lst [V.ref p7]) hp8
  have n8 : p8 ≠ d := (ne_of_none ((s05.trans (s6.trans s7)) _ _ hd1) hp8).symm
  refine ⟨(by show 7 ≤ sizeLine; decide), fun q hq => ?_⟩
  have s9 := same_new (o := .lst [V.ref p0, .ref p3, .ref p5, .non, .str "a", .ref p6, .ref p8]) hq
  have nq : q ≠ d := (ne_of_none ((s05.trans (s6.trans (s7.trans s8))) _ _ hd1) hq).symm
  have s69 := s6.trans (s7.trans (s8.trans s9))
  have s09 := s05.trans s69
  have g0 := s69 _ _ g0
  have g3 := s69 _ _ g3
  have g5 := s69 _ _ g5
  have g6 := (s7.trans (s8.trans s9)) _ _ (upd_same (H := G5) (a := p6) (o := .lst ((chs "abcdefgh").map V.str)))
  have g7 := (s8.trans s9) _ _ (upd_same (H := upd G5 p6 (.lst ((chs "abcdefgh").map V.str))) (a := p7) (o := .lst [V.str "a"]))
  have g8 := s9 _ _ (upd_same (H := upd (upd G5 p6 (.lst ((chs "abcdefgh").map V.str))) p7 (.lst [V.str "a"])) (a := p8) (o := .lst [V.ref p7]))
  have gq : upd (upd (upd (upd G5 p6 (.lst ((chs "abcdefgh").map V.str))) p7 (.lst [V.str "a"])) p8 (.lst [V.ref p7])) q (.lst [V.ref p0, .ref p3, .ref p5, .non, .str "a", .ref p6, .ref p8]) q = some (.lst [V.ref p0, .ref p3, .ref p5, .non, .str "a", .ref p6, .ref p8]) := upd_same
  have al9 := al1.same s09
  have hdu9 := hdu1.same s09
  have hd9 := s09 _ _ hd1
  generalize upd (upd (upd (upd G5 p6 (.lst ((chs "abcdefgh").map V.str))) p7 (.lst [V.str "a"])) p8 (.lst [V.ref p7])) q (.lst [V.ref p0, .ref p3, .ref p5, .non, .str "a", .ref p6, .ref p8]) = G9 at g0 g3 g5 g6 g7 g8 gq al9 hdu9 hd9 ⊢
  refine ⟨d, q, _, _, _, _, rfl, hd9, nq, sqL_of gq, (by show 0 < 7; decide), (by show 7 < 1000; decide), fun i v x' y' z' hv => ?_⟩
  have lstOk : ∀ {p : Addr} {xs : List V}, G9 p = some (.lst xs) → p ≠ d → placesB (some xs) = false → (∀ G x, x ∈ xs → El G x) → xs.length ≤ 900 → ∃ o, PlF K d z zs (.ref p) o G9 := fun {p xs} e n b hx l => ⟨some xs, ⟨.inr b, (fu_obj e n fun ps e => by cases e).imp fun G h => ob_lst h (hx G) l⟩⟩
  have z8 : ∀ x ∈ zs.map V.str ++ [V.str "A"], ∀ G, El G x := fun x hx G => by
    rcases List.mem_append.mp hx with hx | hx
    · exact el_strs zo.len x hx
    · rw [List.mem_singleton.mp hx]
      exact .str (by decide +kernel)
  have pl : ∃ o, PlF K d z zs v o G9 := by
    match i, hv with
    | 0, hv => cases hv; exact lstOk g0 n0 rfl (fun G x hx => by cases hx) (by decide)
    | 1, hv =>
      cases hv
      refine lstOk g3 n3 (bad_places 1 (by show 1 < 2; decide) ?_) (fun G x hx => ?_) (by show 2 ≤ 900; decide)
      · show (!isW (.str z0) || inV (.str z0) [V.str z0]) = true
        have e : inV (.str z0) [V.str z0] = true := by
          have := inV_mem z0 [z0]
          rw [List.map_cons, List.map_nil] at this
          rw [this]
          exact decide_eq_true (List.mem_singleton.mpr rfl)
        rw [e, Bool.or_true]
      · have : x = .str z0 := by
          rcases List.mem_cons.mp hx with e | e
          · exact e
          · exact List.mem_singleton.mp e
        rw [this]
        exact .str w0.2.1
    | 2, hv =>
      cases hv
      refine lstOk g5 n5 (bad_places (zs.map V.str).length (by rw [List.length_append]; exact Nat.lt_succ_self _) ?_) (fun G x hx => z8 x hx G) ?_
      · rw [bad_at (x := .str "A") (by rw [List.getElem?_append_right (Nat.le_refl _), Nat.sub_self]; rfl)]
        have e : isW (.str "A") = false := by decide +kernel
        rw [e]
        rfl
      · rw [List.length_append, List.length_map]
        have := zo.l7
        show zs.length + 1 ≤ 900
        omega
    | 3, hv => cases hv; exact ⟨none, ⟨.inr rfl, Fu.all fun G => ob_non⟩⟩
    | 4, hv => cases hv; exact ⟨none, ⟨.inr rfl, Fu.all fun G => ob_str _⟩⟩
    | 5, hv =>
      cases hv
      refine lstOk g6 n6 rfl (fun G x hx => ?_) (by decide +kernel)
      obtain ⟨y, hy, rfl⟩ := List.mem_map.mp hx
      obtain ⟨c0, _, rfl⟩ := List.mem_map.mp hy
      exact .str (by show 1 ≤ 8; decide)
    | 6, hv =>
      cases hv
      refine ⟨some [V.ref p7], ⟨.inr (bad_places 0 (by show 0 < 1; decide) rfl), ((fu_obj g8 n8 fun ps e => by cases e).and (fu_obj g7 n7 fun ps e => by cases e)).imp fun G h => ob_lst h.1 (fun x hx => ?_) (by show 1 ≤ 900; decide)⟩⟩
      rw [List.mem_singleton.mp hx]
      exact .lst h.2
  obtain ⟨o, pl⟩ := pl
  have b10 : But d G9 (upd G9 d (dr x' y' z')) := But.upd
  exact k _ _ ⟨d, z, zs, rv, fb, bv, ob, vv, vw, kv, kd, du, v, o, al9.but b10 ⟨_, _, _, upd_same⟩, pl.go (Fr.but b10), hdu9.but b10, v1, v4, v7, v11, v12, v13, rfl⟩
end
end Mv
/-! the law, statements 16 and 17 -/
namespace Mv
open PySem PySem.Spec PyProof.Rows L2 LamX
/-- the rules as they are handed on -/
inductive HdV (K : PySem.W.Frag) (CR : Addr) (zs : List Str) : V → Option Nat → Hp → Prop
  | seq {a : Addr} {xs : List V} {os : List (Option Ru)} {fb : Option Nat} {G : Hp} (h : Sq K G a xs) (p : Paired (TRu K CR G) xs os) (f : FirstBad zs os fb) : HdV K CR zs (.ref a) fb G
  | no {v : V} {G : Hp} (h : ∀ H', Same G H' → Kl K H' v false) : HdV K CR zs v (some 0) G
section
variable {P : Program} {w : World} {K : PySem.W.Frag} {mg : Str → Option Value} {base : Heap} {C CF CC CN CB CR CS CW CK CP CG CU CQ CL fI fS g fE fN fH : Addr} {fdI fdS fdg : FuncData} {P1 P2 c f : Addr} {A : Around} {outer : List Env} {s : Shared} {H0 : Hp} {E0' : XK} {a : Addr} {ns : List Int}
theorem RwV.hd {zs : List Str} {v : V} {fb : Option Nat} {G : Hp} (h : RwV K CR zs v fb G) : HdV K CR zs v fb G := by
  cases h with
  | lst h p f l => exact .seq (.inl (sqL_of h)) p f
  | non => exact .no fun H' _ => ⟨_, .base .non, kit_any (bs := ["list", "tuple"]) (by decide +kernel)⟩
  | str => exact .no fun H' _ => ⟨_, .base (.str _), kit_any (bs := ["list", "tuple"]) (by decide +kernel)⟩
  | int => exact .no fun H' _ => ⟨_, .base (.int _), kit_any (bs := ["list", "tuple"]) (by decide +kernel)⟩
  | dic h => exact .no fun H' s => ⟨_, .base (.dK (s _ _ h)), kit_any (bs := ["list", "tuple"]) (by decide +kernel)⟩
theorem rw_ne {zs : List Str} {b d : Addr} {fb : Option Nat} {G : Hp} (h : Fu d (RwV K CR zs (.ref b) fb) G) : b ≠ d := fun e => by
  have q := h (upd G d (.own 0)) fun c o hc n _ => by rw [upd_ne n]; exact hc
  rw [e] at q
  cases q with
  | lst h => rw [upd_same] at h; cases h
  | dic h => rw [upd_same] at h; cases h
theorem rw_tup {zs : List Str} {b d tw : Addr} {xs : List V} {fb : Option Nat} {x y z : Int} {G : Hp} (hd : G d = some (dr x y z)) (h : Fu d (RwV K CR zs (.ref b) fb) G) (hb : G b = some (.lst xs)) (ht : SqT K G tw xs) : Fu d (HdV K CR zs (.ref tw) fb) G := fun H2 f => by
  have n := rw_ne h
  have e := f _ _ hb n fun ps e => by cases e
  have q := h H2 f
  cases q with
  | lst h p ff l =>
    rw [e] at h
    cases h
    exact .seq (.inr (sqT_fr hd f ht)) p ff
  | dic h => rw [e] at h; cases h
def D16 (K : PySem.W.Frag) (CR CC P1 P2 a : Addr) (ns : List Int) (σ : L2.St) (H : Hp) : Prop := ∃ d z zs rv fb bv ob vv vw kv kd du sv os, AlB K CR CC P1 P2 a ns d z zs rv fb bv ob vv vw kv kd H ∧ PlF K d z zs sv os H ∧ Fu d (DuV du (due5 (placesB os) sv (due4 (bgOk ob zs) bv (due3 fb (due2 vw (due1 (fauB kd) kv)))))) H ∧
  ∃ v1 v4 v7 v11 v12 v13, σ = slc14 a d sv rv du v7 bv vv kv v1 v4 v11 v12 v13
theorem ho_16 (F : LF P w K mg base C CF CC CN CB CR CS CW CK CP CG CU CQ CL fI fS g fE fN fH fdI fdS fdg) (hr : Room 14 (LX P w K mg base f c A outer s H0 E0').A) : Ho (LX P w K mg base f c A outer s H0 E0') (stAt oB 16) (D15 K CR CC P1 P2 a ns) (D16 K CR CC P1 P2 a ns) := by
  refine ⟨_, ps_set (i := 6) scLa.nd rfl (.inl rfl) (pe_ifExp (pt_val (pe_d (E := E0) F.are hr (by decide) rfl pass0 (pa_cons (pv 3) (pa_cons pe_int pa_nil)))) (pv 6) (pe_tup (pa_cons pe_str (pa_cons (pv 3) pa_nil)))), ?_⟩
  rintro D σ H ⟨d, z, zs, rv, fb, bv, ob, vv, vw, kv, kd, du, sv, os, al, pl, hdu, v1, v4, v7, v11, v12, v13, rfl⟩ k
  refine ⟨_, rfl, sv, 7, os, rfl, pl.h.now.1, fun H1 s1 => ⟨_, rfl, ?_⟩⟩
  rw [words_places]
  cases e : placesB os with
  | true =>
    refine iteT ?_
    exact ⟨_, rfl, k _ _ ⟨d, z, zs, rv, fb, bv, ob, vv, vw, kv, kd, du, sv, os, al.same s1, pl.go (Fr.same s1), (by rw [e]; exact hdu.same s1), v1, v4, v7, v11, v12, v13, rfl⟩⟩
  | false =>
    refine iteF ?_
    refine ⟨_, rfl, (by show 2 ≤ sizeLine; decide), fun p hp => ?_⟩
    have s2 := s1.trans (same_new (o := .tup [V.str "places", sv]) hp)
    exact k _ _ ⟨d, z, zs, rv, fb, bv, ob, vv, vw, kv, kd, .ref p, sv, os, al.same s2, pl.go (Fr.same s2), (by rw [e]; exact du_new (t := ("places", sv)) (al.same s1).ig.2.2 hp), v1, v4, v7, v11, v12, v13, rfl⟩
def D17 (K : PySem.W.Frag) (CR CC P1 P2 a : Addr) (ns : List Int) (σ : L2.St) (H : Hp) : Prop := ∃ d z zs rv fb bv ob vv vw kv kd du sv os hv, AlB K CR CC P1 P2 a ns d z zs rv fb bv ob vv vw kv kd H ∧ PlF K d z zs sv os H ∧ Fu d (HdV K CR zs hv fb) H ∧ Fu d (DuV du (due5 (placesB os) sv (due4 (bgOk ob zs) bv (due3 fb (due2 vw (due1 (fauB kd) kv)))))) H ∧
  ∃ v1 v4 v7 v11 v13, σ = slc14 a d sv rv du v7 bv vv kv v1 v4 v11 (some hv) v13
theorem ho_17 (F : LF P w K mg base C CF CC CN CB CR CS CW CK CP CG CU CQ CL fI fS g fE fN fH fdI fdS fdg) (hr : Room 14 (LX P w K mg base f c A outer s H0 E0').A) : Ho (LX P w K mg base f c A outer s H0 E0') (stAt oB 17) (D16 K CR CC P1 P2 a ns) (D17 K CR CC P1 P2 a ns) := by
  refine ⟨_, ps_set (i := 12) scLa.nd rfl (.inr rfl) (pe_ifExp (PW.pt (pw_and (pt_val (pe_callB call_isi (by rfl) F.isi (by decide +kernel) (pa_cons (pv 5) (pa_cons (pe_bltn (v := .ty "list") (by rfl) F.list (by decide +kernel) rfl) pa_nil))))
      (pw_and1 (pt_cmpR op_eq (pe_d (E := E0) F.draw hr (by decide) rfl pass0 (pa_cons (pv 2) (pa_cons pe_int pa_nil))) pe_int (nomark _))))) (pe_callTy call_tupS (by rfl) F.tuple (by decide +kernel) (pa_cons (pv 5) pa_nil)) (pv 5)), ?_⟩
  rintro D σ H ⟨d, z, zs, rv, fb, bv, ob, vv, vw, kv, kd, du, sv, os, al, pl, hdu, v1, v4, v7, v11, v12, v13, rfl⟩ k
  obtain ⟨x0, y0, u0, hd⟩ := al.ig.2.2
  have no : ∀ H', Fr d H H' → AlB K CR CC P1 P2 a ns d z zs rv fb bv ob vv vw kv kd H' → D.nx (slc14 a d sv rv du v7 bv vv kv v1 v4 v11 (some rv) v13) H' := fun H' f1 al1 =>
    k _ _ ⟨d, z, zs, rv, fb, bv, ob, vv, vw, kv, kd, du, sv, os, rv, al1, pl.go f1, al1.rw.imp fun G h => h.hd, hdu.go f1, v1, v4, v7, v11, v13, rfl⟩
  have rwF := al.rw
  have rw0 := al.rw.now
  cases rw0 with
  | @lst b xs os2 _ _ h p ff l =>
    refine ⟨_, rfl, _, _, _, _, true, rfl, .ty "list", .base (.lst h), kit_ty (by decide +kernel), true, rfl, ?_⟩
    refine iteT ?_
    refine ⟨_, rfl, d, 3, x0, y0, u0, rfl, hd, by decide, by decide, fun r x1 y1 u1 r0 r1 => ?_⟩
    have b1 : But d H (upd H d (dr x1 y1 u1)) := But.upd
    have hd1 : upd H d (dr x1 y1 u1) d = some (dr x1 y1 u1) := upd_same
    have al1 := al.but b1 ⟨_, _, _, hd1⟩
    have hb1 := b1 _ _ h (rw_ne rwF)
    generalize upd H d (dr x1 y1 u1) = G at b1 al1 hb1 hd1 ⊢
    refine ⟨rfl, _, rfl, ?_⟩
    by_cases h0 : V.int r = V.int 0
    rotate_left
    · refine ifF (decide_eq_false h0) ?_
      exact ⟨_, rfl, no G (Fr.but b1) al1⟩
    · refine ifT (decide_eq_true h0) ?_
      refine ⟨_, rfl, b, xs, rfl, .inl (sqL_of hb1), fun tw G1 s1 ht => ?_⟩
      have f2 : Fr d H G1 := (Fr.but b1).trans (Fr.same s1)
      have al2 := al1.same s1
      exact k _ _ ⟨d, z, zs, _, fb, bv, ob, vv, vw, kv, kd, du, sv, os, .ref tw, al2, pl.go f2, rw_tup (s1 _ _ hd1) al2.rw (s1 _ _ hb1) ht, hdu.go f2, v1, v4, v7, v11, v13, rfl⟩
  | non =>
    refine ⟨_, rfl, _, _, _, _, false, rfl, .ty "list", .base .non, kit_ty (by decide +kernel), false, rfl, ?_⟩
    refine iteF ?_
    refine iteF ?_
    exact ⟨_, rfl, no H (Fr.refl d H) al⟩
  | str =>
    refine ⟨_, rfl, _, _, _, _, false, rfl, .ty "list", .base (.str _), kit_ty (by decide +kernel), false, rfl, ?_⟩
    refine iteF ?_
    refine iteF ?_
    exact ⟨_, rfl, no H (Fr.refl d H) al⟩
  | int =>
    refine ⟨_, rfl, _, _, _, _, false, rfl, .ty "list", .base (.int _), kit_ty (by decide +kernel), false, rfl, ?_⟩
    refine iteF ?_
    refine iteF ?_
    exact ⟨_, rfl, no H (Fr.refl d H) al⟩
  | dic h =>
    refine ⟨_, rfl, _, _, _, _, false, rfl, .ty "list", .base (.dK h), kit_ty (by decide +kernel), false, rfl, ?_⟩
    refine iteF ?_
    refine iteF ?_
    exact ⟨_, rfl, no H (Fr.refl d H) al⟩
end
end Mv
/-! the law, statement 18: the scheme is tried -/
namespace Mv
open PySem PySem.Spec PyProof.Rows L2 LamX
theorem map_str_inj : ∀ {xs ys : List Str}, xs.map V.str = ys.map V.str → xs = ys
  | [], [], _ => rfl
  | [], _ :: _, h => by cases h
  | _ :: _, [], h => by cases h
  | x :: xs, y :: ys, h => by
    rw [List.map_cons, List.map_cons] at h
    injection h with h1 h2
    injection h1 with h1
    rw [h1, map_str_inj h2]
theorem bgOk_eq {o : Option (List V)} {zs : List Str} (l : ∀ xs, o = some xs → xs.length ≤ 7) : bgOk o zs = beginsB o zs := by
  cases o with
  | none => rfl
  | some xs =>
    have l7 := l xs rfl
    show (((decide ((1 : Int) ≤ xs.length) && decide ((xs.length : Int) ≤ 7)) && noBad xs) && xs.all fun y => inV y (zs.map V.str)) = (decide (xs.length ≠ 0) && (noBad xs && xs.all fun y => inV y (zs.map V.str)))
    rw [decide_eq_true (show (xs.length : Int) ≤ 7 by omega), Bool.and_true, Bool.and_assoc]
    have e : decide ((1 : Int) ≤ xs.length) = decide (xs.length ≠ 0) := by by_cases h : xs.length = 0 <;> simp [h] <;> omega
    rw [e]
theorem sm_two {K : PySem.W.Frag} {H : Hp} {u : V} {t : Str} {p q : Addr} {n : Nat} (hp : H p = some (.tup [.str t, u])) (hq : H q = some (.tup [.str t, u])) (h : SmD K H n u u) : SmD K H (n + 1) (.ref p) (.ref q) := by
  refine .tup (sqT_of hp) (sqT_of hq) rfl (by show 2 ≤ 1000; decide) fun i x y e1 e2 => ?_
  match i, e1, e2 with
  | 0, e1, e2 => cases e1; cases e2; exact .str _ _
  | 1, e1, e2 => cases e1; cases e2; exact h
theorem SmD.up {K : PySem.W.Frag} {H : Hp} {n : Nat} {x y : V} (h : SmD K H n x y) : SmD K H (n + 1) x y := by
  induction h with
  | int n i => exact .int _ i
  | bl n b => exact .bl _ b
  | non n => exact .non _
  | str n z => exact .str _ z
  | dic n h => exact .dic _ h
  | lst h1 h2 hl hz _ ih => exact .lst h1 h2 hl hz ih
  | tup h1 h2 hl hz _ ih => exact .tup h1 h2 hl hz ih
theorem first_uniq {zs : List Str} {os : List (Option Ru)} {o : Option Nat} {i : Nat} (h : FirstBad zs os o) (hi : i < os.length) (b : badR zs os i = true) (g : ∀ j, j < i → badR zs os j = false) : o = some i := by
  cases o with
  | none => rw [h i hi] at b; cases b
  | some j =>
    obtain ⟨h1, h2, h3⟩ := h
    rcases Nat.lt_trichotomy i j with q | q | q
    · rw [h3 i q] at b; cases b
    · rw [q]
    · rw [g j q] at h2; cases h2
theorem first_none {zs : List Str} {os : List (Option Ru)} {o : Option Nat} (h : FirstBad zs os o) (g : ∀ j, j < os.length → badR zs os j = false) : o = none := by
  cases o with
  | none => rfl
  | some j =>
    obtain ⟨h1, h2, _⟩ := h
    rw [g j h1] at h2
    cases h2
theorem tabs1 {P1 P2 : Addr} (ne : P1 ≠ P2) : ∀ p ∈ TT2 P1 P2, p.1 = P1 → p.2 = qLam := fun p hp e => by
  rcases List.mem_cons.mp hp with rfl | hp
  · rfl
  · rw [List.mem_singleton.mp hp] at e
    exact absurd e.symm ne
section
variable {P : Program} {w : World} {K : PySem.W.Frag} {mg : Str → Option Value} {base : Heap} {C CF CC CN CB CR CS CW CK CP CG CU CQ CL fI fS g fE fN fH : Addr} {fdI fdS fdg : FuncData} {P1 P2 c f : Addr} {A : Around} {outer : List Env} {s : Shared} {H0 : Hp} {E0' : XK} {a : Addr} {ns : List Int}
/-- behind a turn -/
def OGk (K : PySem.W.Frag) (P1 P2 a : Addr) (ns : List Int) (σ : L2.St) (H : Hp) : Prop := OG K P1 P2 a ns H ∧ ∃ v1 v2 v3 v4 v5 v6 v7 v8 v9 v10 v11 v12 v13, σ = [some (.ref a), v1, v2, v3, v4, v5, v6, v7, v8, v9, v10, v11, v12, v13]
theorem ho_18 (F : LF P w K mg base C CF CC CN CB CR CS CW CK CP CG CU CQ CL fI fS g fE fN fH fdI fdS fdg) (TB : TabB base mg c P1) (ne : P1 ≠ P2) (hr : Room 14 (LX P w K mg base f c A outer s H0 E0').A) : Ho (LX P w K mg base f c A outer s H0 E0') (stAt oB 18) (D17 K CR CC P1 P2 a ns) (OGk K P1 P2 a ns) := by
  have hb0 := F.trb
  obtain ⟨oc, od, kV, doc, pm0, an, cdv, ct, osl, ef, lk, hcd⟩ := F.tr.ex
  rw [ef] at lk hb0
  obtain ⟨gg, hbs⟩ := F.bs
  have hgv := tried_gives (X := LX P w K mg base f c A outer s H0 E0') (g := g) (cdg := cdv) (q := qLam) hr.hd F.ep F.eb F.eu F.eq F.ef F.tf
  refine ⟨_, ps_if (pt_not (pt_val (pe_d (E := E0) F.same hr (by decide) rfl pass0 (pa_cons (pe_lamcall (k := 8) (T := TT2 P1 P2) (a := "_law_work")
      (t := fun E' => tMakeK CS 3 (["promise", "faults"] : List Str).length (spSInit K CS CR CC CP CG CU CQ CL) (fun (vs zs : List V) => vs ++ zs) E' (tCons (tVar 3) (tCons (tVar 8) (tCons (tVar 12) tNil))) (tCons (tVar 9) (tCons (tVar 10) tNil)))
      rfl F.trg F.tr.kp lk hcd hb0 scTr rfl (.inl rfl) hgv TB rfl List.mem_cons_self (tabs1 ne) (hr.mono (by decide)) (lamS_by (sc := defScope sLaw) (by decide +kernel)) rfl (fun _ _ _ _ _ => rfl)
      (fun A' outer' s' H' E' f' c' hr2 => pe_makeK F.mks F.gs (hr2.mono (by decide)) rfl F.gS hbs (passes_call (takes_of rfl rfl rfl rfl) (fun _ _ _ _ q => q))
        (pa_cons (pv 3) (pa_cons (pv 8) (pa_cons (pv 12) pa_nil))) (pk_cons (pv 9) (pk_cons (pv 10) pk_nil)))) (pa_cons (pv 6) pa_nil))))) (pss_one (ps_ret pe_bl)) pss_nil, ?_⟩
  rintro D σ H ⟨d, z, zs, rv, fb, bv, ob, vv, vw, kv, kd, du, sv, os, hv, al, pl, hh, hdu, v1, v4, v7, v11, v13, rfl⟩ k
  obtain ⟨x0, y0, u0, hd⟩ := al.ig.2.2
  refine ⟨al.ig.2.1, fun H1 eN T1 => ?_⟩
  have al1 := al.ext eN T1
  have pl1 := pl.go (Fr.ext eN)
  have hh1 := hh.ext eN
  have hdu1 := hdu.ext eN
  have hd1 := eN _ _ hd (dr_nt x0 y0 u0)
  clear al pl hh hdu
  have fin : ∀ (p2 : Addr) (t : Str × V) (H2 : Hp), Same H1 H2 → (due5 (placesB os) sv (due4 (bgOk ob zs) bv (due3 fb (due2 vw (due1 (fauB kd) kv))))) = t → SmD K H2 4 t.2 t.2 → H2 p2 = some (.tup [.str t.1, t.2]) → spSame K 6 ([.ref p2, du] ++ []) H2 (fun v H' => ∃ b, v = .bl b ∧ ((fun c H' => if c = true then D.rt (.bl false) H' else D.nx (slc14 a d sv rv du v7 bv vv kv v1 v4 v11 (some hv) v13) H') (!b) H')) E0 := fun p2 t H2 s2 et sm h2 => by
    rw [et] at hdu1
    obtain ⟨q, rfl, hq⟩ := (hdu1.same s2).now
    refine ⟨_, _, rfl, (sm_two h2 hq sm).up, fun H3 s3 => ⟨_, rfl, ?_⟩⟩
    have ig3 := al1.ig.same (s2.trans s3)
    exact k _ _ ⟨⟨ig3.1.now, ig3.2.1⟩, _, _, _, _, _, _, _, _, _, _, _, _, _, rfl⟩
  refine ⟨_, rfl, _, rfl, _, rfl, _, rfl, _, rfl, rfl, rfl, ?_⟩
  intro np dx hnp hdx hne
  have s0 : Same H1 (upd (upd H1 dx (.own np)) np (.ins CS dx [])) := (same_new hdx).trans (same_new (by rw [upd_ne (Ne.symm hne)]; exact hnp))
  have f0 : Fr d H1 (upd (upd H1 dx (.own np)) np (.ins CS dx [])) := Fr.same s0
  have hnew : upd (upd H1 dx (.own np)) np (.ins CS dx []) np = some (.ins CS dx []) := upd_same
  show spSInit K CS CR CC CP CG CU CQ CL [.ref np, sv, bv, hv, vv, kv] (upd (upd H1 dx (.own np)) np (.ins CS dx [])) _ _
  generalize upd (upd H1 dx (.own np)) np (.ins CS dx []) = G at s0 f0 hnew ⊢
  have same2 : ∀ {dd : Addr} {H' H2 : Hp} {o : HO}, Same G H' → H' dd = none → Same (upd H' dd o) H2 → Same H1 H2 := fun {dd H' H2 o} sm nd s2 => s0.trans (sm.trans ((same_new nd).trans s2))
  refine ⟨np, dx, sv, bv, hv, vv, kv, os, ob, rfl, hnew, (pl1.h G f0).1, (al1.bg.h G f0).1, fun e1 => ?_, fun zs' ez e1 => ?_⟩
  · intro dd H' sm nd
    refine .inl ⟨rfl, dd, _, rfl, upd_same, fun q2 H2 s2 n2 h2 => ?_⟩
    have s12 := same2 sm nd s2
    exact ⟨_, rfl, fin q2 ("places", sv) H2 s12 (by rw [e1]; rfl) (pl1.h H2 (Fr.same s12)).2 h2⟩
  obtain rfl : zs' = zs := by
    rcases pl1.w with ⟨_, e⟩ | e
    · rw [ez] at e
      exact map_str_inj (Option.some.inj e)
    · rw [e1] at e
      cases e
  have t5 : ∀ t, due5 (placesB os) sv t = t := fun t => by rw [e1]; rfl
  refine ⟨fun e2 => ?_, fun ys ey e2 => ?_⟩
  · intro dd H' sm nd
    refine .inr (.inl ⟨rfl, dd, _, rfl, upd_same, fun q2 H2 s2 n2 h2 => ?_⟩)
    have s12 := same2 sm nd s2
    exact ⟨_, rfl, fin q2 ("begins", bv) H2 s12 (by rw [t5, bgOk_eq al1.bg.l, e2]; rfl) (al1.bg.h H2 (Fr.same s12)).2 h2⟩
  have t4 : ∀ t, due5 (placesB os) sv (due4 (bgOk ob zs') bv t) = t := fun t => by rw [t5, bgOk_eq al1.bg.l, e2]; rfl
  -- the rules
  have hdn := hh1 G f0
  have vwn := al1.vw G f0
  obtain ⟨kf, _⟩ := al1.kd G f0
  cases hdn with
  | no hkl =>
    refine .inl ⟨hkl, ?_⟩
    intro dd H' sm nd
    refine .inr (.inr (.inl ⟨rfl, dd, _, rfl, upd_same, fun q2 H2 s2 n2 h2 => ?_⟩))
    exact ⟨_, rfl, fin q2 ("rule", .int 0) H2 (same2 sm nd s2) (by rw [t4]; rfl) (.int _ _) h2⟩
  | @seq a3 xs os2 _ _ h3 p3 f3 =>
    refine .inr ⟨a3, xs, os2, rfl, h3, p3, fun i hi hb hg => ?_, fun hg => ?_⟩
    · have e := first_uniq f3 hi hb hg
      intro dd H' sm nd
      refine .inr (.inr (.inl ⟨rfl, dd, _, rfl, upd_same, fun q2 H2 s2 n2 h2 => ?_⟩))
      exact ⟨_, rfl, fin q2 ("rule", .int i) H2 (same2 sm nd s2) (by rw [t4, e]; rfl) (.int _ _) h2⟩
    have e3 := first_none f3 hg
    have t3 : ∀ t, due5 (placesB os) sv (due4 (bgOk ob zs') bv (due3 fb t)) = t := fun t => by rw [t4, e3]; rfl
    -- the promises
    cases vwn with
    | non =>
      refine .inl ⟨fun H' _ => ⟨_, .base .non, kit_any (bs := ["list", "tuple"]) (by decide +kernel)⟩, ?_⟩
      intro dd H' sm nd
      refine .inr (.inr (.inr (.inl ⟨rfl, dd, _, rfl, upd_same, fun q2 H2 s2 n2 h2 => ?_⟩)))
      exact ⟨_, rfl, fin q2 ("promise", .int 0) H2 (same2 sm nd s2) (by rw [t3]; rfl) (.int _ _) h2⟩
    | @nilL a4 _ h4 =>
      refine .inr ⟨a4, [], [], rfl, .inl (sqL_of h4), .nil, fun i hi => by simp at hi, fun _ => ?_⟩
      refine ⟨kd, kf, fun e5 => ?_, fun e5 => ?_⟩
      · intro dd H' sm nd
        refine .inr (.inr (.inr (.inr ⟨rfl, dd, _, rfl, upd_same, fun q2 H2 s2 n2 h2 => ?_⟩)))
        have s12 := same2 sm nd s2
        exact ⟨_, rfl, fin q2 ("faults", kv) H2 s12 (by rw [t3, e5]; rfl) (al1.kd H2 (Fr.same s12)).2 h2⟩
      · intro t1' t2' t3' t4' H' _ _ _ _ _ keep
        have s1 : Same H1 H' := fun b o eb => keep b o (s0 _ _ eb) (ne_of_none eb hnp)
        exact ⟨rfl, fun p' H2 s2 n2 h2 => ⟨_, rfl, fin p' ("made", .bl true) H2 (s1.trans s2) (by rw [t3, e5]; rfl) (.bl _ _) h2⟩⟩
    | @nilT a4 _ h4 =>
      refine .inr ⟨a4, [], [], rfl, .inr h4, .nil, fun i hi => by simp at hi, fun _ => ?_⟩
      refine ⟨kd, kf, fun e5 => ?_, fun e5 => ?_⟩
      · intro dd H' sm nd
        refine .inr (.inr (.inr (.inr ⟨rfl, dd, _, rfl, upd_same, fun q2 H2 s2 n2 h2 => ?_⟩)))
        have s12 := same2 sm nd s2
        exact ⟨_, rfl, fin q2 ("faults", kv) H2 s12 (by rw [t3, e5]; rfl) (al1.kd H2 (Fr.same s12)).2 h2⟩
      · intro t1' t2' t3' t4' H' _ _ _ _ _ keep
        have s1 : Same H1 H' := fun b o eb => keep b o (s0 _ _ eb) (ne_of_none eb hnp)
        exact ⟨rfl, fun p' H2 s2 n2 h2 => ⟨_, rfl, fin p' ("made", .bl true) H2 (s1.trans s2) (by rw [t3, e5]; rfl) (.bl _ _) h2⟩⟩
    | @five a4 _ h4 =>
      refine .inr ⟨a4, [.int 5], [false], rfl, .inl (sqL_of h4), .cons (fun H' s => .inr ⟨rfl, _, .base (.int _), F.kcc⟩) .nil, fun i hi hg2 => ?_, fun hg2 => ?_⟩
      · have e : i = 0 := by
          have := (List.getElem?_eq_some_iff.mp hi).1
          have h1 : i < 1 := this
          omega
        subst e
        intro dd H' sm nd
        refine .inr (.inr (.inr (.inl ⟨rfl, dd, _, rfl, upd_same, fun q2 H2 s2 n2 h2 => ?_⟩)))
        exact ⟨_, rfl, fin q2 ("promise", .int 0) H2 (same2 sm nd s2) (by rw [t3]; rfl) (.int _ _) h2⟩
      · have := hg2 0 (by show 0 < 1; decide)
        cases this
    | @two a4 p q ps qs c1 c2 _ h4 hp hq b1 b2 n1 n2 l1 l2 =>
      refine .inr ⟨a4, [.ref p, .ref q], [true, false], rfl, .inl (sqL_of h4), .cons (fun H' s => .inl ⟨p, ps, c1, rfl, hp.same s, n1, l1, b1.symm⟩) (.cons (fun H' s => .inl ⟨q, qs, c2, rfl, hq.same s, n2, l2, b2.symm⟩) .nil), fun i hi hg2 => ?_, fun hg2 => ?_⟩
      · have e : i = 1 := by
          match i, hi with
          | 1, _ => rfl
        subst e
        intro dd H' sm nd
        refine .inr (.inr (.inr (.inl ⟨rfl, dd, _, rfl, upd_same, fun q2 H2 s2 n2 h2 => ?_⟩)))
        exact ⟨_, rfl, fin q2 ("promise", .int 1) H2 (same2 sm nd s2) (by rw [t3]; rfl) (.int _ _) h2⟩
      · have := hg2 1 (by show 1 < 2; decide)
        cases this
end
end Mv
/-! _law_far_twice -/
namespace Mv
open PySem PySem.Spec PyProof.Rows L2 LamX
/-- Rule(..) of words gives the rule -/
theorem rule_gen {K : PySem.W.Frag} {CR CC CW CK : Addr} {r : Ru} {sl wl np dx : Addr} {H : Hp} {Q : VK} (w : ∀ z ∈ r.n :: r.s :: r.e :: r.ss, isWS z = true ∧ z.length ≤ 8) (l50 : r.ss.length ≤ 50) (nb : ∀ j, j < (r.ss.map V.str).length → badAt (r.ss.map V.str) j = false) (pm : ∀ ys, ys.Perm r.ss → sortedS ys = true → ys = r.ss)
    (hsl : Sq K H sl (r.ss.map V.str)) (hwl : Sq K H wl []) (hp : H np = some (.ins CR dx []))
    (k : ∀ H', RuAt K CR H' np r → (∀ b o, H b = some o → b ≠ np → H' b = some o) → Q .non H') : spRInit K CR CC CW CK [.ref np, .str r.n, .str r.s, .str r.e, .ref wl, .ref sl] H Q E0 := by
  have w3 : ∀ u ∈ [V.str r.n, V.str r.s, V.str r.e], ∃ z, u = .str z ∧ isWS z = true ∧ z.length ≤ 8 := fun u hu => by
    simp only [List.mem_cons, List.not_mem_nil, or_false] at hu
    rcases hu with rfl | rfl | rfl
    · exact ⟨_, rfl, w _ (by simp)⟩
    · exact ⟨_, rfl, w _ (by simp)⟩
    · exact ⟨_, rfl, w _ (by simp)⟩
  refine ⟨np, dx, _, _, _, _, _, rfl, hp, fun u hu H' _ => ?_, fun i u hi hw _ => ?_, fun _ => .inr ⟨sl, r.ss.map V.str, rfl, hsl, fun u hu H' _ => ?_, by rw [List.length_map]; exact l50, fun i u hi hb _ => ?_, fun _ => ⟨r.ss, rfl, .inr ⟨wl, [], [], rfl, hwl, .nil, fun i hi => by simp at hi, fun _ tw ts ys H' pe so h1 h2 h3 keep => ?_⟩⟩⟩⟩
  · obtain ⟨z, rfl, _, hz⟩ := w3 u hu
    exact kn_w hz
  · obtain ⟨z, rfl, hz, _⟩ := w3 u (List.mem_of_getElem? hi)
    rw [show isW (.str z) = true from hz] at hw
    cases hw
  · obtain ⟨z, hz, rfl⟩ := List.mem_map.mp hu
    exact kn_w (w z (by simp [hz])).2
  · rw [nb i (List.getElem?_eq_some_iff.mp hi).1] at hb
    cases hb
  · rw [pm ys pe so] at h2
    exact k H' ⟨[], dx, tw, ts, h3, h1, h2⟩ keep
theorem sqT_ext {K : PySem.W.Frag} {H H' : Hp} {a : Addr} {xs : List V} (e : ExtN H H') (h : SqT K H a xs) : SqT K H' a xs := by
  rcases h with (h | ⟨u, h⟩) | h
  · exact .inl (.inl (e _ _ h fun ps z => by cases z))
  · exact .inl (.inr ⟨u, e _ _ h fun ps z => by cases z⟩)
  · exact .inr h
theorem ruAt_ext {K : PySem.W.Frag} {CR : Addr} {H H' : Hp} {a : Addr} {r : Ru} (e : ExtN H H') (h : RuAt K CR H a r) : RuAt K CR H' a r := by
  obtain ⟨ws, dx, tw, ts, h1, h2, h3⟩ := h
  exact ⟨ws, dx, tw, ts, e _ _ h1 (fun ps z => by cases z), sqT_ext e h2, sqT_ext e h3⟩
abbrev fr0 : Ru := ⟨"ra", "a", "b", ["yes"]⟩
abbrev fr1 : Ru := ⟨"rb", "b", "c", []⟩
abbrev fr2 : Ru := ⟨"rc", "c", "d", ["no", "yes"]⟩
abbrev fzs : List Str := ["a", "b", "c", "d"]
theorem fr_w : ∀ r ∈ [fr0, fr1, fr2], (∀ z ∈ r.n :: r.s :: r.e :: r.ss, isWS z = true ∧ z.length ≤ 8) ∧ r.ss.length ≤ 50 ∧ ∀ j ∈ List.range (r.ss.map V.str).length, badAt (r.ss.map V.str) j = false := by decide +kernel
theorem fr_pl : placesB (some (fzs.map V.str)) = true ∧ beginsB (some ((["b"] : List Str).map V.str)) fzs = true := by decide +kernel
theorem fr_bad : badR fzs [some fr0, some fr1, some fr2] 0 = false ∧ badR fzs [some fr0, some fr1, some fr2] 1 = false ∧ badR fzs [some fr0, some fr1, some fr2] 2 = true := by decide +kernel
theorem fr_so : sortedS ["yes", "no"] = false := by decide +kernel
abbrev nFar : List Str := ["_law_lines"]
theorem scFar : FnScope nFar [] (defScope sFar) := ⟨rfl, rfl, rfl, by decide +kernel, rfl, by decide +kernel, by decide +kernel⟩
abbrev FX (P : Program) (w : World) (K : PySem.W.Frag) (mg : Str → Option Value) (base : Heap) (f c : Addr) (A : Around) (outer : List Env) (s : Shared) (H : Hp) (E : XK) : Cx := (cxOf C8.CX0 P w K mg base nFar "_law_far_twice" (defScope sFar) f (.ref c) A outer s H E).nox
theorem tabs_ne2 {P1 P2 : Addr} (ne : P1 ≠ P2) : ∀ p ∈ TT2 P1 P2, p.1 = P2 → p.2 = qLam2 := fun p hp e => by
  rcases List.mem_cons.mp hp with rfl | hp
  · exact absurd e ne
  · rw [List.mem_singleton.mp hp]
def spFar (P1 P2 : Addr) : Sp := fun vs H Q _ => vs = [] ∧ Tabs (TT2 P1 P2) H ∧ ∀ H', Q (.bl true) H'
section
variable {P : Program} {w : World} {K : PySem.W.Frag} {mg : Str → Option Value} {base : Heap} {C CF CC CN CB CR CS CW CK CP CG CU CQ CL fI fS g fE fN fH : Addr} {fdI fdS fdg : FuncData} {P1 P2 c c2 f : Addr}
theorem farB_eq : defBody sFar = [stAt (defBody sFar) 0, stAt (defBody sFar) 1] := rfl
theorem ok_far {oc : Value} {od : Option Addr} {kV doc pm ct : Value} {an : Option Addr} {osl : Array (Option Value)} (lk : K.lookup f = some ⟨oc, od, .func (PySem.W.fnOf "_law_far_twice" "_law_far_twice" (defArgs sFar) (defBody sFar) (defScope sFar) .none kV doc pm an (.ref c2) ct), osl⟩) (hcd : PySem.W.codeIn K (.ref c2) "_law_far_twice" = true)
    (F : LF P w K mg base C CF CC CN CB CR CS CW CK CP CG CU CQ CL fI fS g fE fN fH fdI fdS fdg) (TB : TabB base mg c2 P2) (ne : P1 ≠ P2) : FnOk P w K mg base C8.CX0 14 f (PySem.W.fnOf "_law_far_twice" "_law_far_twice" (defArgs sFar) (defBody sFar) (defScope sFar) .none kV doc pm an (.ref c2) ct) [] (spFar P1 P2) := by
  refine fn_of (k := 13) lk hcd scFar (fun vs H Q E h => ?_) (fun A outer s H vs Q E hr h => ?_)
  · obtain ⟨rfl, _⟩ := h
    rfl
  · obtain ⟨rfl, hT, k⟩ := h
    have hr : Room 13 (FX P w K mg base f c2 A outer s H E).A := hr
    have hb0 := F.trb
    obtain ⟨oc0, od0, kV0, doc0, pm0, an0, cdv, ct0, osl0, ef, lk0, hcd0⟩ := F.tr.ex
    rw [ef] at lk0 hb0
    obtain ⟨TA, TB', ds, hv2, hbi, hTT⟩ := F.bi2
    obtain ⟨TC, ds2, hv3, hbs, hTC⟩ := F.bs0
    have hgv := tried_gives (X := FX P w K mg base f c2 A outer s H E) (g := g) (cdg := cdv) (q := qLam2) hr.hd F.ep F.eb F.eu F.eq F.ef F.tf
    refine ⟨_, PSs.nox (by
      rw [farB_eq]
      exact pss_cons (ps_set (i := 0) scFar.nd rfl (.inr rfl) (pe_lst (pa_cons (pe_make F.mkr F.gi (hr.mono (by decide)) rfl F.gR F.bi0 .nil passX (pa_cons pe_str (pa_cons pe_str (pa_cons pe_str (pa_cons (pe_lst pa_nil) (pa_cons (pe_lst (pa_cons pe_str pa_nil)) pa_nil))))))
          (pa_cons (pe_make F.mkr F.gi (hr.mono (by decide)) rfl F.gR hbi hv2 passX (pa_cons pe_str (pa_cons pe_str (pa_cons pe_str pa_nil))))
          (pa_cons (pe_make F.mkr F.gi (hr.mono (by decide)) rfl F.gR F.bi0 .nil passX (pa_cons pe_str (pa_cons pe_str (pa_cons pe_str (pa_cons (pe_lst pa_nil) (pa_cons (pe_lst (pa_cons pe_str (pa_cons pe_str pa_nil))) pa_nil)))))) pa_nil)))))
        (pss_one (ps_ret (pe_d (E := E0) F.same hr (by decide) rfl pass0 (pa_cons (pe_lamcall (X := FX P w K mg base f c2 A outer s H E) (k := 8) (T := TT2 P1 P2) (a := "_law_work")
          (t := fun E' => tMake CS (spSInit K CS CR CC CP CG CU CQ CL) [V.ref TC, V.str "lying"] E' (tCons (tLst (tCons (tC (.str "a")) (tCons (tC (.str "b")) (tCons (tC (.str "c")) (tCons (tC (.str "d")) tNil))))) (tCons (tLst (tCons (tC (.str "b")) tNil)) (tCons (tVar 0) tNil))))
          rfl F.trg F.tr.kp lk0 hcd0 hb0 scTr rfl (.inl rfl) hgv TB rfl (List.mem_cons_of_mem _ List.mem_cons_self) (tabs_ne2 ne) (hr.mono (by decide)) (lamS_by (sc := defScope sFar) (by decide +kernel)) rfl (fun _ _ _ _ _ => rfl)
          (fun A' outer' s' H' E' f' c' hr2 => pe_make F.mks F.gs (hr2.mono (by decide)) rfl F.gS hbs hv3 (passes_call (takes_of rfl rfl rfl rfl) (fun _ _ _ _ q => q))
            (pa_cons (pe_lst (pa_cons pe_str (pa_cons pe_str (pa_cons pe_str (pa_cons pe_str pa_nil))))) (pa_cons (pe_lst (pa_cons pe_str pa_nil)) (pa_cons (pv 0) pa_nil))))) (pa_cons (pe_tup (pa_cons pe_str (pa_cons pe_int pa_nil))) pa_nil)))))), ?_⟩
    have rw0 : ∀ r ∈ [fr0, fr1, fr2], ∀ j, j < (r.ss.map V.str).length → badAt (r.ss.map V.str) j = false := fun r hr j hj => (fr_w r hr).2.2 j (List.mem_range.mpr hj)
    have rk : ∀ {np dx : Addr} {H : Hp}, H np = none → H dx = none → dx ≠ np → ∀ {H' : Hp}, (∀ b o, upd (upd H dx (.own np)) np (.ins CR dx []) b = some o → b ≠ np → H' b = some o) → Same H H' := fun {np dx H} hnp hdx hne {H'} keep b o eb => by
      have n1 : b ≠ np := ne_of_none eb hnp
      have n2 : b ≠ dx := ne_of_none eb hdx
      exact keep b o (by rw [upd_ne n1, upd_ne n2]; exact eb) n1
    -- the three rules
    refine ⟨(by show 0 ≤ sizeLine; decide), fun w0 hw0 => ⟨(by show 1 ≤ sizeLine; decide), fun y0 hy0 => ?_⟩⟩
    intro n0 dx0 hnp0 hdx0 hne0
    have a1 := same_new (o := .lst []) hw0
    have a2 := same_new (o := .lst [V.str "yes"]) hy0
    have a3 : Same _ (upd (upd (upd (upd H w0 (.lst [])) y0 (.lst [V.str "yes"])) dx0 (.own n0)) n0 (.ins CR dx0 [])) := (same_new hdx0).trans (same_new (by rw [upd_ne (Ne.symm hne0)]; exact hnp0))
    refine rule_gen (r := fr0) (fr_w _ (by simp)).1 (fr_w _ (by simp)).2.1 (rw0 _ (by simp)) (fun ys h _ => perm_one (by decide) h) (.inl (sqL_of (a3 _ _ upd_same))) (.inl (sqL_of (a3 _ _ (a2 _ _ upd_same)))) upd_same fun G0 q0 keep0 => ⟨rfl, ?_⟩
    have S0 := a1.trans (a2.trans (rk hnp0 hdx0 hne0 keep0))
    intro n1 dx1 hnp1 hdx1 hne1
    refine rule_gen (r := fr1) (fr_w _ (by simp)).1 (fr_w _ (by simp)).2.1 (rw0 _ (by simp)) (fun ys h _ => perm_one (by decide) h) (.inr (hTT _).2) (.inr (hTT _).1) upd_same fun G1 q1 keep1 => ⟨rfl, ?_⟩
    have S1 := rk hnp1 hdx1 hne1 keep1
    refine ⟨(by show 0 ≤ sizeLine; decide), fun w2 hw2 => ⟨(by show 2 ≤ sizeLine; decide), fun y2 hy2 => ?_⟩⟩
    intro n2 dx2 hnp2 hdx2 hne2
    have b1 := same_new (o := .lst []) hw2
    have b2 := same_new (o := .lst [V.str "no", V.str "yes"]) hy2
    have b3 : Same _ (upd (upd (upd (upd G1 w2 (.lst [])) y2 (.lst [V.str "no", V.str "yes"])) dx2 (.own n2)) n2 (.ins CR dx2 [])) := (same_new hdx2).trans (same_new (by rw [upd_ne (Ne.symm hne2)]; exact hnp2))
    refine rule_gen (r := fr2) (fr_w _ (by simp)).1 (fr_w _ (by simp)).2.1 (rw0 _ (by simp)) (fun ys h so => ?_) (.inl (sqL_of (b3 _ _ upd_same))) (.inl (sqL_of (b3 _ _ (b2 _ _ upd_same)))) upd_same fun G2 q2 keep2 => ⟨rfl, ?_⟩
    · rcases perm_two h with rfl | rfl
      · rfl
      · rw [fr_so] at so
        cases so
    have S2 := b1.trans (b2.trans (rk hnp2 hdx2 hne2 keep2))
    refine ⟨(by show 3 ≤ sizeLine; decide), fun L hL => ?_⟩
    have s3 := same_new (o := .lst [V.ref n0, V.ref n1, V.ref n2]) hL
    have gL : upd G2 L (.lst [V.ref n0, V.ref n1, V.ref n2]) L = some (.lst [V.ref n0, V.ref n1, V.ref n2]) := upd_same
    have q0 := RuAt.same (S1.trans (S2.trans s3)) q0
    have q1 := RuAt.same (S2.trans s3) q1
    have q2 := RuAt.same s3 q2
    have T0 := tabs_same hT (S0.trans (S1.trans (S2.trans s3)))
    show gName 0 (V.ref L) _ (upd G2 L (.lst [V.ref n0, V.ref n1, V.ref n2])) _
    generalize upd G2 L (.lst [V.ref n0, V.ref n1, V.ref n2]) = G3 at gL q0 q1 q2 T0 ⊢
    refine ⟨T0, fun H1 eN T1 => ?_⟩
    have gL := eN _ _ gL fun ps z => by cases z
    have q0 := ruAt_ext eN q0
    have q1 := ruAt_ext eN q1
    have q2 := ruAt_ext eN q2
    refine ⟨(by show 4 ≤ sizeLine; decide), fun p4 hp4 => ⟨(by show 1 ≤ sizeLine; decide), fun p1 hp1 => ⟨_, rfl, ?_⟩⟩⟩
    have s4 := same_new (o := .lst [V.str "a", V.str "b", V.str "c", V.str "d"]) hp4
    have s5 := same_new (o := .lst [V.str "b"]) hp1
    have gL := s5 _ _ (s4 _ _ gL)
    have q0 := RuAt.same (s4.trans s5) q0
    have q1 := RuAt.same (s4.trans s5) q1
    have q2 := RuAt.same (s4.trans s5) q2
    have g4 := s5 _ _ (upd_same (H := H1) (a := p4) (o := .lst [V.str "a", V.str "b", V.str "c", V.str "d"]))
    have g5 : upd (upd H1 p4 (.lst [V.str "a", V.str "b", V.str "c", V.str "d"])) p1 (.lst [V.str "b"]) p1 = some (.lst [V.str "b"]) := upd_same
    generalize upd (upd H1 p4 (.lst [V.str "a", V.str "b", V.str "c", V.str "d"])) p1 (.lst [V.str "b"]) = G4 at gL q0 q1 q2 g4 g5 ⊢
    intro np dx hnp hdx hne
    have s6 : Same G4 (upd (upd G4 dx (.own np)) np (.ins CS dx [])) := (same_new hdx).trans (same_new (by rw [upd_ne (Ne.symm hne)]; exact hnp))
    have hnew : upd (upd G4 dx (.own np)) np (.ins CS dx []) np = some (.ins CS dx []) := upd_same
    have gL := s6 _ _ gL
    have g4 := s6 _ _ g4
    have g5 := s6 _ _ g5
    have q0 := RuAt.same s6 q0
    have q1 := RuAt.same s6 q1
    have q2 := RuAt.same s6 q2
    show spSInit K CS CR CC CP CG CU CQ CL [.ref np, .ref p4, .ref p1, .ref L, .ref TC, .str "lying"] (upd (upd G4 dx (.own np)) np (.ins CS dx [])) _ _
    generalize upd (upd G4 dx (.own np)) np (.ins CS dx []) = G5 at gL q0 q1 q2 g4 g5 hnew ⊢
    have hz : ∀ z ∈ fzs, z.length ≤ 8 := by decide +kernel
    have hb8 : ∀ z ∈ (["b"] : List Str), z.length ≤ 8 := by decide +kernel
    refine ⟨np, dx, _, _, _, _, _, some (fzs.map V.str), some ((["b"] : List Str).map V.str), rfl, hnew, (ob_lst (xs := fzs.map V.str) g4 (el_strs hz) (by show 4 ≤ 900; decide)).1, (ob_lst (xs := (["b"] : List Str).map V.str) g5 (el_strs hb8) (by show 1 ≤ 900; decide)).1, (fun e => by rw [fr_pl.1] at e; cases e), fun zs' ez _ => ?_⟩
    obtain rfl : fzs = zs' := map_str_inj (Option.some.inj ez)
    refine ⟨(fun e => by rw [fr_pl.2] at e; cases e), fun ys _ _ => .inr ⟨L, [V.ref n0, V.ref n1, V.ref n2], [some fr0, some fr1, some fr2], rfl, .inl (sqL_of gL), .cons (.inl ⟨n0, fr0, rfl, rfl, q0, by decide⟩) (.cons (.inl ⟨n1, fr1, rfl, rfl, q1, by decide⟩) (.cons (.inl ⟨n2, fr2, rfl, rfl, q2, by decide⟩) .nil)), fun i hi hb hg => ?_, fun hg => ?_⟩⟩
    · have e : i = 2 := by
        match i, hi, hb with
        | 0, _, hb => rw [fr_bad.1] at hb; cases hb
        | 1, _, hb => rw [fr_bad.2.1] at hb; cases hb
        | 2, _, _ => rfl
        | i + 3, hi, _ => exact absurd (show i + 3 < 3 from hi) (by omega)
      subst e
      intro dd H' sm nd
      refine .inr (.inr (.inl ⟨rfl, dd, _, rfl, upd_same, fun p2 H2 s2 n2' h2 => ?_⟩))
      refine ⟨(by show 2 ≤ sizeLine; decide), fun p hp => ?_⟩
      have s7 := same_new (o := .tup [V.str "rule", V.int 2]) hp
      exact ⟨_, _, rfl, (sm_two (s7 _ _ h2) upd_same (.int _ _)).up, fun H3 s3 => k H3⟩
    · have h2 := hg 2 (by show 2 < 3; decide)
      rw [fr_bad.2.2] at h2
      cases h2
end
end Mv
/-! the law: its loop, its promise -/
namespace Mv
open PySem PySem.Spec PyProof.Rows L2 LamX
section
variable {P : Program} {w : World} {K : PySem.W.Frag} {mg : Str → Option Value} {base : Heap} {C CF CC CN CB CR CS CW CK CP CG CU CQ CL fI fS g fE fN fH : Addr} {fdI fdS fdg : FuncData} {P1 P2 c f : Addr} {A : Around} {outer : List Env} {s : Shared} {H0 : Hp} {E0' : XK} {a : Addr} {ns : List Int}
theorem oB_eq : oB = [stAt oB 0, stAt oB 1, stAt oB 2, stAt oB 3, stAt oB 4, stAt oB 5, stAt oB 6, stAt oB 7, stAt oB 8, stAt oB 9, stAt oB 10, stAt oB 11, stAt oB 12, stAt oB 13, stAt oB 14, stAt oB 15, stAt oB 16, stAt oB 17, stAt oB 18] := rfl
theorem lawB_eq : defBody sLaw = [stAt lawB 0, stAt lawB 1] := rfl
theorem ho_outer (F : LF P w K mg base C CF CC CN CB CR CS CW CK CP CG CU CQ CL fI fS g fE fN fH fdI fdS fdg) (TB : TabB base mg c P1) (ne : P1 ≠ P2) (hr : Room 14 (LX P w K mg base f c A outer s H0 E0').A) : Ho (LX P w K mg base f c A outer s H0 E0') (stAt lawB 0) (OGk K P1 P2 a ns) (OGk K P1 P2 a ns) := by
  have body := (ho_0 (f := f) (c := c) (A := A) (outer := outer) (s := s) (H0 := H0) (E0' := E0') (P1 := P1) (P2 := P2) F hr (a := a) (ns := ns)).cons ((ho_1 F hr).cons ((ho_2 F hr).cons ((ho_3 F hr).cons ((ho_4 F hr).cons ((ho_5 F hr).cons ((ho_6 F hr).cons ((ho_7 F hr).cons ((ho_8 F hr).cons ((ho_9 F hr).cons ((ho_10 F hr).cons ((ho_11 F hr).cons ((ho_12 F hr).cons ((ho_13 F hr).cons ((ho_14 F hr).cons ((ho_15 F hr).cons ((ho_16 F hr).cons ((ho_17 F hr).cons ((ho_18 F TB ne hr).cons Hos.nil))))))))))))))))))
  rw [← oB_eq] at body
  obtain ⟨tb, hb, kb⟩ := body
  refine ⟨_, ps_for PassesOwn.never rfl (pi_range1 (by rfl) F.range (pa_cons (pe_op op_add pe_int (pe_callB (call_min2 rfl) (by rfl) F.min (by decide +kernel) (pa_cons (pe_callB call_len_seq (by rfl) F.len PySem.boot_len (pa_cons (pv 0) pa_nil)) (pa_cons pe_int pa_nil)))) pa_nil)) (pg_name (i := 1) scLa.nd rfl (.inl rfl)) hb, ?_⟩
  rintro D σ H ⟨⟨hS, hT⟩, so⟩ k
  obtain ⟨v1, v2, v3, v4, v5, v6, v7, v8, v9, v10, v11, v12, v13, rfl⟩ := so
  refine ⟨_, rfl, a, _, rfl, .inl hS, _, _, rfl, _, _, rfl, rfl, ?_⟩
  refine ⟨_, rfl, ?_, ?_, for_it walk_range (fun i σ' H' => OGk K P1 P2 a ns σ' H') ⟨⟨hS, hT⟩, v1, v2, v3, v4, v5, v6, v7, v8, v9, v10, v11, v12, v13, rfl⟩ (fun _ _ _ _ _ => True.intro) ?_ (fun σ' H' h => k σ' H' h)⟩
  · split <;> omega
  · split <;> omega
  · rintro i x σ' H' _ hi ⟨og, v1, v2, v3, v4, v5, v6, v7, v8, v9, v10, v11, v12, v13, rfl⟩ ⟨rfl, rfl⟩
    refine kb _ _ _ ⟨i, ?_, og, v2, v3, v4, v5, v6, v7, v8, v9, v10, v11, v12, v13, ?_⟩ ?_
    · split at hi <;> omega
    · show List.set [some (.ref a), v1, v2, v3, v4, v5, v6, v7, v8, v9, v10, v11, v12, v13] 1 (some (V.int (0 + (i : Int)))) = _
      rw [Int.zero_add]
      rfl
    · rintro σ2 H2 h
      exact h
def spLaw (K : PySem.W.Frag) (P1 P2 : Addr) : Sp := fun vs H Q _ => ∃ (a : Addr) (ns : List Int), vs = [.ref a] ∧ SqL K H a (ns.map V.int) ∧ Tabs (TT2 P1 P2) H ∧ ∀ H', Q (.bl true) H'
theorem ok_law {oc : Value} {od : Option Addr} {kV doc pm ct : Value} {an : Option Addr} {osl : Array (Option Value)} (lk : K.lookup f = some ⟨oc, od, .func (PySem.W.fnOf "law" "law" (defArgs sLaw) (defBody sLaw) (defScope sLaw) .none kV doc pm an (.ref c) ct), osl⟩) (hcd : PySem.W.codeIn K (.ref c) "law" = true)
    (F : LF P w K mg base C CF CC CN CB CR CS CW CK CP CG CU CQ CL fI fS g fE fN fH fdI fdS fdg) (FAR : Dn P w K mg base C8.CX0 14 "_law_far_twice" [] (spFar P1 P2)) (TB : TabB base mg c P1) (ne : P1 ≠ P2) : FnOk P w K mg base C8.CX0 15 f (PySem.W.fnOf "law" "law" (defArgs sLaw) (defBody sLaw) (defScope sLaw) .none kV doc pm an (.ref c) ct) ["_law_script"] (spLaw K P1 P2) := by
  refine fn_of (k := 14) lk hcd scLa (fun vs H Q E h => ?_) (fun A outer s H vs Q E hr h => ?_)
  · obtain ⟨a, ns, rfl, _⟩ := h
    rfl
  · obtain ⟨a, ns, rfl, hS, hT, k⟩ := h
    have hr : Room 14 (LX P w K mg base f c A outer s H E).A := hr
    obtain ⟨t0, p0, k0⟩ := ho_outer F TB ne hr (a := a) (ns := ns)
    have p4 : PS (LX P w K mg base f c A outer s H E) (stAt lawB 1) _ := ps_ret (pe_d0 FAR hr (by decide) rfl pass0)
    refine ⟨_, PSs.nox (by rw [lawB_eq]; exact pss_cons p0 (pss_one p4)), ?_⟩
    refine k0 _ _ _ ⟨⟨hS, hT⟩, none, none, none, none, none, none, none, none, none, none, none, none, none, rfl⟩ fun σ1 H1 h1 => ?_
    exact ⟨rfl, h1.1.2, fun H' => k H'⟩
end
end Mv
namespace Mv
open PySem PySem.Spec PySem.W PyProof.Rows L2
abbrev R : OpenRow := OpenLaw.row PySem.Challenge.rw_manyvoices_k08_schemes_refused
def topNames : List Str := (["gcd", "_wall", "VoiceError", "BadWord", "BadForm", "NoTerms", "BadConstant", "BadCondition", "BadPlaces", "BadBegins", "BadRule", "BadPromise", "BadFaults", "NoRule"] : List Str) ++ (["LONGEST_WORD", "is_integer", "is_list", "is_word", "first_unfit", "KINDS", "Form", "Comparison", "members", "bound", "at", "at_least", "_checked_word"] : List Str) ++ (["_single", "_as_form", "_rank", "_sum", "_times", "_compared", "MOST_PLACES", "MOST_RULES", "FAULTS", "Rule", "Scheme", "is_condition", "_is_promise", "_first_without"] : List Str) ++ (["_are_begins", "_first_bad_rule", "_may_stand", "_places_linked", "_says_twice", "_law_source", "_law_draw", "_law_pick", "_law_same", "_law_words", "_law_tried", "_law_are_words", "_law_lots", "_law_rule_due"] : List Str) ++ (["_law_some_lines", "_law_far_twice"] : List Str)
/-! ### what is told of the head -/
def gloNames : List Str := (["BadWord", "BadForm", "NoTerms", "BadConstant", "BadCondition", "BadPlaces", "BadBegins", "BadRule", "BadPromise", "BadFaults", "NoRule", "is_integer", "is_list", "is_word"] : List Str) ++ (["first_unfit", "KINDS", "Form", "Comparison", "members", "bound", "at", "at_least", "_checked_word", "_single", "_as_form", "_rank", "_sum", "_times"] : List Str) ++ (["_compared", "FAULTS", "Rule", "Scheme", "is_condition", "_is_promise", "_first_without", "_are_begins", "_first_bad_rule", "_may_stand", "_places_linked", "_says_twice", "_law_source", "_law_draw"] : List Str) ++ (["_law_pick", "_law_same", "_law_words", "_law_tried", "_law_are_words", "_law_lots", "_law_rule_due", "_law_some_lines", "_law_far_twice", "law"] : List Str)
def freeNames : List Str := (["range", "min", "len", "list", "dict", "abs", "max", "all", "isinstance", "str", "tuple", "zip", "bool", "int"] : List Str) ++ (["sorted", "enumerate", "super", "any"] : List Str)
def othF : List He.Fa := [.int "LONGEST_WORD" 8, .int "LONGEST_WORD" 8, .cls "Form", .noat "Form" "_pairs", .noat "Form" "rest", .meth "Form" "terms", .meth "Form" "__eq__", .mkr "Form", .meth "Form" "__add__", .meth "Form" "__radd__", .meth "Form" "__sub__", .meth "Form" "__rsub__", .meth "Form" "__mul__", .meth "Form" "__rmul__", .meth "Form" "__neg__", .cls "Comparison", .noat "Comparison" "_pairs", .noat "Comparison" "constant", .meth "Comparison" "terms", .meth "Comparison" "__eq__", .mkr "Comparison", .mkr "Rule", .cls "Rule", .noat "Rule" "name", .noat "Rule" "start", .noat "Rule" "end", .noat "Rule" "when", .noat "Rule" "says", .meth "Rule" "__eq__", .int "MOST_RULES" 8, .int "MOST_PLACES" 7, .mkr "Scheme", .cls "Scheme", .noat "Scheme" "_places", .noat "Scheme" "_begins", .noat "Scheme" "_rules", .noat "Scheme" "_promises", .noat "Scheme" "faults"]
def fa8 : List He.Fa := gloNames.map He.Fa.glo ++ (freeNames.map He.Fa.free ++ othF)
def rA : Str × Option Str := ("Rule", some "__init__")
def rD : He.DefD := ⟨rA, "__init__", "Rule.__init__", defArgs sRInit, defBody sRInit, defScope sRInit, [.adr (He.dflAt rA 0), .adr (He.dflAt rA 1)], []⟩
def sA : Str × Option Str := ("Scheme", some "__init__")
/-- the keyword-only default x of the def at f, if it is an object -/
def kwdAt (f : Str × Option Str) (x : Str) (K : Frag) : Addr := match K.lookup (He.fAd K f) with
  | some ⟨_, _, .func fd, _⟩ => (match fd.kwdefaults with
    | .ref D => (match nsIn K D x with
      | some (some (.ref a)) => a
      | _ => 0)
    | _ => 0)
  | _ => 0
def sD : He.DefD := ⟨sA, "__init__", "Scheme.__init__", defArgs sSInit, defBody sSInit, defScope sSInit, [], [("promise", .adr (kwdAt sA "promise")), ("faults", .str "lying")]⟩
def fn8 : List He.DefD := [dD ("is_word", none) "is_word" "is_word" sIsWord,
  dD ("first_unfit", none) "first_unfit" "first_unfit" sFirst,
  dD ("Form", some "__init__") "__init__" "Form.__init__" sFInit,
  dD ("Form", some "terms") "terms" "Form.terms" sFTerms,
  dD ("Form", some "__eq__") "__eq__" "Form.__eq__" sFEq,
  dD ("members", none) "members" "members" sMembers,
  dD ("bound", none) "bound" "bound" sBound,
  dD ("at", none) "at" "at" sAt,
  dD ("_checked_word", none) "_checked_word" "_checked_word" sChecked,
  dD ("_single", none) "_single" "_single" sSingle,
  dD ("_law_source", none) "_law_source" "_law_source" sSource,
  dD ("_law_draw", none) "_law_draw" "_law_draw" sDraw,
  dD ("_law_pick", none) "_law_pick" "_law_pick" sPick,
  dD ("_law_same", none) "_law_same" "_law_same" sSame,
  dD ("_law_words", none) "_law_words" "_law_words" sLWords,
  dD ("_law_tried", none) "_law_tried" "_law_tried" sTried,
  dD ("_law_are_words", none) "_law_are_words" "_law_are_words" sLAre,
  dD ("_law_lots", none) "_law_lots" "_law_lots" sLots,
  dD ("_law_rule_due", none) "_law_rule_due" "_law_rule_due" sRDue,
  dD ("_law_some_lines", none) "_law_some_lines" "_law_some_lines" sLines,
  dD ("is_integer", none) "is_integer" "is_integer" sIsInt,
  dD ("_as_form", none) "_as_form" "_as_form" sAsForm,
  dD ("_rank", none) "_rank" "_rank" sRank,
  dD ("_sum", none) "_sum" "_sum" sSum,
  dD ("_times", none) "_times" "_times" sTimes,
  dD ("Form", some "__add__") "__add__" "Form.__add__" sFAdd,
  dD ("Form", some "__radd__") "__radd__" "Form.__radd__" sFRadd,
  dD ("Form", some "__sub__") "__sub__" "Form.__sub__" sFSub,
  dD ("Form", some "__rsub__") "__rsub__" "Form.__rsub__" sFRsub,
  dD ("Form", some "__mul__") "__mul__" "Form.__mul__" sFMul,
  dD ("Form", some "__rmul__") "__rmul__" "Form.__rmul__" sFRmul,
  dD ("Form", some "__neg__") "__neg__" "Form.__neg__" sFNeg,
  dD ("Comparison", some "__init__") "__init__" "Comparison.__init__" sCInit,
  dD ("Comparison", some "terms") "terms" "Comparison.terms" sCTerms,
  dD ("Comparison", some "__eq__") "__eq__" "Comparison.__eq__" sCEq,
  dD ("_compared", none) "_compared" "_compared" sCompared,
  dD ("at_least", none) "at_least" "at_least" sAtLeast,
  dD ("is_list", none) "is_list" "is_list" sIsList,
  dD ("is_condition", none) "is_condition" "is_condition" sIsCond,
  dD ("_is_promise", none) "_is_promise" "_is_promise" sIsProm,
  dD ("_first_without", none) "_first_without" "_first_without" sFwo,
  dD ("_are_begins", none) "_are_begins" "_are_begins" sAreB,
  dD ("_first_bad_rule", none) "_first_bad_rule" "_first_bad_rule" sFbr,
  dD ("_may_stand", none) "_may_stand" "_may_stand" sMS,
  dD ("_places_linked", none) "_places_linked" "_places_linked" sPB,
  dD ("_says_twice", none) "_says_twice" "_says_twice" sST,
  dD ("Rule", some "__eq__") "__eq__" "Rule.__eq__" sREq,
  dD ("_law_far_twice", none) "_law_far_twice" "_law_far_twice" sFar,
  dD ("law", none) "law" "law" sLaw,
  rD, sD]
def tf8 : List He.Defn := [("law", none), ("_law_far_twice", none)]
def ts8 : List He.Tab := [(fun K => He.ga K "KINDS", KINDL)]
def eD (i : Nat) (x fld : Str) : ErrD := ⟨x, fld, x ++ ".__init__", defArgs (inClass (top i) 0), defBody (inClass (top i) 0), defScope (inClass (top i) 0)⟩
def es8 : List ErrD := [eD 4 "BadWord" "word", eD 5 "BadForm" "thing", eD 6 "NoTerms" "", eD 7 "BadConstant" "number", eD 8 "BadCondition" "index", eD 9 "BadPlaces" "words", eD 10 "BadBegins" "words", eD 11 "BadRule" "index", eD 12 "BadPromise" "index", eD 13 "BadFaults" "word"]
def kindB (K : Frag) (C : Addr) (t : String) : Bool := oB1 (kitOne K (.type t) (.ref C)) (some false)
def numB (a b : Option (Option Value)) (num : Bool) : Bool := match a, b with
  | some fo, some ro => (((fo.isSome && !isSeqSlot fo) || (ro.isSome && !isSeqSlot ro)) == num)
  | _, _ => false
def tyB (K : Frag) (C : Addr) (op : Operator) (T : String) (num : Bool) : Bool := numB (findIn K (.type T) (PySem.dunder op.info.2)) (findIn K (.type T) (dunderR op.info.2)) num && (oB1 (subIn K (.type T) (.ref C)) (some false) && oB1 (subIn K (.ref C) (.type T)) (some false))
def TYL : List (String × Bool) := [("int", true), ("bool", true), ("NoneType", false), ("str", false), ("tuple", false), ("dict", false)]
def OPL : List Operator := [Operator.Add, .Sub, .Mult]
def ODL : List String := ["NoneType", "str", "bool", "tuple", "dict", "list"]
/-- what == and isinstance ask of an own class -/
def eqB (K : Frag) (C : Addr) : Bool :=
  He.eqO (findIn K (.ref C) "__class__") (some (some (.builtin "object.__class__"))) && (He.eqO (specialIn K (.builtin "object.__class__") "__get__") (some (some (.builtin "getset_descriptor.__get__"))) && (oB1 (takesIn K (.builtin "object.__class__")) (some true) && (oB1 (mroIn K C (.type "object")) (some true) &&
  (oB1 (kitOne K (.ref C) (.ref C)) (some true) && (He.eqO (findIn K (.ref C) "__ne__") (some (some (.builtin "object.__ne__"))) && oB1 (subIn K (.ref C) (.type "object")) (some true))))))
/-- .. the operators ask -/
def ownB (K : Frag) (C : Addr) : Bool := eqB K C && (("int" :: ODL).all (kindB K C) && (selfFirst K C && OPL.all fun op => TYL.all fun p => tyB K C op p.1 p.2))
def CML : List String := ["int", "list"]
def cmpB (K : Frag) (C : Addr) : Bool := eqB K C && (notFirst K C (.ref C) && CML.all fun t => kindB K C t && notFirst K C (.type t))
def kindVals : List (Str × He.Dv) := [("n", .int 0), ("t", .int 1), ("f", .int 2), ("at", .int 3), ("begun", .int 4), ("said", .int 5), ("heard", .int 6)]
/-- error classes of which none is another one -/
def exmB (K : Frag) : List Addr → Bool
  | [] => true
  | C :: Cs => oB1 (exmOne K (.ref C) (.ref C)) (some true) && (Cs.all (fun D => oB1 (exmOne K (.ref D) (.ref C)) (some false)) && exmB K Cs)
def RUL : List String := ["NoneType", "int", "str"]
def rulB (K : Frag) (C : Addr) : Bool := eqB K C && RUL.all (kindB K C)
/-- an empty tuple -/
def emB (K : Frag) (a : Addr) : Bool := match K.lookup a with
  | some ⟨.type "tuple", _, .seq its _, _⟩ => its.size == 0
  | _ => false
def ex8 (K : Frag) : Bool := es8.all (fun d => d.ok R.prog.main.file K) && (ownB K (He.ga K "Form") && (He.valsB K (He.ga K "KINDS") kindVals && (cmpB K (He.ga K "Comparison") && (rulB K (He.ga K "Rule") && (exmB K [He.ga K "BadPlaces", He.ga K "BadBegins", He.ga K "BadRule", He.ga K "BadPromise", He.ga K "BadFaults"] &&
  (He.eqO (nsIn K mainGlobals "gcd") (some (some (.builtin "math.gcd"))) && (emB K (He.dflAt rA 0 K) && (emB K (He.dflAt rA 1 K) && (emB K (kwdAt sA "promise" K) && (He.tupB K "FAULTS" [.str "lying", .str "silent", .str "stopping"] &&
  !((He.cT K ("law", none)).2 == (He.cT K ("_law_far_twice", none)).2)))))))))))
def hk8 : Hook := hookM 7 fa8 fn8 ts8 tf8 ex8 es8
def ob8 (s : SharedT) : AlM := obsM 7 fa8 fn8 ts8 tf8 ex8 es8 (HandSHeadRun.getT s)
theorem ob8_eq (s : SharedT) : ob8 s = hk8.obs s.abs := obsM_eq (HandSHeadRun.getT_eq s)
theorem runT (w : World) : HandSHeadRun.RunEqI R (view R.prog [0, 62]) hk8 ob8 12000 topNames (w.withFollow "special-get-raises" true) := by
  show _ = _
  kernel_rfl
theorem runF (w : World) : HandSHeadRun.RunEqI R (view R.prog [0, 62]) hk8 ob8 12000 topNames (w.withFollow "special-get-raises" false) := by
  show _ = _
  kernel_rfl
theorem run8 (w : World) : HandSHeadRun.RunEqI R (view R.prog [0, 62]) hk8 ob8 12000 topNames w := byRow2 "special-get-raises" runF runT w
end Mv
namespace Mv
open PySem PySem.Spec PySem.W PyProof.Rows L2 NdefX
section
variable {w : World} {h : Heap} {K : Frag} {mg : Str → Option Value} {base : Heap}
abbrev Says8 (w : World) (h : Heap) (K : Frag) : Prop := SaysM fa8 fn8 ts8 tf8 ex8 es8 w h K
theorem glo8 (c : Says8 w h K) (X : K.In h) (G : h.Ns mainGlobals mg) (x : Str) (hx : x ∈ gloNames := by decide +kernel) : mg x = some (.ref (He.ga K x)) := c.glo X G (List.mem_append_left _ (List.mem_map.mpr ⟨x, hx, rfl⟩))
theorem free8 (c : Says8 w h K) (X : K.In h) (G : h.Ns mainGlobals mg) (x : Str) (hx : x ∈ freeNames := by decide +kernel) : mg x = none := c.free X G (List.mem_append_right _ (List.mem_append_left _ (List.mem_map.mpr ⟨x, hx, rfl⟩)))
theorem oth8 (c : Says8 w h K) (i : Nat) {f : He.Fa} (hi : othF[i]? = some f := by rfl) : f.ok K = true :=
  c.fact (List.mem_append_right _ (List.mem_append_right _ (List.mem_of_getElem? hi)))
theorem def8 (c : Says8 w h K) (i : Nat) {a : Str × Option Str} {x q : Str} {st : Stmt} (hi : fn8[i]? = some (dD a x q st) := by rfl) : ∃ fd, Fun K x q st (He.fAd K a) fd ∧ FunD K x q (defArgs st) (defBody st) (defScope st) [] [] (He.fAd K a) fd := c.dfn (List.mem_of_getElem? hi)
/-- the facts beside -/
structure Ex (K : Frag) : Prop where
  es : es8.all (fun d => d.ok R.prog.main.file K) = true
  own : ownB K (He.ga K "Form") = true
  vals : He.valsB K (He.ga K "KINDS") kindVals = true
  cmp : cmpB K (He.ga K "Comparison") = true
  rul : rulB K (He.ga K "Rule") = true
  exm : exmB K [He.ga K "BadPlaces", He.ga K "BadBegins", He.ga K "BadRule", He.ga K "BadPromise", He.ga K "BadFaults"] = true
  gcd : nsIn K mainGlobals "gcd" = some (some (.builtin "math.gcd"))
  e0 : emB K (He.dflAt rA 0 K) = true
  e1 : emB K (He.dflAt rA 1 K) = true
  e2 : emB K (kwdAt sA "promise" K) = true
  fau : He.tupB K "FAULTS" [.str "lying", .str "silent", .str "stopping"] = true
  ne : (He.cT K ("law", none)).2 ≠ (He.cT K ("_law_far_twice", none)).2
theorem ex_of (c : Says8 w h K) : Ex K := by
  have q : ex8 K = true := c.x.more
  unfold ex8 at q
  obtain ⟨e1, q⟩ := He.ba q
  obtain ⟨e2, q⟩ := He.ba q
  obtain ⟨e3, q⟩ := He.ba q
  obtain ⟨e4, q⟩ := He.ba q
  obtain ⟨e5, q⟩ := He.ba q
  obtain ⟨e6, q⟩ := He.ba q
  obtain ⟨e7, q⟩ := He.ba q
  obtain ⟨e8, q⟩ := He.ba q
  obtain ⟨e9, q⟩ := He.ba q
  obtain ⟨e10, q⟩ := He.ba q
  obtain ⟨e11, e12⟩ := He.ba q
  refine ⟨e1, e2, e3, e4, e5, e6, He.eqO_ok e7, e8, e9, e10, e11, fun z => ?_⟩
  rw [z] at e12
  simp at e12
theorem em_sq {a : Addr} (q : emB K a = true) (H : Hp) : SqT K H a [] := by
  unfold emB at q
  split at q
  · rename_i od its n sl e
    have hz : its.size = 0 := beq_iff_eq.mp q
    have hi : its = #[] := Array.eq_empty_of_size_eq_zero hz
    subst hi
    exact .inr ⟨_, #[], n, e, rfl, rfl, (by show 0 ≤ sizeLine; decide), .nil⟩
  · cases q
theorem exm_of {C : Addr} {Cs : List Addr} (q : exmB K (C :: Cs) = true) : exmOne K (.ref C) (.ref C) = some true ∧ (∀ D ∈ Cs, exmOne K (.ref D) (.ref C) = some false) ∧ exmB K Cs = true := by
  unfold exmB at q
  obtain ⟨e1, q⟩ := He.ba q
  obtain ⟨e2, e3⟩ := He.ba q
  exact ⟨of_decide_eq_true e1, fun D hD => of_decide_eq_true (List.all_eq_true.mp e2 D hD), e3⟩
theorem trF8 (c : Says8 w h K) : TrF K (He.ga K "BadPlaces") (He.ga K "BadBegins") (He.ga K "BadRule") (He.ga K "BadPromise") (He.ga K "BadFaults") := by
  obtain ⟨a1, a2, q⟩ := exm_of (ex_of c).exm
  obtain ⟨b1, b2, q⟩ := exm_of q
  obtain ⟨c1, c2, q⟩ := exm_of q
  obtain ⟨d1, d2, q⟩ := exm_of q
  obtain ⟨f1, f2, q⟩ := exm_of q
  exact ⟨a1, a2 _ (by simp), b1, a2 _ (by simp), b2 _ (by simp), c1, a2 _ (by simp), b2 _ (by simp), c2 _ (by simp), d1, a2 _ (by simp), b2 _ (by simp), c2 _ (by simp), d2 _ (by simp), f1⟩
theorem fq_of {C f : Addr} (q : eqB K C = true) (isi : mg "isinstance" = none) (m : Meth K C "__eq__" f) : FQ K mg C f := by
  unfold eqB at q
  obtain ⟨c1, q⟩ := He.ba q
  obtain ⟨c2, q⟩ := He.ba q
  obtain ⟨c3, q⟩ := He.ba q
  obtain ⟨c4, q⟩ := He.ba q
  obtain ⟨c5, q⟩ := He.ba q
  obtain ⟨c6, c7⟩ := He.ba q
  exact ⟨He.eqO_ok c1, He.eqO_ok c2, of_decide_eq_true c3, of_decide_eq_true c4, of_decide_eq_true c5, isi, m.at_, m.fn, He.eqO_ok c6, of_decide_eq_true c7⟩
theorem ty_of {C : Addr} {op : Operator} {T : String} {num : Bool} (h : tyB K C op T num = true) : OwnTy K C op T num := by
  unfold tyB at h
  obtain ⟨c1, h⟩ := He.ba h
  obtain ⟨c2, c3⟩ := He.ba h
  refine ⟨?_, of_decide_eq_true c2, of_decide_eq_true c3⟩
  unfold numB at c1
  split at c1
  · rename_i fo ro e1 e2
    exact ⟨fo, ro, e1, e2, beq_iff_eq.mp c1⟩
  · cases c1
structure Own (K : Frag) (C : Addr) : Prop where
  kc : ∀ T ∈ ["NoneType", "str", "bool", "tuple", "dict", "list"], kitOne K (.type T) (.ref C) = some false
  kint : kitOne K (.type "int") (.ref C) = some false
  first : selfFirst K C = true
  ty : ∀ op ∈ [Operator.Add, .Sub, .Mult], ∀ p ∈ [("int", true), ("bool", true), ("NoneType", false), ("str", false), ("tuple", false), ("dict", false)], OwnTy K C op p.1 p.2
theorem own_of {C : Addr} (q : ownB K C = true) : Own K C := by
  unfold ownB at q
  obtain ⟨_, q⟩ := He.ba q
  obtain ⟨c9, q⟩ := He.ba q
  obtain ⟨c11, c12⟩ := He.ba q
  have kk : ∀ T ∈ "int" :: ODL, kitOne K (.type T) (.ref C) = some false := fun T hT => of_decide_eq_true (List.all_eq_true.mp c9 T hT)
  exact ⟨fun T hT => kk T (List.mem_cons_of_mem _ hT), kk "int" List.mem_cons_self, c11, fun op ho p hp => ty_of (List.all_eq_true.mp (List.all_eq_true.mp c12 op ho) p hp)⟩
theorem kk8 (c : Says8 w h K) (X : K.In h) (G : h.Ns mainGlobals mg) : KK K w mg := by
  obtain ⟨es, n, D⟩ := c.x.t.tab 0 (t := (fun K => He.ga K "KINDS", KINDL))
  have hv := (ex_of c).vals
  refine ⟨He.ga K "KINDS", glo8 c X G "KINDS", fun x hx => ?_⟩
  have hm : ∃ i : Int, (x, He.Dv.int i) ∈ kindVals ∧ kIx x = i := by
    have : ∀ x ∈ KINDL, (x, He.Dv.int (kIx x)) ∈ kindVals := by
      intro x hx
      simp only [KINDL, List.mem_cons, List.not_mem_nil, or_false] at hx
      rcases hx with rfl | rfl | rfl | rfl | rfl | rfl | rfl
      · exact List.mem_of_getElem? (i := 0) rfl
      · exact List.mem_of_getElem? (i := 1) rfl
      · exact List.mem_of_getElem? (i := 2) rfl
      · exact List.mem_of_getElem? (i := 3) rfl
      · exact List.mem_of_getElem? (i := 4) rfl
      · exact List.mem_of_getElem? (i := 5) rfl
      · exact List.mem_of_getElem? (i := 6) rfl
    exact ⟨_, this x hx, rfl⟩
  obtain ⟨i, h1, h2⟩ := hm
  obtain ⟨u, h3, h4⟩ := He.valsB_ok hv h1
  rw [h2]
  exact ⟨es, n, u, D.at_, D.lit, h3, h4⟩
abbrev PP : Program := R.prog
theorem errOk (c : Says8 w h K) {d : ErrD} (hd : d ∈ es8) : d.ok R.prog.main.file K = true := List.all_eq_true.mp (ex_of c).es d hd
theorem badW (c : Says8 w h K) (X : K.In h) (G : h.Ns mainGlobals mg) : Err PP w K mg base "BadWord" (He.ga K "BadWord") "word" :=
  err_of (d := eD 4 "BadWord" "word") (errOk c (List.mem_of_getElem? (i := 0) rfl)) (c.err (List.mem_of_getElem? (i := 0) rfl)) (glo8 c X G "BadWord") (free8 c X G "super") (by decide +kernel) rfl (NdefX.nscope_by (by decide +kernel)) rfl rfl rfl rfl rfl rfl (fun _ _ _ _ _ _ _ us hl => match us, hl with | [_, _], _ => rfl)
theorem badF' (c : Says8 w h K) (X : K.In h) (G : h.Ns mainGlobals mg) : Err PP w K mg base "BadForm" (He.ga K "BadForm") "thing" :=
  err_of (d := eD 5 "BadForm" "thing") (errOk c (List.mem_of_getElem? (i := 1) rfl)) (c.err (List.mem_of_getElem? (i := 1) rfl)) (glo8 c X G "BadForm") (free8 c X G "super") (by decide +kernel) rfl (NdefX.nscope_by (by decide +kernel)) rfl rfl rfl rfl rfl rfl (fun _ _ _ _ _ _ _ us hl => match us, hl with | [_, _], _ => rfl)
theorem badC (c : Says8 w h K) (X : K.In h) (G : h.Ns mainGlobals mg) : Err PP w K mg base "BadConstant" (He.ga K "BadConstant") "number" :=
  err_of (d := eD 7 "BadConstant" "number") (errOk c (List.mem_of_getElem? (i := 3) rfl)) (c.err (List.mem_of_getElem? (i := 3) rfl)) (glo8 c X G "BadConstant") (free8 c X G "super") (by decide +kernel) rfl (NdefX.nscope_by (by decide +kernel)) rfl rfl rfl rfl rfl rfl (fun _ _ _ _ _ _ _ us hl => match us, hl with | [_, _], _ => rfl)
theorem badK (c : Says8 w h K) (X : K.In h) (G : h.Ns mainGlobals mg) : Err PP w K mg base "BadCondition" (He.ga K "BadCondition") "index" :=
  err_of (d := eD 8 "BadCondition" "index") (errOk c (List.mem_of_getElem? (i := 4) rfl)) (c.err (List.mem_of_getElem? (i := 4) rfl)) (glo8 c X G "BadCondition") (free8 c X G "super") (by decide +kernel) rfl (NdefX.nscope_by (by decide +kernel)) rfl rfl rfl rfl rfl rfl (fun _ _ _ _ _ _ _ us hl => match us, hl with | [_, _], _ => rfl)
theorem badPl (c : Says8 w h K) (X : K.In h) (G : h.Ns mainGlobals mg) : Err PP w K mg base "BadPlaces" (He.ga K "BadPlaces") "words" :=
  err_of (d := eD 9 "BadPlaces" "words") (errOk c (List.mem_of_getElem? (i := 5) rfl)) (c.err (List.mem_of_getElem? (i := 5) rfl)) (glo8 c X G "BadPlaces") (free8 c X G "super") (by decide +kernel) rfl (NdefX.nscope_by (by decide +kernel)) rfl rfl rfl rfl rfl rfl (fun _ _ _ _ _ _ _ us hl => match us, hl with | [_, _], _ => rfl)
theorem badBg (c : Says8 w h K) (X : K.In h) (G : h.Ns mainGlobals mg) : Err PP w K mg base "BadBegins" (He.ga K "BadBegins") "words" :=
  err_of (d := eD 10 "BadBegins" "words") (errOk c (List.mem_of_getElem? (i := 6) rfl)) (c.err (List.mem_of_getElem? (i := 6) rfl)) (glo8 c X G "BadBegins") (free8 c X G "super") (by decide +kernel) rfl (NdefX.nscope_by (by decide +kernel)) rfl rfl rfl rfl rfl rfl (fun _ _ _ _ _ _ _ us hl => match us, hl with | [_, _], _ => rfl)
theorem badU (c : Says8 w h K) (X : K.In h) (G : h.Ns mainGlobals mg) : Err PP w K mg base "BadRule" (He.ga K "BadRule") "index" :=
  err_of (d := eD 11 "BadRule" "index") (errOk c (List.mem_of_getElem? (i := 7) rfl)) (c.err (List.mem_of_getElem? (i := 7) rfl)) (glo8 c X G "BadRule") (free8 c X G "super") (by decide +kernel) rfl (NdefX.nscope_by (by decide +kernel)) rfl rfl rfl rfl rfl rfl (fun _ _ _ _ _ _ _ us hl => match us, hl with | [_, _], _ => rfl)
theorem badQ (c : Says8 w h K) (X : K.In h) (G : h.Ns mainGlobals mg) : Err PP w K mg base "BadPromise" (He.ga K "BadPromise") "index" :=
  err_of (d := eD 12 "BadPromise" "index") (errOk c (List.mem_of_getElem? (i := 8) rfl)) (c.err (List.mem_of_getElem? (i := 8) rfl)) (glo8 c X G "BadPromise") (free8 c X G "super") (by decide +kernel) rfl (NdefX.nscope_by (by decide +kernel)) rfl rfl rfl rfl rfl rfl (fun _ _ _ _ _ _ _ us hl => match us, hl with | [_, _], _ => rfl)
theorem badFa (c : Says8 w h K) (X : K.In h) (G : h.Ns mainGlobals mg) : Err PP w K mg base "BadFaults" (He.ga K "BadFaults") "word" :=
  err_of (d := eD 13 "BadFaults" "word") (errOk c (List.mem_of_getElem? (i := 9) rfl)) (c.err (List.mem_of_getElem? (i := 9) rfl)) (glo8 c X G "BadFaults") (free8 c X G "super") (by decide +kernel) rfl (NdefX.nscope_by (by decide +kernel)) rfl rfl rfl rfl rfl rfl (fun _ _ _ _ _ _ _ us hl => match us, hl with | [_, _], _ => rfl)

theorem noT (c : Says8 w h K) (X : K.In h) (G : h.Ns mainGlobals mg) : ErrV0 PP w K mg base "NoTerms" (He.ga K "NoTerms") :=
  errV0_of (d := eD 6 "NoTerms" "") (errOk c (List.mem_of_getElem? (i := 2) rfl)) (c.err (List.mem_of_getElem? (i := 2) rfl)) (glo8 c X G "NoTerms") (free8 c X G "super") (by decide +kernel) rfl (nscope_by (by decide +kernel)) rfl rfl rfl rfl (fun _ _ _ _ _ _ _ _ => rfl)
theorem dn {CX : CXT} {k : Nat} {x : Str} {ps : List Str} {sp : Sp} {fd : FuncData} {st : Stmt} (G : FnOk PP w K mg base CX k (He.ga K x) fd ps sp) (F : Fun K x x st (He.ga K x) fd) (g : mg x = some (.ref (He.ga K x))) (b : Binds K fd ps []) : Dn PP w K mg base CX k x ps sp := ⟨_, _, G, g, F.kp, b⟩
theorem lf8 (c : Says8 w h K) (X : K.In h) (G : h.Ns mainGlobals mg) : ∃ fI fS fE fdI fdS fdg, LF PP w K mg base (He.ga K "Form") (He.ga K "BadForm") (He.ga K "Comparison") (He.ga K "NoTerms") (He.ga K "BadConstant") (He.ga K "Rule") (He.ga K "Scheme") (He.ga K "BadWord") (He.ga K "BadCondition") (He.ga K "BadPlaces") (He.ga K "BadBegins") (He.ga K "BadRule") (He.ga K "BadPromise") (He.ga K "BadFaults") fI fS (He.ga K "_law_tried") fE 0 0 fdI fdS fdg := by
  have isi := free8 c X G "isinstance"
  have len := free8 c X G "len"
  have all := free8 c X G "all"
  have str := free8 c X G "str"
  have tup := free8 c X G "tuple"
  have lst := free8 c X G "list"
  have int := free8 c X G "int"
  have enu := free8 c X G "enumerate"
  have srt := free8 c X G "sorted"
  have boo := free8 c X G "bool"
  have rng := free8 c X G "range"
  have anx := free8 c X G "any"
  have mnx := free8 c X G "min"
  obtain ⟨d0, F0, B0⟩ := def8 c 0 (a := ("is_word", none)) (x := "is_word") (q := "is_word") (st := sIsWord)
  obtain ⟨d1, F1, B1⟩ := def8 c 1 (a := ("first_unfit", none)) (x := "first_unfit") (q := "first_unfit") (st := sFirst)
  obtain ⟨d2, F2, B2⟩ := def8 c 2 (a := ("Form", some "__init__")) (x := "__init__") (q := "Form.__init__") (st := sFInit)
  obtain ⟨d3, F3, B3⟩ := def8 c 3 (a := ("Form", some "terms")) (x := "terms") (q := "Form.terms") (st := sFTerms)
  obtain ⟨d4, F4, B4⟩ := def8 c 4 (a := ("Form", some "__eq__")) (x := "__eq__") (q := "Form.__eq__") (st := sFEq)
  obtain ⟨d5, F5, B5⟩ := def8 c 5 (a := ("members", none)) (x := "members") (q := "members") (st := sMembers)
  obtain ⟨d6, F6, B6⟩ := def8 c 6 (a := ("bound", none)) (x := "bound") (q := "bound") (st := sBound)
  obtain ⟨d7, F7, B7⟩ := def8 c 7 (a := ("at", none)) (x := "at") (q := "at") (st := sAt)
  obtain ⟨d8, F8, B8⟩ := def8 c 8 (a := ("_checked_word", none)) (x := "_checked_word") (q := "_checked_word") (st := sChecked)
  obtain ⟨d9, F9, B9⟩ := def8 c 9 (a := ("_single", none)) (x := "_single") (q := "_single") (st := sSingle)
  obtain ⟨d10, F10, B10⟩ := def8 c 10 (a := ("_law_source", none)) (x := "_law_source") (q := "_law_source") (st := sSource)
  obtain ⟨d11, F11, B11⟩ := def8 c 11 (a := ("_law_draw", none)) (x := "_law_draw") (q := "_law_draw") (st := sDraw)
  obtain ⟨d12, F12, B12⟩ := def8 c 12 (a := ("_law_pick", none)) (x := "_law_pick") (q := "_law_pick") (st := sPick)
  obtain ⟨d13, F13, B13⟩ := def8 c 13 (a := ("_law_same", none)) (x := "_law_same") (q := "_law_same") (st := sSame)
  obtain ⟨d14, F14, B14⟩ := def8 c 14 (a := ("_law_words", none)) (x := "_law_words") (q := "_law_words") (st := sLWords)
  obtain ⟨d15, F15, B15⟩ := def8 c 15 (a := ("_law_tried", none)) (x := "_law_tried") (q := "_law_tried") (st := sTried)
  obtain ⟨d16, F16, B16⟩ := def8 c 16 (a := ("_law_are_words", none)) (x := "_law_are_words") (q := "_law_are_words") (st := sLAre)
  obtain ⟨d17, F17, B17⟩ := def8 c 17 (a := ("_law_lots", none)) (x := "_law_lots") (q := "_law_lots") (st := sLots)
  obtain ⟨d18, F18, B18⟩ := def8 c 18 (a := ("_law_rule_due", none)) (x := "_law_rule_due") (q := "_law_rule_due") (st := sRDue)
  obtain ⟨d19, F19, B19⟩ := def8 c 19 (a := ("_law_some_lines", none)) (x := "_law_some_lines") (q := "_law_some_lines") (st := sLines)
  obtain ⟨d20, F20, B20⟩ := def8 c 20 (a := ("is_integer", none)) (x := "is_integer") (q := "is_integer") (st := sIsInt)
  obtain ⟨d21, F21, B21⟩ := def8 c 21 (a := ("_as_form", none)) (x := "_as_form") (q := "_as_form") (st := sAsForm)
  obtain ⟨d22, F22, B22⟩ := def8 c 22 (a := ("_rank", none)) (x := "_rank") (q := "_rank") (st := sRank)
  obtain ⟨d23, F23, B23⟩ := def8 c 23 (a := ("_sum", none)) (x := "_sum") (q := "_sum") (st := sSum)
  obtain ⟨d24, F24, B24⟩ := def8 c 24 (a := ("_times", none)) (x := "_times") (q := "_times") (st := sTimes)
  obtain ⟨d25, F25, B25⟩ := def8 c 25 (a := ("Form", some "__add__")) (x := "__add__") (q := "Form.__add__") (st := sFAdd)
  obtain ⟨d26, F26, B26⟩ := def8 c 26 (a := ("Form", some "__radd__")) (x := "__radd__") (q := "Form.__radd__") (st := sFRadd)
  obtain ⟨d27, F27, B27⟩ := def8 c 27 (a := ("Form", some "__sub__")) (x := "__sub__") (q := "Form.__sub__") (st := sFSub)
  obtain ⟨d28, F28, B28⟩ := def8 c 28 (a := ("Form", some "__rsub__")) (x := "__rsub__") (q := "Form.__rsub__") (st := sFRsub)
  obtain ⟨d29, F29, B29⟩ := def8 c 29 (a := ("Form", some "__mul__")) (x := "__mul__") (q := "Form.__mul__") (st := sFMul)
  obtain ⟨d30, F30, B30⟩ := def8 c 30 (a := ("Form", some "__rmul__")) (x := "__rmul__") (q := "Form.__rmul__") (st := sFRmul)
  obtain ⟨d31, F31, B31⟩ := def8 c 31 (a := ("Form", some "__neg__")) (x := "__neg__") (q := "Form.__neg__") (st := sFNeg)
  obtain ⟨d32, F32, B32⟩ := def8 c 32 (a := ("Comparison", some "__init__")) (x := "__init__") (q := "Comparison.__init__") (st := sCInit)
  obtain ⟨d33, F33, B33⟩ := def8 c 33 (a := ("Comparison", some "terms")) (x := "terms") (q := "Comparison.terms") (st := sCTerms)
  obtain ⟨d34, F34, B34⟩ := def8 c 34 (a := ("Comparison", some "__eq__")) (x := "__eq__") (q := "Comparison.__eq__") (st := sCEq)
  obtain ⟨d35, F35, B35⟩ := def8 c 35 (a := ("_compared", none)) (x := "_compared") (q := "_compared") (st := sCompared)
  obtain ⟨d36, F36, B36⟩ := def8 c 36 (a := ("at_least", none)) (x := "at_least") (q := "at_least") (st := sAtLeast)
  obtain ⟨d37, F37, B37⟩ := def8 c 37 (a := ("is_list", none)) (x := "is_list") (q := "is_list") (st := sIsList)
  obtain ⟨d38, F38, B38⟩ := def8 c 38 (a := ("is_condition", none)) (x := "is_condition") (q := "is_condition") (st := sIsCond)
  obtain ⟨d39, F39, B39⟩ := def8 c 39 (a := ("_is_promise", none)) (x := "_is_promise") (q := "_is_promise") (st := sIsProm)
  obtain ⟨d40, F40, B40⟩ := def8 c 40 (a := ("_first_without", none)) (x := "_first_without") (q := "_first_without") (st := sFwo)
  obtain ⟨d41, F41, B41⟩ := def8 c 41 (a := ("_are_begins", none)) (x := "_are_begins") (q := "_are_begins") (st := sAreB)
  obtain ⟨d42, F42, B42⟩ := def8 c 42 (a := ("_first_bad_rule", none)) (x := "_first_bad_rule") (q := "_first_bad_rule") (st := sFbr)
  obtain ⟨d43, F43, B43⟩ := def8 c 43 (a := ("_may_stand", none)) (x := "_may_stand") (q := "_may_stand") (st := sMS)
  obtain ⟨d44, F44, B44⟩ := def8 c 44 (a := ("_places_linked", none)) (x := "_places_linked") (q := "_places_linked") (st := sPB)
  obtain ⟨d45, F45, B45⟩ := def8 c 45 (a := ("_says_twice", none)) (x := "_says_twice") (q := "_says_twice") (st := sST)
  obtain ⟨d46, F46, B46⟩ := def8 c 46 (a := ("Rule", some "__eq__")) (x := "__eq__") (q := "Rule.__eq__") (st := sREq)
  have b0 : Binds K d0 ["thing"] [] := B0.bindsN fun _ _ _ _ _ _ us hl => match us, hl with | [_], _ => rfl
  have b1 : Binds K d1 ["words"] [] := B1.bindsN fun _ _ _ _ _ _ us hl => match us, hl with | [_], _ => rfl
  have b2 : Binds K d2 ["self", "pairs", "rest"] [] := B2.bindsN fun _ _ _ _ _ _ us hl => match us, hl with | [_, _, _], _ => rfl
  have b3 : Binds K d3 ["self"] [] := B3.bindsN fun _ _ _ _ _ _ us hl => match us, hl with | [_], _ => rfl
  have b4 : Binds K d4 ["self", "other"] [] := B4.bindsN fun _ _ _ _ _ _ us hl => match us, hl with | [_, _], _ => rfl
  have b5 : Binds K d5 [] [] := B5.bindsN fun _ _ _ _ _ _ us hl => match us, hl with | [], _ => rfl
  have b6 : Binds K d6 [] [] := B6.bindsN fun _ _ _ _ _ _ us hl => match us, hl with | [], _ => rfl
  have b7 : Binds K d7 ["place"] [] := B7.bindsN fun _ _ _ _ _ _ us hl => match us, hl with | [_], _ => rfl
  have b8 : Binds K d8 ["thing"] [] := B8.bindsN fun _ _ _ _ _ _ us hl => match us, hl with | [_], _ => rfl
  have b9 : Binds K d9 ["term"] [] := B9.bindsN fun _ _ _ _ _ _ us hl => match us, hl with | [_], _ => rfl
  have b10 : Binds K d10 ["_law_script", "_law_place"] [] := B10.bindsN fun _ _ _ _ _ _ us hl => match us, hl with | [_, _], _ => rfl
  have b11 : Binds K d11 ["_law_draws", "_law_many"] [] := B11.bindsN fun _ _ _ _ _ _ us hl => match us, hl with | [_, _], _ => rfl
  have b12 : Binds K d12 ["_law_draws", "_law_xs"] [] := B12.bindsN fun _ _ _ _ _ _ us hl => match us, hl with | [_, _], _ => rfl
  have b13 : Binds K d13 ["_law_found", "_law_due"] [] := B13.bindsN fun _ _ _ _ _ _ us hl => match us, hl with | [_, _], _ => rfl
  have b14 : Binds K d14 ["_law_draws", "_law_many"] [] := B14.bindsN fun _ _ _ _ _ _ us hl => match us, hl with | [_, _], _ => rfl
  have b15 : Binds K d15 ["_law_work"] [] := B15.bindsN fun _ _ _ _ _ _ us hl => match us, hl with | [_], _ => rfl
  have b16 : Binds K d16 ["_law_thing", "_law_most"] [] := B16.bindsN fun _ _ _ _ _ _ us hl => match us, hl with | [_, _], _ => rfl
  have b17 : Binds K d17 ["_law_lines", "_law_place", "_law_lot"] [] := B17.bindsN fun _ _ _ _ _ _ us hl => match us, hl with | [_, _, _], _ => rfl
  have b18 : Binds K d18 ["_law_spots", "_law_lines"] [] := B18.bindsN fun _ _ _ _ _ _ us hl => match us, hl with | [_, _], _ => rfl
  have b19 : Binds K d19 ["_law_draws", "_law_spots"] [] := B19.bindsN fun _ _ _ _ _ _ us hl => match us, hl with | [_, _], _ => rfl
  have b20 : Binds K d20 ["thing"] [] := B20.bindsN fun _ _ _ _ _ _ us hl => match us, hl with | [_], _ => rfl
  have b21 : Binds K d21 ["thing"] [] := B21.bindsN fun _ _ _ _ _ _ us hl => match us, hl with | [_], _ => rfl
  have b22 : Binds K d22 ["term"] [] := B22.bindsN fun _ _ _ _ _ _ us hl => match us, hl with | [_], _ => rfl
  have b23 : Binds K d23 ["one", "other"] [] := B23.bindsN fun _ _ _ _ _ _ us hl => match us, hl with | [_, _], _ => rfl
  have b24 : Binds K d24 ["form", "factor"] [] := B24.bindsN fun _ _ _ _ _ _ us hl => match us, hl with | [_, _], _ => rfl
  have b25 : Binds K d25 ["self", "other"] [] := B25.bindsN fun _ _ _ _ _ _ us hl => match us, hl with | [_, _], _ => rfl
  have b26 : Binds K d26 ["self", "other"] [] := B26.bindsN fun _ _ _ _ _ _ us hl => match us, hl with | [_, _], _ => rfl
  have b27 : Binds K d27 ["self", "other"] [] := B27.bindsN fun _ _ _ _ _ _ us hl => match us, hl with | [_, _], _ => rfl
  have b28 : Binds K d28 ["self", "other"] [] := B28.bindsN fun _ _ _ _ _ _ us hl => match us, hl with | [_, _], _ => rfl
  have b29 : Binds K d29 ["self", "other"] [] := B29.bindsN fun _ _ _ _ _ _ us hl => match us, hl with | [_, _], _ => rfl
  have b30 : Binds K d30 ["self", "other"] [] := B30.bindsN fun _ _ _ _ _ _ us hl => match us, hl with | [_, _], _ => rfl
  have b31 : Binds K d31 ["self"] [] := B31.bindsN fun _ _ _ _ _ _ us hl => match us, hl with | [_], _ => rfl
  have b32 : Binds K d32 ["self", "pairs", "constant"] [] := B32.bindsN fun _ _ _ _ _ _ us hl => match us, hl with | [_, _, _], _ => rfl
  have b33 : Binds K d33 ["self"] [] := B33.bindsN fun _ _ _ _ _ _ us hl => match us, hl with | [_], _ => rfl
  have b34 : Binds K d34 ["self", "other"] [] := B34.bindsN fun _ _ _ _ _ _ us hl => match us, hl with | [_, _], _ => rfl
  have b35 : Binds K d35 ["one", "other", "least"] [] := B35.bindsN fun _ _ _ _ _ _ us hl => match us, hl with | [_, _, _], _ => rfl
  have b36 : Binds K d36 ["one", "other"] [] := B36.bindsN fun _ _ _ _ _ _ us hl => match us, hl with | [_, _], _ => rfl
  have b37 : Binds K d37 ["thing"] [] := B37.bindsN fun _ _ _ _ _ _ us hl => match us, hl with | [_], _ => rfl
  have b38 : Binds K d38 ["thing"] [] := B38.bindsN fun _ _ _ _ _ _ us hl => match us, hl with | [_], _ => rfl
  have b39 : Binds K d39 ["thing"] [] := B39.bindsN fun _ _ _ _ _ _ us hl => match us, hl with | [_], _ => rfl
  have b40 : Binds K d40 ["test", "things"] [] := B40.bindsN fun _ _ _ _ _ _ us hl => match us, hl with | [_, _], _ => rfl
  have b41 : Binds K d41 ["begins", "places"] [] := B41.bindsN fun _ _ _ _ _ _ us hl => match us, hl with | [_, _], _ => rfl
  have b42 : Binds K d42 ["places", "rules"] [] := B42.bindsN fun _ _ _ _ _ _ us hl => match us, hl with | [_, _], _ => rfl
  have b43 : Binds K d43 ["places", "earlier", "thing"] [] := B43.bindsN fun _ _ _ _ _ _ us hl => match us, hl with | [_, _, _], _ => rfl
  have b44 : Binds K d44 ["steps", "place"] [] := B44.bindsN fun _ _ _ _ _ _ us hl => match us, hl with | [_, _], _ => rfl
  have b45 : Binds K d45 ["new", "earlier", "ahead", "behind"] [] := B45.bindsN fun _ _ _ _ _ _ us hl => match us, hl with | [_, _, _, _], _ => rfl
  have b46 : Binds K d46 ["self", "other"] [] := B46.bindsN fun _ _ _ _ _ _ us hl => match us, hl with | [_, _], _ => rfl
  have T : WT K mg := ⟨isi, str, len, all, He.int_ok X G (oth8 c 1 (f := .int "LONGEST_WORD" 8))⟩
  have U : FT K mg (He.ga K "Form") := ⟨He.cls_ok (oth8 c 2 (f := .cls "Form")), He.noat_ok (oth8 c 3 (f := .noat "Form" "_pairs")), He.noat_ok (oth8 c 4 (f := .noat "Form" "rest")), glo8 c X G "Form", tup, lst⟩
  have mT := He.meth_ok (oth8 c 5 (f := .meth "Form" "terms"))
  have mE := He.meth_ok (oth8 c 6 (f := .meth "Form" "__eq__"))
  have M := He.mkr_ok (oth8 c 7 (f := .mkr "Form"))
  have UC : CT K mg (He.ga K "Comparison") := ⟨He.cls_ok (oth8 c 15 (f := .cls "Comparison")), He.noat_ok (oth8 c 16 (f := .noat "Comparison" "_pairs")), He.noat_ok (oth8 c 17 (f := .noat "Comparison" "constant")), glo8 c X G "Comparison", tup, lst⟩
  have mCT := He.meth_ok (oth8 c 18 (f := .meth "Comparison" "terms"))
  have mCE := He.meth_ok (oth8 c 19 (f := .meth "Comparison" "__eq__"))
  have MC := He.mkr_ok (oth8 c 20 (f := .mkr "Comparison"))
  have UR : RT K mg (He.ga K "Rule") := ⟨He.cls_ok (oth8 c 22 (f := .cls "Rule")), He.noat_ok (oth8 c 23 (f := .noat "Rule" "name")), He.noat_ok (oth8 c 24 (f := .noat "Rule" "start")), He.noat_ok (oth8 c 25 (f := .noat "Rule" "end")), He.noat_ok (oth8 c 26 (f := .noat "Rule" "when")), He.noat_ok (oth8 c 27 (f := .noat "Rule" "says")), tup, srt⟩
  have MR := He.mkr_ok (oth8 c 21 (f := .mkr "Rule"))
  have MS := He.mkr_ok (oth8 c 31 (f := .mkr "Scheme"))
  have mRE := He.meth_ok (oth8 c 28 (f := .meth "Rule" "__eq__"))
  have m0 := He.meth_ok (oth8 c 8 (f := .meth "Form" "__add__"))
  have m1 := He.meth_ok (oth8 c 9 (f := .meth "Form" "__radd__"))
  have m2 := He.meth_ok (oth8 c 10 (f := .meth "Form" "__sub__"))
  have m3 := He.meth_ok (oth8 c 11 (f := .meth "Form" "__rsub__"))
  have m4 := He.meth_ok (oth8 c 12 (f := .meth "Form" "__mul__"))
  have m5 := He.meth_ok (oth8 c 13 (f := .meth "Form" "__rmul__"))
  have m6 := He.meth_ok (oth8 c 14 (f := .meth "Form" "__neg__"))
  have U2 : DT mg := ⟨len, int⟩
  have IT' : IT mg := ⟨isi, int, boo⟩
  have EX := ex_of c
  have Ow := own_of EX.own
  have Fq : FQ K mg (He.ga K "Form") _ := fq_of (He.ba EX.own).1 isi mE
  have Cq : FQ K mg (He.ga K "Comparison") _ := fq_of (He.ba EX.cmp).1 isi mCE
  have Rq : FQ K mg (He.ga K "Rule") _ := fq_of (He.ba EX.rul).1 isi mRE
  have Er : Err PP w K mg base "BadWord" (He.ga K "BadWord") "word" := badW c X G
  have Ef : Err PP w K mg base "BadForm" (He.ga K "BadForm") "thing" := badF' c X G
  have Ec : Err PP w K mg base "BadConstant" (He.ga K "BadConstant") "number" := badC c X G
  have Ek : Err PP w K mg base "BadCondition" (He.ga K "BadCondition") "index" := badK c X G
  have Ep : Err PP w K mg base "BadPlaces" (He.ga K "BadPlaces") "words" := badPl c X G
  have Eg : Err PP w K mg base "BadBegins" (He.ga K "BadBegins") "words" := badBg c X G
  have Eu : Err PP w K mg base "BadRule" (He.ga K "BadRule") "index" := badU c X G
  have Eq : Err PP w K mg base "BadPromise" (He.ga K "BadPromise") "index" := badQ c X G
  have El : Err PP w K mg base "BadFaults" (He.ga K "BadFaults") "word" := badFa c X G
  have En : ErrV0 PP w K mg base "NoTerms" (He.ga K "NoTerms") := noT c X G
  have g0 := glo8 c X G "is_word"
  have g13 := glo8 c X G "_single"
  have g12 := glo8 c X G "_checked_word"
  have g19 := glo8 c X G "is_integer"
  have G0 := ok_isword (P := PP) (w := w) (base := base) F0 T
  have G1 := ok_firstS (P := PP) (w := w) (base := base) F1 T enu g0 F0.kp G0 b0
  have G2 := ok_finit (P := PP) (w := w) (base := base) F2 U
  have G3 := ok_terms (P := PP) (w := w) (base := base) F3 U
  have G9 := ok_single (P := PP) (w := w) (base := base) F9 U M G2 b2
  have G5 : FnOk PP w K mg base CX0 4 (He.ga K "members") d5 [] (spConst K (He.ga K "Form") "n") := ok_const rfl ⟨rfl, rfl, rfl, by decide +kernel, rfl, by decide +kernel, by decide +kernel⟩ rfl F5 g13 F9.kp G9 b9
  have G6 : FnOk PP w K mg base CX0 4 (He.ga K "bound") d6 [] (spConst K (He.ga K "Form") "t") := ok_const rfl ⟨rfl, rfl, rfl, by decide +kernel, rfl, by decide +kernel, by decide +kernel⟩ rfl F6 g13 F9.kp G9 b9
  have G8 := ok_checked F8 Er g0 F0.kp G0 b0
  have G7 : FnOk PP w K mg base (L2.CX PP w) 5 (He.ga K "at") d7 ["place"] (spTerm K (He.ga K "Form") (He.ga K "BadWord") "at") := ok_term rfl ⟨rfl, rfl, rfl, by decide +kernel, rfl, by decide +kernel, by decide +kernel⟩ rfl rfl rfl rfl rfl F7 g13 F9.kp G9 b9 g12 F8.kp G8 b8
  have G10 := ok_source (P := PP) (w := w) (base := base) F10 U2
  have G11 := ok_draw (P := PP) (w := w) (base := base) F11 U2
  have G12 := ok_pick (P := PP) (w := w) (base := base) F12 U2 (glo8 c X G "_law_draw") F11.kp G11 b11
  have G13 := ok_same (P := PP) (w := w) (base := base) F13 ⟨isi, lst, tup, len, all, free8 c X G "zip", boo, int, glo8 c X G "_law_same"⟩ b13 6
  have G20 := ok_isint (P := PP) (w := w) (base := base) F20 IT'
  have G21 := ok_asform F21 U Fq Ow.kint M G2 b2 g19 F20.kp G20 b20 Ef
  have G22 := ok_rank (P := PP) (base := base) F22 (kk8 c X G)
  have G23 := ok_sum F23 U M G2 b2 (ok_finitT (P := PP) (w := w) (base := base) F2 U) (free8 c X G "dict") srt (glo8 c X G "_rank") G22 b22
  have G24 := ok_times F24 U M G2 b2 g19 F20.kp G20 b20 Ef
  have OT' : OT PP w K mg base (He.ga K "Form") (He.ga K "BadForm") := ⟨⟨_, _, glo8 c X G "_as_form", F21.kp, G21, b21⟩, ⟨_, _, glo8 c X G "_sum", F23.kp, G23, b23⟩, ⟨_, _, glo8 c X G "_times", F24.kp, G24, b24⟩⟩
  have FO' : FOp PP w K mg base (He.ga K "Form") (He.ga K "BadForm") := ⟨⟨_, _, _, _, ⟨Ow.first, m0.at_, m0.fn, m1.at_, m1.fn⟩, ok_fadd F25 OT', b25, ok_fradd F26 OT', b26⟩, ⟨_, _, _, _, ⟨Ow.first, m2.at_, m2.fn, m3.at_, m3.fn⟩, ok_fsub F27 OT', b27, ok_frsub F28 OT', b28⟩, ⟨_, _, _, _, ⟨Ow.first, m4.at_, m4.fn, m5.at_, m5.fn⟩, ok_fmul F29 OT', b29, ok_frmul F30 OT', b30⟩, ⟨_, _, m6.at_, m6.fn, ok_fneg F31 OT', b31⟩, Ow.ty⟩
  have dM := (dn G5 F5 (glo8 c X G "members") b5)
  have dDr := (dn G11 F11 (glo8 c X G "_law_draw") b11)
  have dP := (dn G12 F12 (glo8 c X G "_law_pick") b12)
  have dB := (dn G6 F6 (glo8 c X G "bound") b6)
  have G32 := ok_cinit (P := PP) (w := w) (base := base) F32 UC
  have G33 := ok_cterms (P := PP) (w := w) (base := base) F33 UC
  have CD : CdF PP w K mg base (He.ga K "Form") (He.ga K "BadForm") (He.ga K "Comparison") (He.ga K "NoTerms") (He.ga K "BadConstant") _ _ _ _ := ⟨OT', (dn G21 F21 (glo8 c X G "_as_form") b21), U, mT, G3, b3, En, Ec, PySem.W.mg_of X G EX.gcd, glo8 c X G "Comparison", MC, G32, b32⟩
  have G35 := ok_compared F35 CD
  have G36 : FnOk PP w K mg base (L2.CX PP w) 7 (He.ga K "at_least") d36 ["one", "other"] (spCmp2 K (He.ga K "Form") (He.ga K "BadForm") (He.ga K "Comparison") (He.ga K "NoTerms") (He.ga K "BadConstant") 0) := ok_cmp2 rfl ⟨rfl, rfl, rfl, by decide +kernel, rfl, by decide +kernel, by decide +kernel⟩ rfl rfl rfl F36 (dn G35 F35 (glo8 c X G "_compared") b35)
  have dAl := (dn G36 F36 (glo8 c X G "at_least") b36)
  have G37 := ok_islist (P := PP) (w := w) (base := base) F37 isi lst tup
  have G38 := ok_iscond (P := PP) (w := w) (base := base) F38 ⟨UC, mCT, G33, b33, Cq, len⟩
  have G39 := ok_isprom (P := PP) (w := w) (base := base) F39 ⟨UC, mCT, G33, b33, Cq, all⟩
  have G40 := ok_fwoG (Gt := KnC K (He.ga K "Comparison")) F40 enu (glo8 c X G "is_list") F37.kp G37 b37 F38.kp G38 b38
  have G40p := ok_fwoG (Gt := KnP K (He.ga K "Comparison")) F40 enu (glo8 c X G "is_list") F37.kp G37 b37 F39.kp G39 b39
  obtain ⟨dR, FR⟩ : ∃ fd, FunD K "__init__" "Rule.__init__" (defArgs sRInit) (defBody sRInit) (defScope sRInit) [.ref (He.dflAt rA 0 K), .ref (He.dflAt rA 1 K)] [] (He.fAd K rA) fd := c.x.t.d.defs (d := rD) (List.mem_of_getElem? (i := 49) rfl)
  obtain ⟨dS, FS⟩ : ∃ fd, FunD K "__init__" "Scheme.__init__" (defArgs sSInit) (defBody sSInit) (defScope sSInit) [] [("promise", .ref (kwdAt sA "promise" K)), ("faults", .str "lying")] (He.fAd K sA) fd := c.x.t.d.defs (d := sD) (List.mem_of_getElem? (i := 50) rfl)
  have RI : RIT PP w K mg base (He.ga K "Rule") (He.ga K "Comparison") (He.ga K "BadWord") (He.ga K "BadCondition") (He.ga K "is_condition") := ⟨UR, Er, Ek, (dn G0 F0 (glo8 c X G "is_word") b0), (dn G37 F37 (glo8 c X G "is_list") b37), (dn G1 F1 (glo8 c X G "first_unfit") b1), (dn G40 F40 (glo8 c X G "_first_without") b40), glo8 c X G "is_condition", UR.cl⟩
  have GR := ok_rinit FR RI
  obtain ⟨ds5, hv5, bR5⟩ := FR.binds1 (ps := pRI) 5 1 (by simp) rfl fun T kV doc pm an cdv ct us its h1 h2 => match us, its, h1, h2 with | [_, _, _, _, _], [_, _], _, _ => ⟨_, rfl, rfl⟩
  obtain ⟨ds4, hv4, bR4⟩ := FR.binds1 (ps := pRI) 4 0 (by simp) rfl fun T kV doc pm an cdv ct us its h1 h2 => match us, its, h1, h2 with | [_, _, _, _], [_, _], _, _ => ⟨_, rfl, rfl⟩
  obtain ⟨ds6, hv6, bR6⟩ := FR.binds1 (ps := pRI) 6 2 (by simp) rfl fun T kV doc pm an cdv ct us its h1 h2 => match us, its, h1, h2 with | [_, _, _, _, _, _], [_, _], _, _ => ⟨_, rfl, rfl⟩
  have bR0 : Binds K dR pRI [] := by
    cases hv6
    exact bR6
  have G44 := ok_pl (P := PP) (w := w) (base := base) (mg := mg) F44
  have G45 := ok_st (P := PP) (w := w) (base := base) F45 UR anx
  have G43 := ok_ms (P := PP) (w := w) (base := base) F43 ⟨UR, Rq, glo8 c X G "Rule", (dn G44 F44 (glo8 c X G "_places_linked") b44), (dn G45 F45 (glo8 c X G "_says_twice") b45)⟩
  have G41 := ok_areb (P := PP) (w := w) (base := base) F41 (dn G1 F1 (glo8 c X G "first_unfit") b1) all
  have G42 := ok_fbr (P := PP) (w := w) (base := base) F42 (dn G37 F37 (glo8 c X G "is_list") b37) (dn G43 F43 (glo8 c X G "_may_stand") b43) (He.int_ok X G (oth8 c 29 (f := .int "MOST_RULES" 8))) enu
  have SI' : STh PP w K mg base (He.ga K "Scheme") (He.ga K "Rule") (He.ga K "Comparison") (He.ga K "BadPlaces") (He.ga K "BadBegins") (He.ga K "BadRule") (He.ga K "BadPromise") (He.ga K "BadFaults") (He.ga K "_is_promise") := ⟨He.cls_ok (oth8 c 32 (f := .cls "Scheme")), He.noat_ok (oth8 c 33 (f := .noat "Scheme" "_places")), He.noat_ok (oth8 c 34 (f := .noat "Scheme" "_begins")), He.noat_ok (oth8 c 35 (f := .noat "Scheme" "_rules")), He.noat_ok (oth8 c 36 (f := .noat "Scheme" "_promises")), He.noat_ok (oth8 c 37 (f := .noat "Scheme" "faults")), tup, len, He.int_ok X G (oth8 c 30 (f := .int "MOST_PLACES" 7)), ⟨_, glo8 c X G "FAULTS", fun H => He.tupB_ok EX.fau H⟩, Ep, Eg, Eu, Eq, El, (dn G37 F37 (glo8 c X G "is_list") b37), (dn G1 F1 (glo8 c X G "first_unfit") b1), (dn G41 F41 (glo8 c X G "_are_begins") b41), (dn G42 F42 (glo8 c X G "_first_bad_rule") b42), (dn G40p F40 (glo8 c X G "_first_without") b40), glo8 c X G "_is_promise"⟩
  have GS := ok_sinit FS SI'
  obtain ⟨mv, kS⟩ := FS.kbinds0 (ps := pSI) 4 ["promise", "faults"] [] (fun {α} (us : List α) mv ws => us ++ ws) (by simp) (fun q hq => by cases hq) (fun r1 r2 r3 => r1.append r3) fun D doc pm an cdv ct us mv ws h1 h2 h3 => match us, mv, ws, h1, h2, h3 with | [_, _, _, _], [], [_, _], _, _, _ => rfl
  obtain ⟨dq, hvq, bq⟩ := FS.binds0 (ps := pSI) 4 (by simp) rfl fun D doc pm an cdv ct us ks h1 h2 => match us, ks, h1, h2 with | [_, _, _, _], [_, _], _, _ => ⟨_, _, _, _, _, _, rfl, rfl, _, _, _, _, _, _, rfl, rfl, rfl⟩
  have G14 := ok_lwords (P := PP) (w := w) (base := base) F14 dDr rng len
  have G19 := ok_lines (P := PP) (w := w) (base := base) F19 ⟨dDr, dP, rng, len, mnx⟩
  have G17 := ok_lots (P := PP) (w := w) (base := base) F17 anx (glo8 c X G "_law_lots") b17 10
  have G18 := ok_rdue (P := PP) (w := w) (base := base) F18 (dn G17 F17 (glo8 c X G "_law_lots") b17) enu anx len
  have G16 := ok_lare (P := PP) (w := w) (base := base) F16 ⟨isi, lst, tup, len, enu, str, all⟩
  have kr : ∀ T ∈ ["NoneType", "int", "str"], kitOne K (.type T) (.ref (He.ga K "Rule")) = some false := fun T hT => of_decide_eq_true (List.all_eq_true.mp (He.ba EX.rul).2 T hT)
  have kc : kitOne K (.type "int") (.ref (He.ga K "Comparison")) = some false := of_decide_eq_true (He.ba (List.all_eq_true.mp (He.ba (He.ba EX.cmp).2).2 "int" List.mem_cons_self)).1
  exact ⟨_, _, _, _, _, _, ⟨mnx, rng, len, all, isi, lst, tup, (dn G10 F10 (glo8 c X G "_law_source") b10), dDr, dP, (dn G14 F14 (glo8 c X G "_law_words") b14), (dn G19 F19 (glo8 c X G "_law_some_lines") b19), (dn G18 F18 (glo8 c X G "_law_rule_due") b18), (dn G16 F16 (glo8 c X G "_law_are_words") b16), (dn G13 F13 (glo8 c X G "_law_same") b13), F15, glo8 c X G "_law_tried", b15, Ep, Eg, Eu, Eq, El, trF8 c, dAl, (dn G7 F7 (glo8 c X G "at") b7), dM, dB, UC, MR, GR, glo8 c X G "Rule", ⟨_, ds5, hv5, bR5, em_sq EX.e1⟩, bR0, ⟨_, _, ds4, hv4, bR4, fun H => ⟨em_sq EX.e0 H, em_sq EX.e1 H⟩⟩, UR, Rq, kr, kc, MS, GS, glo8 c X G "Scheme", ⟨_, kS⟩, ⟨_, dq, hvq, bq, em_sq EX.e2⟩⟩⟩
theorem law8 {f : Addr} (c : Says8 w h K) (X : K.In h) (G : h.Ns mainGlobals mg) (hfa : mg ("law" : Str) = some (.ref f)) : LamX.LawAtS PySem.Challenge.rw_manyvoices_k08_schemes_refused w K C8.CX0 15 63 "_law_script" mg f h := by
  have e := hfa.symm.trans (glo8 c X G "law")
  cases e
  obtain ⟨fd, F, FD⟩ := def8 c 48 (a := ("law", none)) (x := "law") (q := "law") (st := sLaw)
  obtain ⟨fd2, F2, FD2⟩ := def8 c 47 (a := ("_law_far_twice", none)) (x := "_law_far_twice") (q := "_law_far_twice") (st := sFar)
  have hb := FunD.bindsA (ps := ["_law_script"]) FD fun _ _ _ _ _ _ us hl => match us, hl with | [_], _ => rfl
  have b2 : Binds K fd2 [] [] := FD2.bindsN fun _ _ _ _ _ _ us hl => match us, hl with | [], _ => rfl
  have kp2 := F2.kp
  obtain ⟨oc, od, kV, doc, pm, an, cdv, ct, osl, ef, lk, hcd⟩ := F.ex
  obtain ⟨oc2, od2, kV2, doc2, pm2, an2, cdv2, ct2, osl2, ef2, lk2, hcd2⟩ := F2.ex
  obtain ⟨ca, rfl⟩ := He.codeIn_ref hcd
  obtain ⟨ca2, rfl⟩ := He.codeIn_ref hcd2
  subst ef ef2
  have ec : He.codeOf K ("law", none) = ca := He.codeOf_eq lk rfl
  have ec2 : He.codeOf K ("_law_far_twice", none) = ca2 := He.codeOf_eq lk2 rfl
  have e1 : (He.cT K ("law", none)).1 = ca := ec
  have e2 : (He.cT K ("_law_far_twice", none)).1 = ca2 := ec2
  have cs : ∀ p ∈ tf8.map (He.cT K), ∃ q ∈ tf8, He.cT K q = p := fun p hp => List.mem_map.mp hp
  have ne := (ex_of c).ne
  refine ⟨_, tf8.map (He.cT K), spLaw K (He.cT K ("law", none)).2 (He.cT K ("_law_far_twice", none)).2, fun p hp => ?_, fun p hp => ?_, fun p hp => ?_, fun s u => hb s [u] rfl, fun H a ns hl _ hT hS => ?_, fun base hK hN hTB => ?_⟩
  · obtain ⟨q, hq, rfl⟩ := cs p hp
    exact c.x.empty _ hq
  · obtain ⟨q, hq, rfl⟩ := cs p hp
    exact c.x.out _ hq
  · obtain ⟨q, hq, rfl⟩ := cs p hp
    exact codeHd_of_K X (c.x.hd _ hq)
  · refine ⟨a, ns, rfl, hS, fun p hp => ?_, fun _ => rfl⟩
    rcases List.mem_cons.mp hp with rfl | hp
    · exact LamX.TabS.nil (hT _ (List.mem_map.mpr ⟨("law", none), List.mem_cons_self, rfl⟩))
    · rw [List.mem_singleton.mp hp]
      exact LamX.TabS.nil (hT _ (List.mem_map.mpr ⟨("_law_far_twice", none), List.mem_cons_of_mem _ List.mem_cons_self, rfl⟩))
  · have TB := hTB _ (List.mem_map.mpr ⟨("law", none), List.mem_cons_self, rfl⟩)
    have TB2 := hTB _ (List.mem_map.mpr ⟨("_law_far_twice", none), List.mem_cons_of_mem _ List.mem_cons_self, rfl⟩)
    rw [e1] at TB
    rw [e2] at TB2
    obtain ⟨fI, fS, fE, fdI, fdS, fdg, lf⟩ := lf8 (w := w) (base := base) c X G
    have PL := ok_far lk2 hcd2 lf TB2 ne
    exact ok_law lk hcd lf ⟨_, _, PL, glo8 c X G "_law_far_twice", kp2, b2⟩ TB ne
end
end Mv
open PySem PySem.W PySem.Calls PyProof.Rows
theorem PySem.Challenge.cw_manyvoices_k08_schemes_refused_holds : PySem.Challenge.rw_manyvoices_k08_schemes_refused.Holds := by
  w_on; o_law
  refine HandSHeadRun.head_imp (r := OpenLaw.row PySem.Challenge.rw_manyvoices_k08_schemes_refused) (q := view (OpenLaw.row PySem.Challenge.rw_manyvoices_k08_schemes_refused).prog [0, 62]) (H := Mv.hk8) (ob := Mv.ob8) (M := 12000) (loose := Mv.topNames) (d := HandSHeadRun.topDef (OpenLaw.row PySem.Challenge.rw_manyvoices_k08_schemes_refused).prog 62) (kwd := []) Mv.ob8_eq
    Mv.run8 (by kernel_rfl) (by kernel_rfl) (by kernel_rfl) (by rfl) (by first | assumption | decide +kernel) (by decide +kernel) ⟨rfl, rfl, rfl, rfl, rfl, by decide +kernel⟩ ?hw ?hc
  case hw => w_witness2
  case hc =>
    refine LamX.walk_ofTsE (l := PySem.Challenge.rw_manyvoices_k08_schemes_refused) (n := 63) (k := 15) (x := "_law_script") (CX := fun _ => C8.CX0) rfl (by decide) (by kernel_rfl) ⟨rfl, by decide, by decide⟩ ?F (fun _ _ _ _ _ z => z)
    intro w mg fa h Y G hmg0
    obtain ⟨K, KX, c⟩ := Y
    have hmg : mg ("law" : PySem.Str) = some (.ref fa) := by
      have e : (HandSHeadRun.topDef (OpenLaw.row PySem.Challenge.rw_manyvoices_k08_schemes_refused).prog 62).name = ("law" : PySem.Str) := by kernel_rfl
      rw [← e]
      exact hmg0
    exact ⟨K, KX, Mv.law8 c KX G hmg⟩
