import PyProof.Rows.All
import Wide.All
import OpenK.AllK
import Wide.FinOn
import HandS.Nested
import HandS.ExcInit
import KE.KExcSuper
import HandS.ExcField
import HandS.ExcOwn
import HandS.ExcValue
import HandS.ExcIs
import HandS.IsInst
import KE.KExcIs
import HandS.MakeKwOnly
import HandS.ForMost
import HandS.Wide
import HandS.Evl
import HandS.Flow
import HandS.TupAny
import HandS.TupMul
import HandS.OwnEq
import HandS.Text
import HandS.Style
import HandS.More
import HandS.FStr
import HandS.ClsMeth
import HandS.DictComp
import HandS.Small
import HandS.Zip
import HandS.SetBool
import HandS.SortKw
import HandS.Strs
import HandS.WideBits
import HandS.Conv
import PySem.Challenge.RW_boxfall_k21_errors_made
set_option Elab.async false
set_option linter.all false
set_option maxRecDepth 100000
set_option maxHeartbeats 4000000
/-! HkA: the promise of an `__init__` of an own exception class that begins with super().__init__(a text). -/
namespace Hk
open PySem PySem.Spec PyProof.Rows L2 NdefX
section
open PySem.W
variable {prog : Program} {w : World} {A : Around} {E : Value → Shared → Prop} {h : Heap} {g : Array GenState} {d : Drawn} {t : Nat} {os : OsState}
variable {nm q : Str} {C N : Addr} {bs bm : List Value} {hdct : Bool} {sn : List Str} {sub : List Value} {ab : Bool} {col : Option Bool} {dd : Option Addr} {k0 k1 k2 k3 k5 : Option Value}
theorem call_bwV {u e t0 : Addr} {rest : List Value} {Q : Value → Shared → Prop}
    (hC : h.get? C = some (excClassObj nm q C N bs bm hdct sn sub ab col dd k0 k1 k2 k3 k5 "ValueError.__new__")) (he : h.get? e = some (HandSPX.excO C t0)) (hu : h.get? u = some (kxs_mw "ValueError.__init__" e)) (hrest : rest.length ≤ sizeLine)
    (hq : ∀ h' t1, (∀ b o, b ≠ e → h.get? b = some o → h'.get? b = some o) → h'.get? e = some (HandSPX.excO C t1) → Q .none ⟨h', g, d, t, os⟩) :
    wpAny (model prog w) A (call (.ref u) rest) Q E ⟨h, g, d, t, os⟩ := by
  refine wpAny_call (codeAny_of_tree ?_)
  show wpAny _ A.in1 (callAny (.ref u) ⟨rest, []⟩) _ _ _
  simp only [callAny]
  refine wpAny_bind (wpAny_load hu ?_)
  simp only [kxs_mw, show (Value.type "method-wrapper" == Value.type "method" || Value.type "method-wrapper" == Value.type "builtin_function_or_method" || Value.type "method-wrapper" == Value.type "method-wrapper") = true by decide, if_true]
  refine W.KFB.if_so (by decide) ?_
  refine wpAny_bind (check_bound_init F.excBase_ValueError.toExcCallFacts hC he rfl ?_)
  refine wpAny_bind (wpAny_pure (wpAny_pure ?_))
  refine ⟨Code.quiet_builtin _ (by decide +kernel), codeAny_builtin F.excBase_ValueError.initEntry ?_⟩
  rw [Around.under_plainId F.excBase_ValueError.init.plain _]
  wp_walk
  refine hq _ h.objs.size (fun b o hb ho => ?_) ?_
  · rw [Heap.get?_update_other _ _ (Ne.symm hb)]
    exact Heap.get?_push_of_some _ ho
  · rw [Heap.get?_update_self _ (Heap.get?_push_of_some _ he) rfl]
    rfl
end
/-- what the written part says of such a class and its __init__ at f -/
structure SupC (P : Program) (K : PySem.W.Frag) (mg : Str → Option Value) (f C cc : Addr) (F : NF) : Prop where
  cls : OexC K C
  cl : F.cl = [(("__class__" : Str), cc)]
  cell : ∃ a b c, K.lookup cc = some ⟨a, b, .cell (some (.ref C)), c⟩
  code : ∃ (a : Value) (b : Option Addr) (vs : Array Value) (c : Array (Option Value)) (file : Str) (tf : Tok), K.lookup F.c = some ⟨a, b, .fields vs, c⟩ ∧ vs[2]? = some (.str file tf) ∧ ((P.main.file : Str) == file) = true
  cdn : PySem.W.codeIn K (.ref F.c) F.qual = true
  top : (P.main.scope.names.lookup ("super" : Str)).isSome = false
  sub : PySem.W.mroIn K C (.ref C) = some true
  sup : mg "super" = none
  ini : PySem.W.ks_superIn K C C "__init__" = some (some (.builtin "ValueError.__init__"))
  isV : PySem.W.subIn K (.ref C) (.type "ValueError") = some true
  opq : PySem.W.nsIn K PySem.cStatics "thirdparty.any" = some none
  hd : ∃ ar : Arg, (F.params.posonlyargs ++ F.params.args).head? = some ar ∧ ar.arg = "self"
  sc1 : F.scope.names.lookup ("super" : Str) = some .globalImplicit
  sc2 : F.scope.names.lookup ("__class__" : Str) = some .free
theorem fn_super {CX : CXT} {P : Program} {w : World} {K : PySem.W.Frag} {mg : Str → Option Value} {base : Heap} {k : Nat} {f C cc : Addr} {F : NF} {par msg : Str} {od an : Option Addr} {oc dV kV doc pm ctv : Value} {osl : Array (Option Value)} {N : List Str} {rest : List Stmt} {sp : Sp}
    {p0 p1 p2 p3 p4 p5 : Pos} {j : Nat} (SC : SupC P K mg f C cc F)
    (lk : K.lookup f = some ⟨oc, od, .func (PySem.W.fnX F.name F.qual F.params F.body F.scope F.cl dV kV doc pm an (.ref F.c) ctv), osl⟩)
    (S : NScope N ["self", par] ["__class__"] F.scope)
    (hF : F.body = .Expr (.Call (.Attribute (.Call (.Name "super" p0) [] [] p1) "__init__" p2) [.Constant (.str msg) j p3] [] p4) p5 :: rest)
    (hev : ∀ L : Addr, ∃ pl : Sem Bool, eval (.Call (.Attribute (.Call (.Name "super" p0) [] [] p1) "__init__" p2) [.Constant (.str msg) j p3] [] p4) (envF F f L) = (do
      let ov ← attributeBase (.Call (.Name "super" p0) [] [] p1) "__init__" (envF F f L) (eval (.Call (.Name "super" p0) [] [] p1) (envF F f L))
      standAt p2.atName
      let (f', first) ← holding [ov] (getMethod ov "__init__" pl)
      callWith p4 f' first (backTo p4 (starEach [.Constant (.str msg) j p3] (envF F f L))) []))
    (hsp : ∀ vs H Q E, sp vs H Q E → ∃ a y, vs = [.ref a, y] ∧ H a = some (exo a C none))
    (hbody : ∀ (A : Around) (outer : List Env) (s : Shared) (H : Hp) (vs : List V) (Q : VK) (E : XK), Room k (A.deeper (envF F f s.heap.objs.size)) → sp vs H Q E →
      ∃ t, PSs (ncx CX P w K mg base N F f A outer s H E) rest t ∧ t { nx := fun _ H' => Q .non H', rt := Q } (startF N vs [some (.ref C)]) H) :
    FnOk P w K mg base CX (k + 1) f (PySem.W.fnX F.name F.qual F.params F.body F.scope F.cl dV kV doc pm an (.ref F.c) ctv) ["self", par] sp := by
  refine ⟨fun vs H Q E h => by obtain ⟨a, y, rfl, _⟩ := hsp vs H Q E h; rfl, fun A outer s H args us vs Q E hr e0 hb r hs => ?_⟩
  obtain ⟨a, y, rfl, ea⟩ := hsp vs H Q E hs
  have KX : K.In s.heap := e0.mod.kin.keeps fun b o e => (e0.bs b o e).1
  have lim : s.heap.NoLimit := e0.mod.nolimit.keeps fun b o e => (e0.bs b o e).1
  refine codeAny_call_function hr.depth (KX _ _ lk) rfl S.co S.gen rfl (PySem.W.codeRec_of KX SC.cdn) (hb _ _ _ _ ?_)
  refine wpAny_newFunctionEnv S.nocell (fun ⟨n, _⟩ hy => S.par n (List.of_mem_zip hy).1) (fun h₁ hns hsb => ⟨lim.fresh _ hsb, ?_⟩) S.kind
  show codeAny _ _ (.func F.body (envF F f s.heap.objs.size)) _ _
  refine ks_codeAny_funcAt ?_
  have kp : ∀ b o, s.heap.get? b = some o → h₁.get? b = some o := fun b o e => hsb.extBut b o (Nat.ne_of_lt (Heap.lt_size e)) (Heap.get?_push_of_some _ e)
  obtain ⟨t, ht, hq⟩ := hbody A outer s H [.ref a, y] Q E (hr.deeper _) hs
  obtain ⟨ca, cb, ccs, hcell⟩ := SC.cell
  have hcl := SC.cl
  have CA : CellsAt F.cl ["__class__"] [some (.ref C)] s.heap H := by
    rw [hcl]
    have lk1 : ∀ {y : Str} {c : Addr}, ([(("__class__" : Str), cc)] : List (Str × Addr)).lookup y = some c → y = "__class__" ∧ c = cc := fun {y c} e => by
      unfold List.lookup at e
      split at e
      · rename_i hy
        cases e
        exact ⟨beq_iff_eq.mp hy, rfl⟩
      · cases e
    have hc0 := e0.mod.kin _ _ hcell
    refine ⟨rfl, fun y c e => ?_, fun x y c e1 e2 => ?_, fun i y e => ?_⟩
    · obtain ⟨_, rfl⟩ := lk1 e
      exact ⟨(e0.bs _ _ hc0).2, _, _, KX _ _ hcell, rfl⟩
    · exact (lk1 e1).1.trans (lk1 e2).1.symm
    · cases i with
      | zero =>
        have e : some ("__class__" : Str) = some y := e
        cases e
        refine ⟨cc, by simp [List.lookup], fun v hv => ?_⟩
        have hv : some (some (V.ref C)) = some (some v) := hv
        cases hv
        exact ⟨.ref C, rfl, _, KX _ _ hcell, rfl⟩
      | succ i => simp at e
  have I : Inv (ncx CX P w K mg base N F f A outer s H E) [] (startF N [.ref a, y] [some (.ref C)]) H { s with heap := h₁, toks := s.toks + ((["self", par] : List Str).zip us).length } := inv_startN S hr.hd e0 rfl r CA hns kp
  rw [hF]
  obtain ⟨ar, har, hself⟩ := SC.hd
  obtain ⟨c1, c2, cvs, c3, file, tf, hcode, hvs, hfile⟩ := SC.code
  obtain ⟨oD, hD1, cdD, hD2⟩ : ∃ oD, K.lookup C = some oD ∧ ∃ cdD, oD.data = .cls cdD := by
    obtain ⟨nm, q, N, bs, bm, sn, sub, ab, col, dd, k0, k1, k2, k3, k5, hC, hbm⟩ := SC.cls.cls
    exact ⟨_, hC, _, rfl⟩
  have I0 := I
  obtain ⟨m, hn, hlk⟩ := I.loc
  obtain ⟨u0, ru0, lk0⟩ := hlk 0 "self" (.ref a) (by
      have q := congrArg (fun l => l[0]?) S.pre
      have q : (N.take 3)[0]? = some ("self" : Str) := q
      rw [List.getElem?_take_of_lt (by decide)] at q
      exact q) rfl (.inl (S.par "self" (by simp)))
  obtain rfl : u0 = Value.ref a := ru0
  have hself' : m "self" = some (.ref a) := by
    rcases lk0 with ⟨_, z⟩ | ⟨hk, _⟩
    · exact z
    · have z : F.scope.names.lookup ("self" : Str) = some .local := S.par "self" (by simp)
      have hk : F.scope.names.lookup ("self" : Str) = some .cell ∨ F.scope.names.lookup ("self" : Str) = some .free := hk
      rw [z] at hk
      rcases hk with hk | hk <;> cases hk
  obtain ⟨t1, ho⟩ := exo_at I.hok ea
  have X1 : K.In h₁ := I.kIn
  obtain ⟨pl, hev⟩ := hev s.heap.objs.size
  refine ks_wpAt_execs_cons (ks_wpAt_Expr_any (ks_wpAt_MethodCall (pl := pl) ?_ (he := hev)) (hi := by unfold interactive; simp [S.kind]) (hs := by rfl))
  refine ks_wpAt_super_base (env := envF F f s.heap.objs.size) SC.sc1 SC.sc2 (by decide) rfl (X1 _ _ lk) rfl har rfl (X1 _ _ hcode) rfl hvs hfile SC.top ?_
  obtain ⟨mb, hb1, hb2⟩ := I.mod.blt
  have hglob := I.mod.glob.keeps I.bk
  have hblt := hb1.keeps I.bk
  refine PySem.W.ks_loadName_global S.kind SC.sc1 (PySem.Calls.loadGlobal_builtin (env := envF F f s.heap.objs.size) hglob SC.sup hblt ((hb2 _ (by decide)).trans (by first | boot_by_name | rfl | kernel_rfl)) ⟨rfl, ?_⟩)
  refine wpAny_loadName_free (c := cc) S.kind SC.sc2 (by show F.cl.lookup _ = _; rw [hcl]; rfl) ⟨_, X1 _ _ hcell, rfl⟩ ?_
  rw [hself]
  refine wpAny_loadName_local S.kind (S.par "self" (by simp)) hn hself' ?_
  refine ks_wpAny_isType_cls (X1 _ _ hD1) hD2 ⟨rfl, ?_⟩
  have ho1 : h₁.get? a = some ({ cls := .ref C, dict := none, data := .fields #[.ref t1, .none, .none, .none, .bool false, .none] } : Obj) := ho
  refine ks_wpAny_call_super (X1 _ _ hD1) hD2 ho1 rfl (fun c e => nomatch e) (PySem.W.looks_mroIn X1 SC.sub) (fun h2 hso k2 => ?_)
  have I2 : Inv (ncx CX P w K mg base N F f A outer s H E) [] (startF N [.ref a, y] [some (.ref C)]) H { s with heap := h2, toks := s.toks + ((["self", par] : List Str).zip us).length } := I0.kept (t' := s.toks + ((["self", par] : List Str).zip us).length) k2
  have X2 : K.In h2 := I2.kIn
  have ho2 := k2 _ _ ho1
  obtain ⟨nm, q, N0, bs, bm, sn, sub, ab, col, dd, k0, k1, k2', k3, k5, hC, hbm⟩ := SC.cls.cls
  have hclC : PySem.W.clsIn K C = some { name := nm, bases := bs, mro := .ref C :: bm, ns := N0, qualname := q, hasDict := true, slotNames := sn, subclasses := sub, abstract := ab, collection := col, hasDel := false } := by unfold PySem.W.clsIn; rw [hC] <;> rfl
  have IA : PySem.W.InstAt h2 a { cls := .ref C, dict := none, data := .fields #[.ref t1, .none, .none, .none, .bool false, .none] } C none := ⟨ho2, rfl, rfl, trivial⟩
  have hini := SC.ini
  unfold PySem.W.ks_superIn at hini
  rw [hclC] at hini
  refine PySem.W.kxs_getMethod PySem.W.kxs_ValueError hso (PySem.W.looks_opaque X2 SC.opq) (l₀ := .ref C :: bm) (fun A Q E s k q => wpAny_bind ((PySem.W.looks_clsIn X2 hclC) A _ E s k (wpAny_pure q))) rfl X2 hini (IA.type.andThen (PySem.W.looks_subIn X2 SC.isV)) (PySem.W.ks_ne X2 IA hclC) (by decide) ?_
  have k3' : ∀ b o, h2.get? b = some o → (h2.push (PySem.W.kxs_mw "ValueError.__init__" a)).get? b = some o := fun b o e => Heap.get?_push_of_some _ e
  have hu : (h2.push (PySem.W.kxs_mw "ValueError.__init__" a)).get? h2.objs.size = some (PySem.W.kxs_mw "ValueError.__init__" a) := Heap.get?_push_at rfl rfl
  have I3 : Inv (ncx CX P w K mg base N F f A outer s H E) [] (startF N [.ref a, y] [some (.ref C)]) H { s with heap := h2.push (PySem.W.kxs_mw "ValueError.__init__" a), toks := s.toks + ((["self", par] : List Str).zip us).length + 1 + 1 } := I2.kept (t' := s.toks + ((["self", par] : List Str).zip us).length + 1 + 1) k3'
  show wpAny _ _ (callWith p4 (.ref h2.objs.size) [] (backTo p4 (starEach [.Constant (.str msg) j p3] (envF F f s.heap.objs.size))) []) _ _ _
  refine PySem.W.kxs_callWith (i := "ValueError.__init__") (x := a) (by rfl) (PySem.Calls.evalArgs_plain ?_)
  show wpAny _ _ (spliced ((false, eval (.Constant (.str msg) j p3) (envF F f s.heap.objs.size)) :: backTo p4 (starEach [] (envF F f s.heap.objs.size)))) _ _ _
  refine PySem.Calls.spliced_cons (wpAny_Constant_str ?_)
  refine PySem.Calls.spliced_nil ⟨hu, ?_⟩
  refine call_bwV (nm := nm) (q := q) (C := C) (I3.kIn _ _ hC) (k3' _ _ ho2) hu (by rw [sizeLine_eq]; exact (by decide : 1 ≤ 16777216)) (fun h4 t4 kk4 e4 => ?_)
  have J := I3.write (t' := s.toks + ((["self", par] : List Str).zip us).length + 1 + 1) (x := a) (e := a) (o := exo a C none) (by rw [ea]; exact True.intro) (.inl rfl) kk4 ⟨_, e4⟩ (exo_ok e4)
  have eu : upd H a (exo a C none) = H := by
    funext b
    by_cases hb : b = a
    · rw [hb, upd_same, ea]
    · rw [upd_ne hb]
  rw [eu] at J
  refine wpAt_of_wpAny (wpAny_mono (ht.run [] _ _ H _ J hq) (fun fl s' hs => ?_) fun e s' hs => hs)
  have fin : ∀ {σ' : L2.St} {H' : Hp} {v : V} {u : Value}, Inv (ncx CX P w K mg base N F f A outer s H E) [] σ' H' s' → L2.RelV v u → Q v H' → CE outer P w H s Q u s' :=
    fun {σ' H' v u} J rv q => ⟨v, H', J.os, J.bare, J.base, J.hok, rv, q⟩
  cases fl with
  | ret u =>
    obtain ⟨v, σ', H', J, rv, q⟩ := hs
    exact fin J rv q
  | next =>
    obtain ⟨σ', H', J, q⟩ := hs
    exact fin (v := V.non) (u := Value.none) J rfl q
  | brk =>
    obtain ⟨_, _, _, q⟩ := hs
    exact False.elim q
  | cont =>
    obtain ⟨_, _, _, q⟩ := hs
    exact False.elim q
end Hk
/-! HkB: exceptions as values: made, asked for their class, their fields read. -/
namespace Hk
open PySem PySem.Spec PyProof.Rows L2
/-- the promise of `__init__(self, y): super().__init__(..); self.f = y` -/
def spI (K : PySem.W.Frag) (C : Addr) (f : Str) : Sp := fun vs H Q _ => ∃ (a : Addr) (y : V), vs = [.ref a, y] ∧ H a = some (exo a C none) ∧
  ∀ dx, H dx = none → dx ≠ a → Q .non (upd (upd H dx (exd dx [(f, y)])) a (exo a C (some dx)))
section
variable {X : Cx} {CX : CXT} {k : Nat} {fI C a : Addr} {fd : FuncData} {sp : Sp} {E : XK} {x par f : Str} {p pos : Pos} {e : Expr} {te : TE}
def oneQ (P : V → Hp → Prop) : List V → Hp → Prop
  | [y], H => P y H
  | _, _ => False
theorem oneQ_some {P : V → Hp → Prop} {vs : List V} {H : Hp} (h : oneQ P vs H) : ∃ y, vs = [y] ∧ P y H := by
  unfold oneQ at h
  split at h
  · exact ⟨_, rfl, h⟩
  · exact h.elim
def tMkE (C : Addr) (f : Str) (te : TE) : TE := fun σ H Q => te σ H fun y H1 => ∀ a dx, H1 a = none → H1 dx = none → dx ≠ a → Q (.ref a) (upd (upd H1 dx (exd dx [(f, y)])) a (exo a C (some dx)))
theorem upd_upd_same {H : Hp} {a dx : Addr} {o u v : HO} (h : dx ≠ a) : upd (upd (upd H a o) dx u) a v = upd (upd H dx u) a v := by
  funext b
  by_cases hb : b = a
  · rw [hb, upd_same, upd_same]
  · rw [upd_ne hb, upd_ne hb]
    by_cases hd : b = dx
    · rw [hd, upd_same, upd_same]
    · rw [upd_ne hd, upd_ne hd, upd_ne hb]
/-- C(e) -/
theorem pe_mkE (T : OexC X.K C) (iC : PySem.W.findIn X.K (.ref C) "__init__" = some (some (.ref fI))) (tI : PySem.W.typeIn X.K (.ref fI) = some (.type "function"))
    (F1 : FnOk X.prog X.w X.K X.mg X.base CX k fI fd ["self", par] (spI X.K C f)) (hr : Room (k + 1) X.A) (hb : Binds X.K fd ["self", par] []) (hx : Passes CX X (fun _ _ _ => False)) (hg : Gl X x) (hm : X.mg x = some (.ref C)) (he : PE X e te)
    (hdb : (x == ("__debug__" : Str)) = false := by decide) (hs : starEach [e] X.env = (false, eval e X.env) :: starEach [] X.env := by rfl) (hpl : (backTo pos (starEach [] X.env)).any (·.1) = false := by rfl) :
    PE X (.Call (.Name x p) [e] [] pos) (tMkE C f te) := by
  refine ⟨fun pins s σ H Q I h => ?_⟩
  obtain ⟨nm, q, N, bs, bm, sn, sub, ab, col, dd, k0, k1, k2, k3, k5, hC, hbm⟩ := T.cls
  refine wpAny_Call_Name_kw (ld_glob I hg hm ?_ hdb)
  refine PySem.W.callWith_K (h₀ := X.base) I.ok.mod.kin T.kC (thn ((pa_cons he pa_nil hs).run pos pins s σ H (oneQ fun y H1 => ∀ a dx, H1 a = none → H1 dx = none → dx ≠ a → Q (.ref a) (upd (upd H1 dx (exd dx [(f, y)])) a (exo a C (some dx)))) I h) fun us s1 ⟨vs, H1, I1, r1, q0⟩ => ⟨I1.kIn, ?_⟩) hs hpl
  obtain ⟨y, rfl, q1⟩ := oneQ_some q0
  show wpAny _ _ (call (.ref C) us) _ _ _
  obtain ⟨hp, g, dr, tk, os⟩ := s1
  have hsz : hp.objs.size ≤ hp.objs.size + 1 := Nat.le_succ _
  have hn : H1 (hp.objs.size + 1) = none := I1.hok.fresh hsz
  have kk : ∀ b o, hp.get? b = some o → ((hp.push (PySem.W.kdv_tup us)).push (PySem.HandSPX.excO C hp.objs.size)).get? b = some o := fun b o e => Heap.get?_push_of_some _ (Heap.get?_push_of_some _ e)
  have hget : ((hp.push (PySem.W.kdv_tup us)).push (PySem.HandSPX.excO C hp.objs.size)).get? (hp.objs.size + 1) = some (PySem.HandSPX.excO C hp.objs.size) := by heap_get
  have I2 : Inv X pins σ (upd H1 (hp.objs.size + 1) (exo (hp.objs.size + 1) C none)) ⟨(hp.push (PySem.W.kdv_tup us)).push (PySem.HandSPX.excO C hp.objs.size), g, dr, tk, os⟩ :=
    I1.laid (t' := tk) (a := hp.objs.size + 1) (o := exo (hp.objs.size + 1) C none) (h' := (hp.push (PySem.W.kdv_tup us)).push (PySem.HandSPX.excO C hp.objs.size)) kk hsz (exo_ok hget)
  have r2 : Vals [V.ref (hp.objs.size + 1), y] (Value.ref (hp.objs.size + 1) :: us) := .cons rfl r1
  have hq : spI X.K C f [V.ref (hp.objs.size + 1), y] (upd H1 (hp.objs.size + 1) (exo (hp.objs.size + 1) C none)) (fun v H2 => v = .non ∧ Q (.ref (hp.objs.size + 1)) H2) (fun _ _ _ => False) :=
    ⟨_, y, rfl, upd_same, fun dx hd ne => ⟨rfl, by
      rw [upd_upd_same ne]
      exact q1 _ dx hn (by rw [upd_ne ne] at hd; exact hd) ne⟩⟩
  have hl : (Value.ref (hp.objs.size + 1) :: us).length = (["self", par] : List Str).length := r2.length.symm
  have hus : us.length ≤ sizeLine := by
    have := r1.length
    rw [← Paired.length r1, sizeLine_eq]
    exact (by decide : 1 ≤ 16777216)
  refine wpAny_call (PySem.HandSPX.call_own F.excBase_ValueError (fun Y => PySem.HandSPX.refsVE_contains Y bm hbm) (I1.kIn _ _ hC) (PySem.W.looks_findIn I1.kIn iC) (fun self => PySem.W.bind_fn I1.kIn self tI) hus
    (codeAny_mono (F1.run _ X.stack _ _ ⟨Value.ref (hp.objs.size + 1) :: us, []⟩ (Value.ref (hp.objs.size + 1) :: us) _ _ (fun _ _ _ => False) (hr.make C us []) (I2.env0.make C us []) (by
      have q := hb _ (Value.ref (hp.objs.size + 1) :: us) I2.kIn (by simpa using hl)
      simpa using q) r2 hq) fun r s' hq' => ?_))
  cases r with
  | error er => exact hx pins σ _ _ er s' I2 hq'
  | ok fl =>
    cases fl with
    | ret u =>
      obtain ⟨v, H', I3, rv, ev, q3⟩ := I2.after hq'
      subst ev
      exact ⟨rv, ⟨V.ref (hp.objs.size + 1), H', I3, rfl, q3⟩⟩
    | next => exact False.elim hq'
    | brk => exact False.elim hq'
    | cont => exact False.elim hq'
/-- C(), C without an own __init__ -/
theorem pe_mkE0 {bmB : List Value} {B newId initId : String} (F : ExcBaseFacts B newId initId bmB) (q : PySem.W.excIn X.K C bmB newId = true) (gC : X.mg x = some (.ref C)) (kC : PySem.W.keepIn X.K (.ref C) = true) (hg : Gl X x)
    (hdb : (x == ("__debug__" : Str)) = false := by decide) :
    PE X (.Call (.Name x p) [] [] pos) (fun σ H Q => ∀ a, H a = none → Q (.ref a) (upd H a (exo a C none))) := by
  refine ⟨fun pins s σ H Q I h => ?_⟩
  refine wpAny_Call_Name_kw (ld_glob I hg gC ?_ hdb)
  refine PySem.W.callWith_K0 I.kIn kC ?_
  show wpAny _ _ (call (.ref C) []) _ _ _
  obtain ⟨bm, N, nm, qn, bs, hdct, sn, sub, ab, col, dd, k0, k1, k2, k3, k5, mN, hC, hN, hni, T⟩ := exc_obj I.kIn q
  refine wpAny_call_exc_subT F T hC hN hni (fun h' a hm => ?_) (by show 0 ≤ sizeLine; exact Nat.zero_le _)
  have hn : H a = none := I.hok.gone hm.new
  obtain ⟨t, ht, _, _⟩ := hm.there
  exact ⟨.ref a, upd H a (exo a C none), I.laidN hm.keeps hm.new hn (exo_ok ht), rfl, h a hn⟩
/-- e.f, e an exception that stands -/
theorem pe_xfV {to : TE} {o : Expr} {C : Addr} {n : Str} (T : XfC X.K C) (hno : PySem.W.findIn X.K (.ref C) n = some none) (he : PE X o to) (hb : attributeBase o n X.env (eval o X.env) = eval o X.env := by rfl) :
    PE X (.Attribute o n pos) (fun σ H Q => to σ H fun x H1 => ∃ (a dd : Addr) (fs : List (Str × V)) (v : V), x = .ref a ∧ H1 a = some (exo a C (some dd)) ∧ H1 dd = some (exd dd fs) ∧ fs.lookup n = some v ∧ Q v H1) := by
  refine ⟨fun pins s σ H Q I h => ?_⟩
  refine attr_of hb (thn (he.run pins s σ H _ I h) fun u s1 hh => ?_)
  obtain ⟨x, H1, I1, rx, a, dd, fs, v, ex, ea, ed, l, q⟩ := hh
  subst ex
  obtain rfl : u = Value.ref a := rx
  obtain ⟨t1, ha⟩ := exo_at I1.hok ea
  obtain ⟨mA, hns, hr⟩ := exd_at I1.hok ed
  obtain ⟨od, ho, hl⟩ := lookIn_ns hns
  obtain ⟨u, hu, ru⟩ := RelO.some_of (v := v) (o := mA n) (by rw [← l]; exact hr n)
  have J : PySem.W.InstAt s1.heap a _ C (some od) := ⟨ha, rfl, rfl, ho⟩
  exact HandSPX.exc_get I1.kIn J T.ga T.gg T.exC (PySem.W.findObj_own T.hdC hno rfl (by rw [hl, hu])) (handed_of ru) ⟨v, H1, I1.tok _, ru, q⟩
/-- isinstance(e, c), e an exception that stands -/
def rIsX (K : PySem.W.Frag) : List V → Hp → VK → Prop := fun xs H Q => ∃ (a D : Addr) (d : Option Addr) (c : V) (cv : Value) (b : Bool), xs = [.ref a, c] ∧ H a = some (exo a D d) ∧ (∀ dd, d = some dd → ∃ fs, H dd = some (exd dd fs)) ∧ ExcC K D ∧ (∀ u, RelV c u → u = cv) ∧ PySem.W.kitOne K (.ref D) cv = some b ∧ Q (.bl b) H
theorem call_isX : CallR X (.builtin "isinstance") (rIsX X.K) := by
  intro pins s σ H xs us Q I r h
  obtain ⟨a, D, d, c, cv, b, rfl, ea, ed, C, hcv, e, q⟩ := h
  cases r with
  | cons rx rr =>
    cases rr with
    | cons rt rr =>
      cases rr
      cases rx
      have ec := hcv _ rt
      subst ec
      obtain ⟨t1, ha⟩ := exo_at I.hok ea
      obtain ⟨od, ox, J⟩ : ∃ od ox, PySem.W.InstAt s.heap a ox D od := by
        cases d with
        | none => exact ⟨none, _, ha, rfl, rfl, trivial⟩
        | some dd =>
          obtain ⟨fs, ed⟩ := ed dd rfl
          obtain ⟨mA, hns, hr⟩ := exd_at I.hok ed
          obtain ⟨od, ho, hl⟩ := lookIn_ns hns
          exact ⟨some od, _, ha, rfl, rfl, ho⟩
      obtain ⟨cd, hcd, _⟩ := PySem.W.any_some C.hd
      exact PySem.W.kia_one (PySem.W.kitx_exc (by rw [hcd]; rfl) C.hg C.hk C.hs C.ha C.hn C.ht C.hm) I.kIn J e (fun z => nomatch z) fun tk => ⟨.bl b, H, I.kept (t' := tk) fun _ _ z => z, rfl, q⟩
end
end Hk
/-! HkC: an exception made by a call with keywords. -/
namespace Hk
open PySem PySem.Spec PyProof.Rows L2
section
open PySem.HandSPX
variable {M : Model} {A : Around} {E : Value → Shared → Prop} {h : Heap} {g : Array GenState} {d : Drawn} {t : Nat} {os : OsState}
variable {nm q : Str} {C N : Addr} {bs bm bmB : List Value} {hdct : Bool} {sn : List Str} {sub : List Value} {ab : Bool} {col : Option Bool} {dd : Option Addr} {k0 k1 k2 k3 k5 : Option Value} {B newId initId : String}
theorem kw_check_new (F : ExcBaseFacts B newId initId bmB) (hT : ∀ X : String, bm.contains (.type X) = bmB.contains (.type X)) {rest : List Value} {kw : List (Str × Value)} {Q : Unit → Shared → Prop}
    (hC : h.get? C = some (excClassObj nm q C N bs bm hdct sn sub ab col dd k0 k1 k2 k3 k5 newId)) (hq : Q () ⟨h, g, d, t, os⟩) : wpAny M A (checkBuiltinCall newId ⟨.ref C :: rest, kw⟩) Q E ⟨h, g, d, t, os⟩ := by
  have hcont : (Value.ref C :: bm).contains (.type B) = true := by rw [List.contains_cons, hT, F.hasB, Bool.or_true]
  have hstar := F.noStar
  simp only [checkBuiltinCall, F.newKind, F.newSplit, F.newRow]
  repeat (first | refine wpAny_loadPart_at hC ?_ | (refine wpAny_isSubtype_exc hC ?_; rw [hcont]) | refine wpAny_staticBase_exc hC ?_ | refine wpAny_madeBy_exc hC ?_ | simp only [bne_self_eq_false, Bool.false_eq_true, if_false] | wp_step)
  exact hq
theorem kw_check_call {rest : List Value} {kw : List (Str × Value)} {Q : Unit → Shared → Prop} (hC : h.get? C = some (excClassObj nm q C N bs bm hdct sn sub ab col dd k0 k1 k2 k3 k5 newId))
    (hq : Q () ⟨h, g, d, t, os⟩) : wpAny M A (checkBuiltinCall "type.__call__" ⟨.ref C :: rest, kw⟩) Q E ⟨h, g, d, t, os⟩ := by
  have f3 := tc_sub
  have hT : (⟨h, g, d, t, os⟩ : Shared).TypeIs (.ref C) "type" := ⟨_, hC, rfl⟩
  simp only [checkBuiltinCall, tc_kind, tc_split]
  repeat (any_goals (first | assumption | with_reducible refine wpAny_loadPart_at hC ?_ | with_reducible refine wpAny_onRaise ?_ | with_reducible refine wpAny_map ?_ | wp_step))
end
section
open PySem.HandSPX
variable {prog : Program} {w : World} {A : Around} {E : Value → Shared → Prop} {R : Result → Shared → Prop} {h : Heap} {g : Array GenState} {d : Drawn} {t : Nat} {os : OsState}
variable {nm q : Str} {C N : Addr} {bs bm bmB : List Value} {hdct : Bool} {sn : List Str} {sub : List Value} {ab : Bool} {col : Option Bool} {dd : Option Addr} {k0 k1 k2 k3 k5 : Option Value} {B newId initId : String}
theorem kw_new (F : ExcBaseFacts B newId initId bmB) (hT : ∀ X : String, bm.contains (.type X) = bmB.contains (.type X)) {rest : List Value} {kw : List (Str × Value)}
    (hC : h.get? C = some (excClassObj nm q C N bs bm hdct sn sub ab col dd k0 k1 k2 k3 k5 newId))
    (hq : R (.ok (.ret (.ref (h.objs.size + 1)))) ⟨(h.push { cls := .type "tuple", data := .seq rest.toArray }).push
      { cls := .ref C, data := .fields #[.ref h.objs.size, .none, .none, .none, .bool false, .none] }, g, d, t, os⟩) (hrest : rest.length ≤ sizeLine) :
    codeAny (model prog w) A (.builtin newId ⟨.ref C :: rest, kw⟩) R ⟨h, g, d, t, os⟩ := by
  have hends := F.ends
  have hcB : (Value.ref C :: bm).contains (.type B) = true := by rw [List.contains_cons, hT, F.hasB, Bool.or_true]
  have hcA : (Value.ref C :: bm).contains (.type "AttributeError") = false := by rw [List.contains_cons, hT, F.noAttr]; rfl
  have hcN : (Value.ref C :: bm).contains (.type "NameError") = false := by rw [List.contains_cons, hT, F.noName]; rfl
  refine codeAny_builtinAt F.entry ?_
  unfold Builtin.«BaseException.__new__»
  refine PySem.wpAt_bind ?_
  show PySem.wpAt _ _ _ (stack >>= _) _ _ _
  refine PySem.wpAt_bind (PySem.wpAt_stack fun p below => PySem.wpAt_of_wpAny ?_)
  wp_walk
  refine PySem.wpAt_of_wpAny ?_
  rw [F.owner]
  repeat (first | with_reducible refine wpAny_madeHere_exc F.canon hC ?_ | with_reducible refine wpAny_loadPart_at hC ?_ | (with_reducible refine wpAny_isSubtype_exc hC ?_; first | rw [hcB] | rw [hcA] | rw [hcN]) | wp_step)
  show R _ _
  rw [Heap.size_push]
  exact hq
theorem kw_type_call (F : ExcBaseFacts B newId initId bmB) (hT : ∀ X : String, bm.contains (.type X) = bmB.contains (.type X)) {rest : List Value} {kw : List (Str × Value)} {fI : Addr} {Q : Fin → Shared → Prop}
    (hC : h.get? C = some (excClassObj nm q C N bs bm hdct sn sub ab col dd k0 k1 k2 k3 k5 newId))
    (hi : W.Looks (model prog w) h (typeLookup (.ref C) "__init__") (some (.ref fI))) (hb : ∀ self, W.Looks (model prog w) h (bindSpecial (.ref fI) self) (.ref fI, [self])) (hrest : rest.length ≤ sizeLine)
    (hq : codeAny (model prog w) A (.call (.ref fI) ⟨.ref (h.objs.size + 1) :: rest, kw⟩)
      (fun r s' => match r with | .ok (.ret v) => v = .none ∧ Q (.done (.ret (.ref (h.objs.size + 1)))) s' | .ok _ => False | .error e => E e s')
      ⟨(h.push (W.kdv_tup rest)).push (excO C h.objs.size), g, d, t, os⟩) :
    wpAny (model prog w) A (Builtin.«type.__call__» ⟨.ref C :: rest, kw⟩) Q E ⟨h, g, d, t, os⟩ := by
  repeat (first | with_reducible refine wpAny_loadPart_at hC ?_ | with_reducible refine wpAny_madeBy_exc hC ?_ | wp_step)
  refine codeAny_call_builtin_code (Code.quiet_builtin _ F.quiet) (kw_check_new F hT hC ?_)
  refine kw_new F hT hC ?_ hrest
  show wpAny _ _ _ _ _ _
  have k : ∀ b o, h.get? b = some o → ((h.push (W.kdv_tup rest)).push (excO C h.objs.size)).get? b = some o := fun b o e => Heap.get?_push_of_some _ (Heap.get?_push_of_some _ e)
  have hC₁ := k _ _ hC
  have hget : ((h.push (W.kdv_tup rest)).push (excO C h.objs.size)).get? (h.objs.size + 1) = some (excO C h.objs.size) := by heap_get
  have hcC : (Value.ref C :: bm).contains (.ref C) = true := by simp
  have i1 := hi.keeps k
  have b1 := (hb (.ref (h.objs.size + 1))).keeps k
  unfold isInstance
  repeat (first | with_reducible refine wpAny_loadPart_at hget ?_ | (with_reducible refine wpAny_isSubtype_exc hC₁ ?_; rw [hcC]) | wp_step)
  show wpAny _ _ (typeLookup (.ref C) _) _ _ _
  refine i1.at ?_
  refine wpAny_holding (wpAny_bind (b1.at ?_))
  refine wpAny_bind (wpAny_call (codeAny_mono hq fun r s' z => ?_))
  rcases r with e | (v | _ | _ | _) <;> first | exact z | exact z.elim | skip
  obtain ⟨rfl, z⟩ := z
  first
    | exact wpAny_pure (wpAny_pure z)
    | (wp_walk; exact z)
theorem kw_call (F : ExcBaseFacts B newId initId bmB) (hT : ∀ X : String, bm.contains (.type X) = bmB.contains (.type X)) {rest : List Value} {kw : List (Str × Value)} {fI : Addr}
    (hC : h.get? C = some (excClassObj nm q C N bs bm hdct sn sub ab col dd k0 k1 k2 k3 k5 newId))
    (hi : W.Looks (model prog w) h (typeLookup (.ref C) "__init__") (some (.ref fI))) (hb : ∀ self, W.Looks (model prog w) h (bindSpecial (.ref fI) self) (.ref fI, [self])) (hrest : rest.length ≤ sizeLine)
    (hq : codeAny (model prog w) (A.under (.builtin "type.__call__" ⟨.ref C :: rest, kw⟩)) (.call (.ref fI) ⟨.ref (h.objs.size + 1) :: rest, kw⟩) (W.InitBack (h.objs.size + 1) R)
      ⟨(h.push (W.kdv_tup rest)).push (excO C h.objs.size), g, d, t, os⟩) :
    codeAny (model prog w) A (.call (.ref C) ⟨rest, kw⟩) R ⟨h, g, d, t, os⟩ := by
  have f1 := tc_lookup
  have f2 := tc_bind (.ref C)
  have hTy : (⟨h, g, d, t, os⟩ : Shared).TypeIs (.ref C) "type" := ⟨_, hC, rfl⟩
  refine codeAny_of_tree ?_
  show wpAny _ _ (callAny (.ref C) _) _ _ _
  repeat (any_goals (first | assumption | with_reducible refine wpAny_loadPart_at hC ?_ | wp_step))
  refine ⟨rfl, ?_⟩
  refine codeAny_call_builtin_at (Code.quiet_builtin _ (by decide +kernel)) entry_typeCall (kw_check_call hC (kw_type_call F hT hC hi hb hrest ?_))
  refine codeAny_mono hq fun r s' z => ?_
  rcases r with e | (v | _ | _ | _) <;> exact z
end
section
variable {X : Cx} {CX : CXT} {k : Nat} {fI C a : Addr} {fd : FuncData} {sp : Sp} {E : XK} {x par f : Str} {p pos kpos : Pos} {e : Expr} {te : TE}
/-- C(par=e) -/
theorem pe_mkEk (T : OexC X.K C) (iC : PySem.W.findIn X.K (.ref C) "__init__" = some (some (.ref fI))) (tI : PySem.W.typeIn X.K (.ref fI) = some (.type "function"))
    (F1 : FnOk X.prog X.w X.K X.mg X.base CX k fI fd ["self", par] (spI X.K C f)) (hr : Room (k + 1) X.A) (hb : ∀ (s : Shared) (u v : Value), PySem.W.Frag.In X.K s.heap → BindsTo s fd ⟨[u], [(par, v)]⟩ ((["self", par] : List Str).zip [u, v])) (hx : Passes CX X (fun _ _ _ => False)) (hg : Gl X x) (hm : X.mg x = some (.ref C)) (he : PE X e te)
    (hdb : (x == ("__debug__" : Str)) = false := by decide) (hall : (backToKw pos (keywordEach [⟨some par, e, kpos⟩] X.env)).all (·.1.isSome) = true := by rfl) (hks : (backToKw pos (keywordEach [⟨some par, e, kpos⟩] X.env)).filterMap (·.1) = [par] := by rfl)
    (hpl : ((backTo pos (starEach [] X.env)).any (·.1) || (backToKw pos (keywordEach [⟨some par, e, kpos⟩] X.env)).any (·.1.isNone)) = false := by rfl) :
    PE X (.Call (.Name x p) [] [⟨some par, e, kpos⟩] pos) (tMkE C f te) := by
  refine ⟨fun pins s σ H Q I h => ?_⟩
  obtain ⟨nm, q, N, bs, bm, sn, sub, ab, col, dd, k0, k1, k2, k3, k5, hC, hbm⟩ := T.cls
  refine wpAny_Call_Name_kw (ld_glob I hg hm ?_ hdb)
  refine PySem.W.callWith_KW0 (h₀ := X.base) I.ok.mod.kin T.kC hall ?_ hpl
  refine thn ((pk_cons he pk_nil).run pos pins s σ H (oneQ fun y H1 => ∀ a dx, H1 a = none → H1 dx = none → dx ≠ a → Q (.ref a) (upd (upd H1 dx (exd dx [(f, y)])) a (exo a C (some dx)))) I h) fun us s1 ⟨vs, H1, I1, r1, q0⟩ => ⟨I1.kIn, ?_⟩
  obtain ⟨y, rfl, q1⟩ := oneQ_some q0
  rw [hks]
  cases r1 with
  | @cons _ u _ _ ru rr =>
  cases rr
  show wpAny _ _ (call (.ref C) [] [(par, u)]) _ _ _
  obtain ⟨hp, g, dr, tk, os⟩ := s1
  have hsz : hp.objs.size ≤ hp.objs.size + 1 := Nat.le_succ _
  have hn : H1 (hp.objs.size + 1) = none := I1.hok.fresh hsz
  have kk : ∀ b o, hp.get? b = some o → ((hp.push (PySem.W.kdv_tup [])).push (PySem.HandSPX.excO C hp.objs.size)).get? b = some o := fun b o e => Heap.get?_push_of_some _ (Heap.get?_push_of_some _ e)
  have hget : ((hp.push (PySem.W.kdv_tup [])).push (PySem.HandSPX.excO C hp.objs.size)).get? (hp.objs.size + 1) = some (PySem.HandSPX.excO C hp.objs.size) := by heap_get
  have I2 : Inv X pins σ (upd H1 (hp.objs.size + 1) (exo (hp.objs.size + 1) C none)) ⟨(hp.push (PySem.W.kdv_tup [])).push (PySem.HandSPX.excO C hp.objs.size), g, dr, tk, os⟩ :=
    I1.laid (t' := tk) (a := hp.objs.size + 1) (o := exo (hp.objs.size + 1) C none) (h' := (hp.push (PySem.W.kdv_tup [])).push (PySem.HandSPX.excO C hp.objs.size)) kk hsz (exo_ok hget)
  have r2 : Vals [V.ref (hp.objs.size + 1), y] [Value.ref (hp.objs.size + 1), u] := .cons rfl (.cons ru .nil)
  have hq : spI X.K C f [V.ref (hp.objs.size + 1), y] (upd H1 (hp.objs.size + 1) (exo (hp.objs.size + 1) C none)) (fun v H2 => v = .non ∧ Q (.ref (hp.objs.size + 1)) H2) (fun _ _ _ => False) :=
    ⟨_, y, rfl, upd_same, fun dx hd ne => ⟨rfl, by
      rw [upd_upd_same ne]
      exact q1 _ dx hn (by rw [upd_ne ne] at hd; exact hd) ne⟩⟩
  refine wpAny_call (kw_call F.excBase_ValueError (fun Y => PySem.HandSPX.refsVE_contains Y bm hbm) (I1.kIn _ _ hC) (PySem.W.looks_findIn I1.kIn iC) (fun self => PySem.W.bind_fn I1.kIn self tI) (Nat.zero_le _)
    (codeAny_mono (F1.run _ X.stack _ _ ⟨[Value.ref (hp.objs.size + 1)], [(par, u)]⟩ [Value.ref (hp.objs.size + 1), u] _ _ (fun _ _ _ => False) (hr.make C [] [(par, u)]) (I2.env0.make C [] [(par, u)]) (hb _ _ _ I2.kIn) r2 hq) fun r s' hq' => ?_))
  cases r with
  | error er => exact hx pins σ _ _ er s' I2 hq'
  | ok fl =>
    cases fl with
    | ret u =>
      obtain ⟨v, H', I3, rv, ev, q3⟩ := I2.after hq'
      subst ev
      exact ⟨rv, ⟨V.ref (hp.objs.size + 1), H', I3, rfl, q3⟩⟩
    | next => exact False.elim hq'
    | brk => exact False.elim hq'
    | cont => exact False.elim hq'
end
end Hk
/-! Hk1: a def as a plain function over data and cells: the state, its relation to the heap, the judgements. -/
namespace Hk
open PySem PySem.Spec PyProof.Rows L2 Evl

/-- data that stands still; an object of an own class that is never changed; a dict that is never changed -/
inductive Dt where
  | non | bl (b : Bool) | int (i : Int) | str (s : Str)
  | lst (xs : List Dt) | tup (xs : List Dt) | sq (xs : List Dt)
  | obj (C : Str) (ns : List Str) (ds : List Dt)
  | dic (ks : List Key) (ds : List Dt)
  | cls (C : Str)
  | exc (C : Str) (ns : List Str) (ds : List Dt)
/-- where the class of a name stands -/
def clA (K : PySem.W.Frag) (C : Str) : Addr := match PySem.W.nsIn K PySem.mainGlobals C with
  | some (some (.ref a)) => a
  | _ => 0
/-- a value: data, the k-th cell, a tuple that holds cells -/
inductive Vl where
  | d (d : Dt) | c (k : Nat) | t (rs : List Vl)
/-- a cell, a thing that may change and holds data alone: a list, an instance, a dict; one that is data by now; any other thing at its address -/
inductive Ce where
  | dead | lst (xs : List Dt)
  | ins (C : Str) (ns : List Str) (ds : List Dt)
  | dic (ks : List Key) (ds : List Dt) | dit (ks : List (List Key)) (ds : List Dt)
  | pin (o : HO) | lkd (ks : List Key) (ds : List Dt)
structure En where
  sl : List (Option Vl)
  ce : List Ce

/-- an exception of the class at C stands at a, with the fields fs -/
def ExcAt (H : Hp) (a C : Addr) (fs : List (Str × V)) : Prop := (fs = [] ∧ H a = some (exo a C none)) ∨ ∃ dx, H a = some (exo a C (some dx)) ∧ H dx = some (exd dx fs)
theorem ExcAt.imp {H H' : Hp} (e : ∀ (a : Addr) (φ : Heap → Prop), H a = some (.ext φ) → H' a = some (.ext φ)) {a C : Addr} {fs : List (Str × V)} (h : ExcAt H a C fs) : ExcAt H' a C fs := by
  rcases h with ⟨h1, h2⟩ | ⟨dx, h1, h2⟩
  · exact .inl ⟨h1, e a _ h2⟩
  · exact .inr ⟨dx, e a _ h1, e dx _ h2⟩
mutual
def Rp (K : PySem.W.Frag) (H : Hp) : Dt → V → Prop
  | .non, v => v = .non
  | .bl b, v => v = .bl b
  | .int i, v => v = .int i
  | .str s, v => v = .str s
  | .lst ds, v => ∃ a xs, v = .ref a ∧ H a = some (.lst xs) ∧ RpA K H ds xs
  | .sq ds, v => ∃ a xs, v = .ref a ∧ SqL K H a xs ∧ RpA K H ds xs
  | .tup ds, v => ∃ a xs, v = .ref a ∧ SqT K H a xs ∧ RpA K H ds xs
  | .obj C ns ds, v => ∃ a dx fs, v = .ref a ∧ H a = some (.ins (clA K C) dx fs) ∧ fs.map (·.1) = ns ∧ RpA K H ds (fs.map (·.2))
  | .dic ks ds, v => ∃ a kvs, v = .ref a ∧ Rd H a (.dK kvs) ∧ kvs.map (·.1) = ks ∧ RpA K H ds (kvs.map (·.2))
  | .cls C, v => v = .ref (clA K C)
  | .exc C ns ds, v => ∃ a fs, v = .ref a ∧ ExcAt H a (clA K C) fs ∧ fs.map (·.1) = ns ∧ RpA K H ds (fs.map (·.2))
def RpA (K : PySem.W.Frag) (H : Hp) : List Dt → List V → Prop
  | [], xs => xs = []
  | d :: ds, xs => ∃ x r, xs = x :: r ∧ Rp K H d x ∧ RpA K H ds r
end

mutual
theorem Rp.ex {K : PySem.W.Frag} {H H' : Hp} (e : Ex H H') : ∀ (d : Dt) (v : V), Rp K H d v → Rp K H' d v
  | .non, v, h => h
  | .bl _, v, h => h
  | .int _, v, h => h
  | .str _, v, h => h
  | .lst ds, v, h => by
    obtain ⟨a, xs, h1, h2, h3⟩ := h
    exact ⟨a, xs, h1, e a _ h2, RpA.ex e ds xs h3⟩
  | .sq ds, v, h => by
    obtain ⟨a, xs, h1, h2, h3⟩ := h
    exact ⟨a, xs, h1, ex_l e h2, RpA.ex e ds xs h3⟩
  | .tup ds, v, h => by
    obtain ⟨a, xs, h1, h2, h3⟩ := h
    exact ⟨a, xs, h1, ex_t e h2, RpA.ex e ds xs h3⟩
  | .obj C ns ds, v, h => by
    obtain ⟨a, dx, fs, h1, h2, h3, h4⟩ := h
    exact ⟨a, dx, fs, h1, e a _ h2, h3, RpA.ex e ds _ h4⟩
  | .dic ks ds, v, h => by
    obtain ⟨a, kvs, h1, h2, h3, h4⟩ := h
    exact ⟨a, kvs, h1, ex_rd e h2, h3, RpA.ex e ds _ h4⟩
  | .cls _, v, h => h
  | .exc C ns ds, v, h => by
    obtain ⟨a, fs, h1, h2, h3, h4⟩ := h
    exact ⟨a, fs, h1, h2.imp fun a φ q => e a _ q, h3, RpA.ex e ds _ h4⟩
theorem RpA.ex {K : PySem.W.Frag} {H H' : Hp} (e : Ex H H') : ∀ (ds : List Dt) (vs : List V), RpA K H ds vs → RpA K H' ds vs
  | [], vs, h => h
  | d :: ds, vs, h => by
    obtain ⟨x, r, h1, h2, h3⟩ := h
    exact ⟨x, r, h1, Rp.ex e d x h2, RpA.ex e ds r h3⟩
end

/-- what stands in the heap for what the data's heap holds: a dict that a loop locks is held wrapped once more -/
def strip : HO → HO
  | .frz _ (.frz o u) => .frz o u
  | u => u
def ExS (Hd H : Hp) : Prop := ∀ a u, Hd a = some u → H a = some (strip u)
theorem exs_l {K : PySem.W.Frag} {Hd H : Hp} {a : Addr} {xs : List V} (e : ExS Hd H) (h : SqL K Hd a xs) : SqL K H a xs := by
  rcases h with (h | ⟨o, h⟩) | h
  · exact .inl (.inl (e a _ h))
  · exact .inl (.inr ⟨o, e a _ h⟩)
  · exact .inr h
theorem exs_t {K : PySem.W.Frag} {Hd H : Hp} {a : Addr} {xs : List V} (e : ExS Hd H) (h : SqT K Hd a xs) : SqT K H a xs := by
  rcases h with (h | ⟨o, h⟩) | h
  · exact .inl (.inl (e a _ h))
  · exact .inl (.inr ⟨o, e a _ h⟩)
  · exact .inr h
theorem exs_d {Hd H : Hp} {a : Addr} {kvs : List (Key × V)} (e : ExS Hd H) (h : Rd Hd a (.dK kvs)) : Rd H a (.dK kvs) := by
  rcases h with h | ⟨o, h⟩
  · exact .inl (e a _ h)
  · exact .inr ⟨o, e a _ h⟩
theorem exs_back {Hd H : Hp} {p : Addr} (e : ExS Hd H) (hp : H p = none) : Hd p = none := by
  cases q : Hd p with
  | none => rfl
  | some u =>
    have := e p u q
    rw [hp] at this
    cases this
mutual
theorem Rp.exS {K : PySem.W.Frag} {H H' : Hp} (e : ExS H H') : ∀ (d : Dt) (v : V), Rp K H d v → Rp K H' d v
  | .non, v, h => h
  | .bl _, v, h => h
  | .int _, v, h => h
  | .str _, v, h => h
  | .lst ds, v, h => by
    obtain ⟨a, xs, h1, h2, h3⟩ := h
    exact ⟨a, xs, h1, e a _ h2, RpA.exS e ds xs h3⟩
  | .sq ds, v, h => by
    obtain ⟨a, xs, h1, h2, h3⟩ := h
    exact ⟨a, xs, h1, exs_l e h2, RpA.exS e ds xs h3⟩
  | .tup ds, v, h => by
    obtain ⟨a, xs, h1, h2, h3⟩ := h
    exact ⟨a, xs, h1, exs_t e h2, RpA.exS e ds xs h3⟩
  | .obj C ns ds, v, h => by
    obtain ⟨a, dx, fs, h1, h2, h3, h4⟩ := h
    exact ⟨a, dx, fs, h1, e a _ h2, h3, RpA.exS e ds _ h4⟩
  | .dic ks ds, v, h => by
    obtain ⟨a, kvs, h1, h2, h3, h4⟩ := h
    exact ⟨a, kvs, h1, exs_d e h2, h3, RpA.exS e ds _ h4⟩
  | .cls _, v, h => h
  | .exc C ns ds, v, h => by
    obtain ⟨a, fs, h1, h2, h3, h4⟩ := h
    exact ⟨a, fs, h1, h2.imp fun a φ q => e a _ q, h3, RpA.exS e ds _ h4⟩
theorem RpA.exS {K : PySem.W.Frag} {H H' : Hp} (e : ExS H H') : ∀ (ds : List Dt) (vs : List V), RpA K H ds vs → RpA K H' ds vs
  | [], vs, h => h
  | d :: ds, vs, h => by
    obtain ⟨x, r, h1, h2, h3⟩ := h
    exact ⟨x, r, h1, Rp.exS e d x h2, RpA.exS e ds r h3⟩
end
section
variable {K : PySem.W.Frag} {H Hd : Hp}
theorem RpA.len : ∀ {ds : List Dt} {vs : List V}, RpA K H ds vs → vs.length = ds.length
  | [], vs, h => by
    rw [show vs = [] from h]
    rfl
  | d :: ds, vs, h => by
    obtain ⟨x, r, rfl, _, h3⟩ := h
    rw [List.length_cons, List.length_cons, RpA.len h3]
theorem RpA.at : ∀ {ds : List Dt} {vs : List V} {i : Nat} {d : Dt}, RpA K H ds vs → ds[i]? = some d → ∃ v, vs[i]? = some v ∧ Rp K H d v
  | [], vs, i, d, h, e => by simp at e
  | d :: ds, vs, 0, d', h, e => by
    obtain ⟨x, r, rfl, h2, h3⟩ := h
    have e2 : d = d' := Option.some.inj e
    exact ⟨x, rfl, e2 ▸ h2⟩
  | d :: ds, vs, i + 1, d', h, e => by
    obtain ⟨x, r, rfl, h2, h3⟩ := h
    obtain ⟨v, g1, g2⟩ := RpA.at (i := i) h3 e
    exact ⟨v, g1, g2⟩
theorem RpA.app : ∀ {ds es : List Dt} {vs us : List V}, RpA K H ds vs → RpA K H es us → RpA K H (ds ++ es) (vs ++ us)
  | [], es, vs, us, h, g => by
    rw [show vs = [] from h]
    exact g
  | d :: ds, es, vs, us, h, g => by
    obtain ⟨x, r, rfl, h2, h3⟩ := h
    exact ⟨x, r ++ us, rfl, h2, RpA.app h3 g⟩
theorem RpA.one {d : Dt} {v : V} (h : Rp K H d v) : RpA K H [d] [v] := ⟨v, [], rfl, h, rfl⟩
theorem RpA.drop : ∀ (n : Nat) {ds : List Dt} {vs : List V}, RpA K H ds vs → RpA K H (ds.drop n) (vs.drop n)
  | 0, ds, vs, h => h
  | n + 1, [], vs, h => by
    rw [show vs = [] from h]
    exact (rfl : ([] : List V) = [])
  | n + 1, d :: ds, vs, h => by
    obtain ⟨x, r, rfl, h2, h3⟩ := h
    exact RpA.drop n h3
theorem RpA.take : ∀ (n : Nat) {ds : List Dt} {vs : List V}, RpA K H ds vs → RpA K H (ds.take n) (vs.take n)
  | 0, ds, vs, h => (rfl : ([] : List V) = [])
  | n + 1, [], vs, h => by
    rw [show vs = [] from h]
    exact (rfl : ([] : List V) = [])
  | n + 1, d :: ds, vs, h => by
    obtain ⟨x, r, rfl, h2, h3⟩ := h
    exact ⟨x, r.take n, rfl, h2, RpA.take n h3⟩
theorem RpA.rep {d : Dt} {v : V} (h : Rp K H d v) : ∀ n, RpA K H (List.replicate n d) (List.replicate n v)
  | 0 => (rfl : ([] : List V) = [])
  | n + 1 => ⟨v, List.replicate n v, rfl, h, RpA.rep h n⟩
theorem RpA.dropLast : ∀ {ds : List Dt} {vs : List V}, RpA K H ds vs → RpA K H ds.dropLast vs.dropLast := fun {ds} {vs} h => by
  rw [List.dropLast_eq_take, List.dropLast_eq_take, RpA.len h]
  exact RpA.take _ h
theorem RpA.set : ∀ {ds : List Dt} {vs : List V} {d : Dt} {v : V} (j : Nat), RpA K H ds vs → Rp K H d v → RpA K H (ds.set j d) (vs.set j v)
  | [], vs, d, v, j, h, g => by
    rw [show vs = [] from h]
    exact (rfl : ([] : List V) = [])
  | d' :: ds, vs, d, v, 0, h, g => by
    obtain ⟨x, r, rfl, h2, h3⟩ := h
    exact ⟨v, r, rfl, g, h3⟩
  | d' :: ds, vs, d, v, j + 1, h, g => by
    obtain ⟨x, r, rfl, h2, h3⟩ := h
    exact ⟨x, r.set j v, rfl, h2, RpA.set j h3 g⟩

/-! ### values, cells, slots -/
mutual
def Rv (K : PySem.W.Frag) (μ : List Addr) (Hd : Hp) : Vl → V → Prop
  | .d d, v => Rp K Hd d v
  | .c k, v => ∃ a, μ[k]? = some a ∧ v = .ref a
  | .t rs, v => ∃ a vs, v = .ref a ∧ Hd a = some (.tup vs) ∧ RvL K μ Hd rs vs
def RvL (K : PySem.W.Frag) (μ : List Addr) (Hd : Hp) : List Vl → List V → Prop
  | [], vs => vs = []
  | r :: rs, vs => ∃ x q, vs = x :: q ∧ Rv K μ Hd r x ∧ RvL K μ Hd rs q
end
structure Gr (μ : List Addr) (Hd : Hp) (μ' : List Addr) (Hd' : Hp) : Prop where
  pre : ∀ (k : Nat) (a : Addr), μ[k]? = some a → μ'[k]? = some a
  ex : Ex Hd Hd'
theorem Gr.refl (μ : List Addr) (Hd : Hp) : Gr μ Hd μ Hd := ⟨fun _ _ h => h, Ex.refl Hd⟩
theorem Gr.trans {μ μ1 μ2 : List Addr} {Hd H1 H2 : Hp} (a : Gr μ Hd μ1 H1) (b : Gr μ1 H1 μ2 H2) : Gr μ Hd μ2 H2 := ⟨fun k x h => b.pre k x (a.pre k x h), a.ex.trans b.ex⟩
mutual
theorem Rv.gr {μ μ' : List Addr} {Hd Hd' : Hp} (g : Gr μ Hd μ' Hd') : ∀ {r : Vl} {v : V}, Rv K μ Hd r v → Rv K μ' Hd' r v
  | .d d, v, h => Rp.ex g.ex d v h
  | .c k, v, ⟨a, h1, h2⟩ => ⟨a, g.pre k a h1, h2⟩
  | .t rs, v, ⟨a, vs, h1, h2, h3⟩ => ⟨a, vs, h1, g.ex a _ h2, RvL.gr g h3⟩
theorem RvL.gr {μ μ' : List Addr} {Hd Hd' : Hp} (g : Gr μ Hd μ' Hd') : ∀ {rs : List Vl} {vs : List V}, RvL K μ Hd rs vs → RvL K μ' Hd' rs vs
  | [], vs, h => h
  | r :: rs, vs, ⟨x, q, h1, h2, h3⟩ => ⟨x, q, h1, Rv.gr g h2, RvL.gr g h3⟩
end
inductive RvA (K : PySem.W.Frag) (μ : List Addr) (Hd : Hp) : List Vl → List V → Prop
  | nil : RvA K μ Hd [] []
  | cons {r : Vl} {v : V} {rs : List Vl} {vs : List V} : Rv K μ Hd r v → RvA K μ Hd rs vs → RvA K μ Hd (r :: rs) (v :: vs)
theorem RvA.gr {μ μ' : List Addr} {Hd Hd' : Hp} (g : Gr μ Hd μ' Hd') : ∀ {rs : List Vl} {vs : List V}, RvA K μ Hd rs vs → RvA K μ' Hd' rs vs
  | _, _, .nil => .nil
  | _, _, .cons h t => .cons (Rv.gr g h) (RvA.gr g t)
theorem RvA.len {μ : List Addr} : ∀ {rs : List Vl} {vs : List V}, RvA K μ Hd rs vs → vs.length = rs.length
  | _, _, .nil => rfl
  | _, _, .cons h t => by rw [List.length_cons, List.length_cons, RvA.len t]
theorem RvA.l {μ : List Addr} : ∀ {rs : List Vl} {vs : List V}, RvA K μ Hd rs vs → RvL K μ Hd rs vs
  | _, _, .nil => rfl
  | _, _, .cons h t => ⟨_, _, rfl, h, RvA.l t⟩
theorem RvL.a {μ : List Addr} : ∀ {rs : List Vl} {vs : List V}, RvL K μ Hd rs vs → RvA K μ Hd rs vs
  | [], vs, h => by
    rw [show vs = [] from h]
    exact .nil
  | r :: rs, vs, h => by
    obtain ⟨x, q, rfl, h2, h3⟩ := h
    exact .cons h2 (RvL.a h3)
/-- what an object holds, for a cell -/
def HoAt (K : PySem.W.Frag) (Hd : Hp) : Ce → HO → Prop
  | .dead, _ => True
  | .lst xs, o => ∃ vs, o = .lst vs ∧ RpA K Hd xs vs
  | .ins C ns ds, o => ∃ dx fs, o = .ins (clA K C) dx fs ∧ fs.map (·.1) = ns ∧ RpA K Hd ds (fs.map (·.2))
  | .dic ks ds, o => ∃ kvs, o = .dK kvs ∧ kvs.map (·.1) = ks ∧ RpA K Hd ds (kvs.map (·.2))
  | .dit ks ds, o => ∃ kvs, o = .dT kvs ∧ kvs.map (·.1) = ks ∧ RpA K Hd ds (kvs.map (·.2))
  | .pin u, o => o = u
  | .lkd _ _, _ => True
theorem HoAt.ex {Hd Hd' : Hp} (g : Ex Hd Hd') : ∀ {c : Ce} {o : HO}, HoAt K Hd c o → HoAt K Hd' c o
  | .dead, _, _ => True.intro
  | .lst xs, o, ⟨vs, e, h⟩ => ⟨vs, e, RpA.ex g xs vs h⟩
  | .ins C ns ds, o, ⟨dx, fs, e, hn, h⟩ => ⟨dx, fs, e, hn, RpA.ex g _ _ h⟩
  | .dic ks ds, o, ⟨kvs, e, hn, h⟩ => ⟨kvs, e, hn, RpA.ex g _ _ h⟩
  | .dit ks ds, o, ⟨kvs, e, hn, h⟩ => ⟨kvs, e, hn, RpA.ex g _ _ h⟩
  | .pin u, o, h => h
  | .lkd _ _, _, _ => True.intro
def Ce.live : Ce → Bool
  | .dead => false
  | .lkd _ _ => false
  | _ => true
structure Wo (K : PySem.W.Frag) (μ : List Addr) (Hd H : Hp) (ce : List Ce) : Prop where
  ex : ExS Hd H
  len : μ.length = ce.length
  lk : ∀ (k : Nat) (a : Addr) (ks : List Key) (ds : List Dt), ce[k]? = some (.lkd ks ds) → μ[k]? = some a → (∃ od kvs, Hd a = some (.frz od (.frz od (.dK kvs))) ∧ kvs.map (·.1) = ks ∧ RpA K Hd ds (kvs.map (·.2))) ∧ ∀ (j : Nat) (ks' : List Key) (ds' : List Dt), ce[j]? = some (.lkd ks' ds') → μ[j]? = some a → j = k
  at_ : ∀ (k : Nat) (c : Ce) (a : Addr), ce[k]? = some c → μ[k]? = some a → c.live = true → Hd a = none ∧ ∃ o, H a = some o ∧ HoAt K Hd c o
  inj : ∀ (j k : Nat) (a : Addr) (c e : Ce), μ[j]? = some a → μ[k]? = some a → ce[j]? = some c → ce[k]? = some e → c.live = true → e.live = true → j = k
theorem Wo.lst {μ : List Addr} {ce : List Ce} {k : Nat} {a : Addr} {xs : List Dt} (w : Wo K μ Hd H ce) (hk : ce[k]? = some (.lst xs)) (ha : μ[k]? = some a) : Hd a = none ∧ ∃ vs, H a = some (.lst vs) ∧ RpA K Hd xs vs := by
  obtain ⟨h1, o, h2, vs, rfl, h3⟩ := w.at_ k _ a hk ha rfl
  exact ⟨h1, vs, h2, h3⟩
def Sl (K : PySem.W.Frag) (μ : List Addr) (Hd : Hp) (σ : L2.St) (sl : List (Option Vl)) : Prop :=
  σ.length = sl.length ∧ ∀ (i : Nat) (r : Vl), sl[i]? = some (some r) → ∃ v, σ[i]? = some (some v) ∧ Rv K μ Hd r v
structure Rl (K : PySem.W.Frag) (μ : List Addr) (Hd H : Hp) (σ : L2.St) (E : En) : Prop where
  wo : Wo K μ Hd H E.ce
  sl : Sl K μ Hd σ E.sl
theorem Sl.gr {μ μ' : List Addr} {Hd Hd' : Hp} {σ : L2.St} {sl : List (Option Vl)} (g : Gr μ Hd μ' Hd') (h : Sl K μ Hd σ sl) : Sl K μ' Hd' σ sl :=
  ⟨h.1, fun i r e => by
    obtain ⟨v, h1, h2⟩ := h.2 i r e
    exact ⟨v, h1, Rv.gr g h2⟩⟩
theorem Sl.set {μ : List Addr} {σ : L2.St} {sl : List (Option Vl)} {r : Vl} {v : V} (i : Nat) (h : Sl K μ Hd σ sl) (hv : Rv K μ Hd r v) : Sl K μ Hd (σ.set i (some v)) (sl.set i (some r)) := by
  refine ⟨by rw [List.length_set, List.length_set]; exact h.1, fun j q e => ?_⟩
  rw [List.getElem?_set] at e
  by_cases hij : i = j
  · subst hij
    rw [if_pos rfl] at e
    by_cases hl : i < sl.length
    · rw [if_pos hl] at e
      have e2 : r = q := Option.some.inj (Option.some.inj e)
      subst e2
      exact ⟨v, by rw [List.getElem?_set, if_pos rfl, if_pos (by rw [h.1]; exact hl)], hv⟩
    · rw [if_neg hl] at e
      cases e
  · rw [if_neg hij] at e
    obtain ⟨w, h1, h2⟩ := h.2 j q e
    exact ⟨w, by rw [List.getElem?_set, if_neg hij]; exact h1, h2⟩
/-- a slot forgotten -/
theorem Sl.wipe1 {μ : List Addr} {σ : L2.St} {sl : List (Option Vl)} (i : Nat) (h : Sl K μ Hd σ sl) : Sl K μ Hd (σ.set i none) (sl.set i none) := by
  refine ⟨by rw [List.length_set, List.length_set]; exact h.1, fun j q e => ?_⟩
  rw [List.getElem?_set] at e
  by_cases hij : i = j
  · subst hij
    rw [if_pos rfl] at e
    by_cases hl : i < sl.length
    · rw [if_pos hl] at e
      cases e
    · rw [if_neg hl] at e
      cases e
  · rw [if_neg hij] at e
    obtain ⟨w, h1, h2⟩ := h.2 j q e
    exact ⟨w, by rw [List.getElem?_set, if_neg hij]; exact h1, h2⟩

/-! ### what is seen of a value now; freezing; new things -/
/-- a cell as data -/
def dataC : Ce → Option Dt
  | .lst xs => some (.lst xs)
  | .ins C ns ds => some (.obj C ns ds)
  | .dic ks ds => some (.dic ks ds)
  | _ => none
theorem dataC_ok {c : Ce} {d : Dt} {o : HO} {a : Addr} (e : dataC c = some d) (h : HoAt K Hd c o) (hn : Hd a = none) : c.live = true ∧ Rp K (upd Hd a o) d (.ref a) := by
  have gx : Ex Hd (upd Hd a o) := Ex.new hn
  cases c with
  | dead => cases e
  | pin u => cases e
  | dit ks rs => cases e
  | lst xs =>
    cases e
    obtain ⟨vs, rfl, h⟩ := h
    exact ⟨rfl, a, vs, rfl, upd_same, RpA.ex gx _ _ h⟩
  | ins C ns rs =>
    cases e
    obtain ⟨dx, fs, rfl, hf, h⟩ := h
    exact ⟨rfl, a, dx, fs, rfl, upd_same, hf, RpA.ex gx _ _ h⟩
  | dic ks rs =>
    cases e
    obtain ⟨kvs, rfl, hf, h⟩ := h
    exact ⟨rfl, a, kvs, rfl, .inl upd_same, hf, RpA.ex gx _ _ h⟩
  | lkd ks rs => cases e
theorem dataC_strip {c : Ce} {d : Dt} {o : HO} (e : dataC c = some d) (h : HoAt K Hd c o) : strip o = o := by
  cases c with
  | lst xs =>
    obtain ⟨vs, rfl, h⟩ := h
    rfl
  | ins C ns rs =>
    obtain ⟨dx, fs, rfl, hf, h⟩ := h
    rfl
  | dic ks rs =>
    obtain ⟨kvs, rfl, hf, h⟩ := h
    rfl
  | _ => cases e
theorem dataC_at {c : Ce} {d : Dt} {o : HO} {a : Addr} (x : ExS Hd H) (e : dataC c = some d) (h : HoAt K Hd c o) (ha : H a = some o) (hn : Hd a = none) : Rp K H d (.ref a) := by
  have hs := dataC_strip e h
  refine Rp.exS (fun b u hb => ?_) _ _ (dataC_ok e h hn).2
  by_cases q : b = a
  · subst q
    rw [upd_same] at hb
    cases hb
    rw [hs]
    exact ha
  · rw [upd_ne q] at hb
    exact x b u hb
mutual
def datV : Vl → Option Dt
  | .d d => some d
  | .c _ => none
  | .t rs => (datL rs).map .tup
def datL : List Vl → Option (List Dt)
  | [] => some []
  | r :: rs => match datV r, datL rs with
    | some d, some ds => some (d :: ds)
    | _, _ => none
end
def see (ce : List Ce) : Vl → Option Dt
  | .d d => some d
  | .c k => (ce[k]?).bind dataC
  | .t _ => none
theorem seeC_some {o : Option Ce} {d : Dt} (h : o.bind dataC = some d) : ∃ c, o = some c ∧ dataC c = some d := by
  cases o with
  | none => cases h
  | some c => exact ⟨c, rfl, h⟩
theorem dataC_live {c : Ce} {d : Dt} (h : dataC c = some d) : c.live = true := by
  cases c <;> first | rfl | cases h
theorem see_ok {μ : List Addr} {ce : List Ce} {r : Vl} {v : V} {d : Dt} (w : Wo K μ Hd H ce) (hv : Rv K μ Hd r v) (h : see ce r = some d) : Rp K H d v := by
  cases r with
  | d d' =>
    have e : d' = d := Option.some.inj h
    subst e
    exact Rp.exS w.ex d' v hv
  | c k =>
    obtain ⟨c, e1, e3⟩ := seeC_some h
    obtain ⟨a, e2, rfl⟩ := hv
    obtain ⟨h1, o, h2, h3⟩ := w.at_ k c a e1 e2 (dataC_live e3)
    exact dataC_at w.ex e3 h3 h2 h1
  | t rs => cases h
/-- a list that is seen: its items are data -/
theorem see_lst {μ : List Addr} {ce : List Ce} {r : Vl} {v : V} {ds : List Dt} (w : Wo K μ Hd H ce) (hv : Rv K μ Hd r v) (h : see ce r = some (.lst ds)) : ∃ a vs, v = .ref a ∧ H a = some (.lst vs) ∧ RpA K Hd ds vs := by
  cases r with
  | d d' =>
    have e : d' = .lst ds := Option.some.inj h
    subst e
    obtain ⟨a, vs, h1, h2, h3⟩ := hv
    exact ⟨a, vs, h1, w.ex a _ h2, h3⟩
  | c k =>
    obtain ⟨c, e1, e3⟩ := seeC_some h
    obtain ⟨a, e2, rfl⟩ := hv
    obtain ⟨h1, o, h2, h3⟩ := w.at_ k c a e1 e2 (dataC_live e3)
    cases c with
    | lst xs =>
      cases e3
      obtain ⟨vs, rfl, h3⟩ := h3
      exact ⟨a, vs, rfl, h2, h3⟩
    | _ => cases e3
  | t rs => cases h
theorem see_dat {ce : List Ce} {r : Vl} {d : Dt} (h : see ce r = some d) (hd : (∀ xs, d ≠ .lst xs) ∧ (∀ C ns xs, d ≠ .obj C ns xs) ∧ ∀ ks xs, d ≠ .dic ks xs) : r = .d d := by
  cases r with
  | d d' => rw [Option.some.inj h]
  | c k =>
    obtain ⟨c, e1, e3⟩ := seeC_some h
    cases c with
    | lst xs =>
      cases e3
      exact absurd rfl (hd.1 _)
    | ins C ns rs =>
      cases e3
      exact absurd rfl (hd.2.1 _ _ _)
    | dic ks rs =>
      cases e3
      exact absurd rfl (hd.2.2 _ _)
    | _ => cases e3
  | t rs => cases h
theorem see_flat {ce : List Ce} {r : Vl} {xs : List Dt} (h : see ce r = some (.tup xs)) : r = .d (.tup xs) := see_dat h ⟨nofun, nofun, nofun⟩
theorem see_sq {μ : List Addr} {ce : List Ce} {r : Vl} {v : V} {ds : List Dt} (w : Wo K μ Hd H ce) (hv : Rv K μ Hd r v) (h : see ce r = some (.sq ds)) : ∃ a vs, v = .ref a ∧ SqL K H a vs ∧ RpA K Hd ds vs := by
  have e := see_dat h ⟨nofun, nofun, nofun⟩
  subst e
  obtain ⟨a, vs, h1, h2, h3⟩ := hv
  exact ⟨a, vs, h1, exs_l w.ex h2, h3⟩
theorem see_tup {μ : List Addr} {ce : List Ce} {r : Vl} {v : V} {ds : List Dt} (w : Wo K μ Hd H ce) (hv : Rv K μ Hd r v) (h : see ce r = some (.tup ds)) : ∃ a vs, v = .ref a ∧ SqT K H a vs ∧ RpA K Hd ds vs := by
  have e := see_flat h
  subst e
  obtain ⟨a, vs, h1, h2, h3⟩ := hv
  exact ⟨a, vs, h1, exs_t w.ex h2, h3⟩
/-- new data at a free place -/
theorem Wo.newD {μ : List Addr} {ce : List Ce} {p : Addr} {o : HO} (w : Wo K μ Hd H ce) (hp : H p = none) (ho : strip o = o := by rfl) : Wo K μ (upd Hd p o) (upd H p o) ce := by
  have gx : Ex Hd (upd Hd p o) := Ex.new (exs_back w.ex hp)
  refine ⟨fun a u e => ?_, w.len, fun k a ks ds h1 h2 => ?_, fun k c a h1 h2 hl => ?_, w.inj⟩
  rotate_left
  · obtain ⟨⟨od, kvs, g1, g2, g3⟩, uq⟩ := w.lk k a ks ds h1 h2
    exact ⟨⟨od, kvs, gx a _ g1, g2, RpA.ex gx _ _ g3⟩, uq⟩
  rotate_left
  · unfold upd at e ⊢
    by_cases h : a = p
    · rw [if_pos h] at e ⊢
      cases e
      rw [ho]
    · rw [if_neg h] at e ⊢
      exact w.ex a u e
  · obtain ⟨g1, u, g2, g3⟩ := w.at_ k c a h1 h2 hl
    have na : a ≠ p := ne_of_none g2 hp
    exact ⟨by rw [upd_ne na]; exact g1, u, by rw [upd_ne na]; exact g2, HoAt.ex gx g3⟩
theorem Rl.newD {μ : List Addr} {σ : L2.St} {E : En} {p : Addr} {o : HO} (R : Rl K μ Hd H σ E) (hp : H p = none) (ho : strip o = o := by rfl) : Gr μ Hd μ (upd Hd p o) ∧ Rl K μ (upd Hd p o) (upd H p o) σ E := by
  have g : Gr μ Hd μ (upd Hd p o) := ⟨fun _ _ h => h, Ex.new (exs_back R.wo.ex hp)⟩
  exact ⟨g, R.wo.newD hp ho, R.sl.gr g⟩
theorem get_append_one {α : Type} {l : List α} {x : α} {k : Nat} {y : α} (h : (l ++ [x])[k]? = some y) : l[k]? = some y ∨ (k = l.length ∧ y = x) := by
  rw [List.getElem?_append] at h
  by_cases hk : k < l.length
  · rw [if_pos hk] at h
    exact .inl h
  · rw [if_neg hk] at h
    by_cases h0 : k - l.length = 0
    · rw [h0] at h
      exact .inr ⟨by omega, (Option.some.inj h).symm⟩
    · rw [List.getElem?_eq_none (by simp; omega)] at h
      cases h
theorem pre_app {μ : List Addr} {p : Addr} : ∀ (k : Nat) (a : Addr), μ[k]? = some a → (μ ++ [p])[k]? = some a := fun k a h => by
  rw [List.getElem?_append_left (List.getElem?_eq_some_iff.mp h).1]
  exact h
/-- a new cell at a free place -/
theorem Wo.newC {μ : List Addr} {ce : List Ce} {p : Addr} {o : HO} {c : Ce} (w : Wo K μ Hd H ce) (hp : H p = none) (hc : HoAt K Hd c o) (hk : ∀ ks ds, c ≠ .lkd ks ds := by intro _ _ z; cases z) : Wo K (μ ++ [p]) Hd (upd H p o) (ce ++ [c]) := by
  have hdp : Hd p = none := exs_back w.ex hp
  have g : Gr μ Hd (μ ++ [p]) Hd := ⟨pre_app, Ex.refl Hd⟩
  have keep : ∀ (k : Nat) (c : Ce) (a : Addr), ce[k]? = some c → μ[k]? = some a → c.live = true → a ≠ p := fun k c a h1 h2 hl => by
    obtain ⟨g1, u, g2, g3⟩ := w.at_ k c a h1 h2 hl
    exact ne_of_none g2 hp
  refine ⟨fun a u e => ?_, by rw [List.length_append, List.length_append, w.len]; rfl, fun k a ks ds h1 h2 => ?_, fun k e a h1 h2 hl => ?_, fun j k a e1 e2 h1 h2 h3 h4 l1 l2 => ?_⟩
  rotate_left
  · rcases get_append_one h1 with h1 | ⟨h1, h3⟩
    · rcases get_append_one h2 with h2 | ⟨h2, rfl⟩
      · obtain ⟨q1, uq⟩ := w.lk k a ks ds h1 h2
        refine ⟨q1, fun j ks' ds' h4 h5 => ?_⟩
        rcases get_append_one h4 with h4 | ⟨h4, h6⟩
        · rcases get_append_one h5 with h5 | ⟨h5, rfl⟩
          · exact uq j ks' ds' h4 h5
          · have := (List.getElem?_eq_some_iff.mp h4).1
            have := w.len
            omega
        · exact absurd h6.symm (hk ks' ds')
      · have := (List.getElem?_eq_some_iff.mp h1).1
        have := w.len
        omega
    · exact absurd h3.symm (hk ks ds)
  rotate_left
  rotate_left
  · have h := w.ex a u e
    rw [upd_ne (ne_of_none h hp)]
    exact h
  · rcases get_append_one h1 with h1 | ⟨h1, rfl⟩ <;> rcases get_append_one h2 with h2 | ⟨h2, rfl⟩
    · obtain ⟨g1, u, g2, g3⟩ := w.at_ k e a h1 h2 hl
      exact ⟨g1, u, by rw [upd_ne (ne_of_none g2 hp)]; exact g2, g3⟩
    · have := (List.getElem?_eq_some_iff.mp h1).1
      have := w.len
      omega
    · have := (List.getElem?_eq_some_iff.mp h2).1
      have := w.len
      omega
    · exact ⟨hdp, o, upd_same, hc⟩
  · have cs : ∀ {i : Nat} {e : Ce}, (μ ++ [p])[i]? = some a → (ce ++ [c])[i]? = some e → e.live = true → (μ[i]? = some a ∧ ce[i]? = some e ∧ a ≠ p) ∨ (i = ce.length ∧ a = p) := fun {i e} h1 h2 hl => by
      rcases get_append_one h1 with h1 | ⟨h1, q1⟩ <;> rcases get_append_one h2 with h2 | ⟨h2, q2⟩
      · exact .inl ⟨h1, h2, keep i e a h2 h1 hl⟩
      · have := (List.getElem?_eq_some_iff.mp h1).1
        have := w.len
        omega
      · have := (List.getElem?_eq_some_iff.mp h2).1
        have := w.len
        omega
      · exact .inr ⟨h2, q1⟩
    rcases cs h1 h3 l1 with ⟨i1, i2, i3⟩ | ⟨i1, i2⟩ <;> rcases cs h2 h4 l2 with ⟨j1, j2, j3⟩ | ⟨j1, j2⟩
    · exact w.inj j k a e1 e2 i1 j1 i2 j2 l1 l2
    · exact absurd j2 i3
    · exact absurd i2 j3
    · omega
theorem Rl.newX {μ : List Addr} {σ : L2.St} {E : En} {p : Addr} {c : Ce} {o : HO} (R : Rl K μ Hd H σ E) (hp : H p = none) (h : HoAt K Hd c o) (hk : ∀ ks ds, c ≠ .lkd ks ds := by intro _ _ z; cases z) :
    Gr μ Hd (μ ++ [p]) Hd ∧ Rl K (μ ++ [p]) Hd (upd H p o) σ ⟨E.sl, E.ce ++ [c]⟩ ∧ Rv K (μ ++ [p]) Hd (.c E.ce.length) (.ref p) := by
  have g : Gr μ Hd (μ ++ [p]) Hd := ⟨pre_app, Ex.refl Hd⟩
  refine ⟨g, ⟨R.wo.newC hp h hk, R.sl.gr g⟩, p, ?_, rfl⟩
  rw [← R.wo.len]
  simp
theorem Rl.newC {μ : List Addr} {σ : L2.St} {E : En} {p : Addr} {xs : List Dt} {vs : List V} (R : Rl K μ Hd H σ E) (hp : H p = none) (h : RpA K Hd xs vs) :
    Gr μ Hd (μ ++ [p]) Hd ∧ Rl K (μ ++ [p]) Hd (upd H p (.lst vs)) σ ⟨E.sl, E.ce ++ [.lst xs]⟩ ∧ Rv K (μ ++ [p]) Hd (.c E.ce.length) (.ref p) := R.newX hp ⟨vs, rfl, h⟩
/-- a cell changes -/
theorem Wo.set {μ : List Addr} {ce : List Ce} {k : Nat} {a : Addr} {c c' : Ce} {o : HO} (w : Wo K μ Hd H ce) (hk : ce[k]? = some c) (hl : c.live = true) (ha : μ[k]? = some a) (h : HoAt K Hd c' o) (hn : ∀ ks ds, c' ≠ .lkd ks ds := by intro _ _ z; cases z) : Wo K μ Hd (upd H a o) (ce.set k c') := by
  obtain ⟨g1, u0, g2, g3⟩ := w.at_ k _ a hk ha hl
  refine ⟨fun b u e => ?_, by rw [List.length_set]; exact w.len, fun j b ks ds h1 h2 => ?_, fun j e b h1 h2 h3 => ?_, fun i j b e f h1 h2 h3 h4 l1 l2 => ?_⟩
  · have nb : b ≠ a := fun z => by
      subst z
      rw [g1] at e
      cases e
    rw [upd_ne nb]
    exact w.ex b u e
  · rw [List.getElem?_set] at h1
    by_cases hj : k = j
    · subst hj
      rw [if_pos rfl, if_pos (List.getElem?_eq_some_iff.mp hk).1] at h1
      exact absurd (Option.some.inj h1) (hn ks ds)
    · rw [if_neg hj] at h1
      obtain ⟨q1, uq⟩ := w.lk j b ks ds h1 h2
      refine ⟨q1, fun i ks' ds' h4 h5 => ?_⟩
      rw [List.getElem?_set] at h4
      by_cases hi : k = i
      · subst hi
        rw [if_pos rfl, if_pos (List.getElem?_eq_some_iff.mp hk).1] at h4
        exact absurd (Option.some.inj h4) (hn ks' ds')
      · rw [if_neg hi] at h4
        exact uq i ks' ds' h4 h5
  · rw [List.getElem?_set] at h1
    by_cases hj : k = j
    · subst hj
      rw [if_pos rfl, if_pos (List.getElem?_eq_some_iff.mp hk).1] at h1
      cases h1
      rw [ha] at h2
      cases h2
      exact ⟨g1, o, upd_same, h⟩
    · rw [if_neg hj] at h1
      obtain ⟨q1, u, q2, q3⟩ := w.at_ j e b h1 h2 h3
      have nb : b ≠ a := fun z => hj (by
        subst z
        exact (w.inj j k b _ _ h2 ha h1 hk h3 hl).symm)
      exact ⟨q1, u, by rw [upd_ne nb]; exact q2, q3⟩
  · have live : ∀ (j : Nat) (e : Ce), (ce.set k c')[j]? = some e → e.live = true → ∃ e', ce[j]? = some e' ∧ e'.live = true := fun j e hj he => by
      rw [List.getElem?_set] at hj
      by_cases hkj : k = j
      · subst hkj
        exact ⟨_, hk, hl⟩
      · rw [if_neg hkj] at hj
        exact ⟨e, hj, he⟩
    obtain ⟨c1, d1, d2⟩ := live i e h3 l1
    obtain ⟨c2, d3, d4⟩ := live j f h4 l2
    exact w.inj i j b c1 c2 h1 h2 d1 d3 d2 d4
/-- a cell's list changes -/
theorem Rl.setX {μ : List Addr} {σ : L2.St} {E : En} {k : Nat} {a : Addr} {c c' : Ce} {o : HO} (R : Rl K μ Hd H σ E) (hk : E.ce[k]? = some c) (hl : c.live = true) (ha : μ[k]? = some a) (h : HoAt K Hd c' o) (hn : ∀ ks ds, c' ≠ .lkd ks ds := by intro _ _ z; cases z) :
    Rl K μ Hd (upd H a o) σ ⟨E.sl, E.ce.set k c'⟩ := ⟨R.wo.set hk hl ha h hn, R.sl⟩
theorem Rl.setC {μ : List Addr} {σ : L2.St} {E : En} {k : Nat} {a : Addr} {xs ys : List Dt} {vs : List V} (R : Rl K μ Hd H σ E) (hk : E.ce[k]? = some (.lst xs)) (ha : μ[k]? = some a) (h : RpA K Hd ys vs) :
    Rl K μ Hd (upd H a (.lst vs)) σ ⟨E.sl, E.ce.set k (.lst ys)⟩ := R.setX hk rfl ha ⟨vs, rfl, h⟩
/-! a cell becomes data -/
mutual
def frzV (k : Nat) (d : Dt) : Vl → Vl
  | .d e => .d e
  | .c j => if j = k then .d d else .c j
  | .t rs => .t (frzL k d rs)
def frzL (k : Nat) (d : Dt) : List Vl → List Vl
  | [] => []
  | r :: rs => frzV k d r :: frzL k d rs
end
mutual
theorem frzV_ok {μ : List Addr} {Hd Hd' : Hp} {k : Nat} {d : Dt} {a : Addr} (gx : Ex Hd Hd') (ha : μ[k]? = some a) (hp : Rp K Hd' d (.ref a)) : ∀ {r : Vl} {v : V}, Rv K μ Hd r v → Rv K μ Hd' (frzV k d r) v
  | .d e, v, h => Rp.ex gx e v h
  | .c j, v, h => by
    show Rv K μ Hd' (if j = k then .d d else .c j) v
    by_cases hj : j = k
    · rw [if_pos hj]
      subst hj
      obtain ⟨b, h3, rfl⟩ := h
      rw [ha] at h3
      cases h3
      exact hp
    · rw [if_neg hj]
      exact h
  | .t rs, v, ⟨b, vs, h1, h2, h3⟩ => ⟨b, vs, h1, gx b _ h2, frzL_ok gx ha hp h3⟩
theorem frzL_ok {μ : List Addr} {Hd Hd' : Hp} {k : Nat} {d : Dt} {a : Addr} (gx : Ex Hd Hd') (ha : μ[k]? = some a) (hp : Rp K Hd' d (.ref a)) : ∀ {rs : List Vl} {vs : List V}, RvL K μ Hd rs vs → RvL K μ Hd' (frzL k d rs) vs
  | [], vs, h => h
  | r :: rs, vs, ⟨x, q, h1, h2, h3⟩ => ⟨x, q, h1, frzV_ok gx ha hp h2, frzL_ok gx ha hp h3⟩
end
def frz (k : Nat) (d : Dt) (E : En) : En := ⟨E.sl.map (Option.map (frzV k d)), E.ce.set k .dead⟩
theorem Rl.frz {μ : List Addr} {σ : L2.St} {E : En} {k : Nat} {a : Addr} {c : Ce} {d : Dt} (R : Rl K μ Hd H σ E) (hk : E.ce[k]? = some c) (ha : μ[k]? = some a) (hd : dataC c = some d) :
    ∃ Hd', Gr μ Hd μ Hd' ∧ Rl K μ Hd' H σ (frz k d E) ∧ Rp K Hd' d (.ref a) := by
  have hl0 : c.live = true := by
    cases c <;> first | rfl | cases hd
  obtain ⟨g1, o, g2, g3⟩ := R.wo.at_ k _ a hk ha hl0
  obtain ⟨hl, hp⟩ := dataC_ok hd g3 g1
  have gx : Ex Hd (upd Hd a o) := Ex.new g1
  have g : Gr μ Hd μ (upd Hd a o) := ⟨fun _ _ h => h, gx⟩
  refine ⟨upd Hd a o, g, ⟨⟨fun b u e => ?_, by unfold Hk.frz; rw [List.length_set]; exact R.wo.len, fun j b ks ds h1 h2 => ?_, fun j c' b h1 h2 h3 => ?_, fun i j b e f h1 h2 h3 h4 l1 l2 => ?_⟩, ?_⟩, hp⟩
  · by_cases hb : b = a
    · subst hb
      rw [upd_same] at e
      cases e
      rw [dataC_strip hd g3]
      exact g2
    · rw [upd_ne hb] at e
      exact R.wo.ex b u e
  · have h1 : (E.ce.set k .dead)[j]? = some (.lkd ks ds) := h1
    rw [List.getElem?_set] at h1
    by_cases hj : k = j
    · subst hj
      rw [if_pos rfl, if_pos (List.getElem?_eq_some_iff.mp hk).1] at h1
      cases h1
    · rw [if_neg hj] at h1
      obtain ⟨⟨od, kvs, q1, q2, q3⟩, uq⟩ := R.wo.lk j b ks ds h1 h2
      refine ⟨⟨od, kvs, gx b _ q1, q2, RpA.ex gx _ _ q3⟩, fun i ks' ds' h4 h5 => ?_⟩
      have h4 : (E.ce.set k .dead)[i]? = some (.lkd ks' ds') := h4
      rw [List.getElem?_set] at h4
      by_cases hi : k = i
      · subst hi
        rw [if_pos rfl, if_pos (List.getElem?_eq_some_iff.mp hk).1] at h4
        cases h4
      · rw [if_neg hi] at h4
        exact uq i ks' ds' h4 h5
  · have h1 : (E.ce.set k .dead)[j]? = some c' := h1
    rw [List.getElem?_set] at h1
    by_cases hj : k = j
    · subst hj
      rw [if_pos rfl, if_pos (List.getElem?_eq_some_iff.mp hk).1] at h1
      cases h1
      cases h3
    · rw [if_neg hj] at h1
      obtain ⟨q1, u, q2, q3⟩ := R.wo.at_ j c' b h1 h2 h3
      have nb : b ≠ a := fun z => hj (by
        subst z
        exact (R.wo.inj j k b _ _ h2 ha h1 hk h3 hl).symm)
      exact ⟨by rw [upd_ne nb]; exact q1, u, q2, HoAt.ex gx q3⟩
  · have live : ∀ (j : Nat) (c : Ce), (E.ce.set k .dead)[j]? = some c → c.live = true → E.ce[j]? = some c := fun j c hj hc => by
      rw [List.getElem?_set] at hj
      by_cases hkj : k = j
      · subst hkj
        rw [if_pos rfl, if_pos (List.getElem?_eq_some_iff.mp hk).1] at hj
        cases hj
        cases hc
      · rw [if_neg hkj] at hj
        exact hj
    exact R.wo.inj i j b e f h1 h2 (live i e h3 l1) (live j f h4 l2) l1 l2
  · refine ⟨by show σ.length = (E.sl.map _).length; rw [List.length_map]; exact R.sl.1, fun i r e => ?_⟩
    have e : (E.sl.map (Option.map (frzV k d)))[i]? = some (some r) := e
    rw [List.getElem?_map] at e
    cases q : E.sl[i]? with
    | none =>
      rw [q] at e
      cases e
    | some o' =>
      rw [q] at e
      cases o' with
      | none => cases e
      | some r0 =>
        have er : frzV k d r0 = r := Option.some.inj (Option.some.inj e)
        obtain ⟨v, h1, h2⟩ := R.sl.2 i r0 q
        exact ⟨v, h1, er ▸ frzV_ok gx ha hp h2⟩
end
end Hk
/-! Hk2: the judgements, and the rules of expressions, tests, statements, loops. -/
namespace Hk
open PySem PySem.Spec PyProof.Rows L2 Evl

/-- what a piece does to the state: nothing where it fails -/
abbrev M (α : Type) := En → Option (α × En)
def bindM {α β : Type} (m : M α) (f : α → M β) : M β := fun E => match m E with
  | some (a, E') => f a E'
  | none => none
def retM {α : Type} (a : α) : M α := fun E => some (a, E)
def failM {α : Type} : M α := fun _ => none
theorem bindM_some {α β : Type} {m : M α} {f : α → M β} {E E2 : En} {b : β} (h : bindM m f E = some (b, E2)) : ∃ a E1, m E = some (a, E1) ∧ f a E1 = some (b, E2) := by
  unfold bindM at h
  split at h
  · rename_i a E' e
    exact ⟨a, E', e, h⟩
  · cases h
inductive Rs where
  | nx (E : En) | rt (r : Vl) (E : En) | bk (E : En) | ct (E : En)

section
variable (K : PySem.W.Frag)
def EM (te : TE) (m : M Vl) : Prop := ∀ {μ : List Addr} {Hd H : Hp} {σ : L2.St} {E : En} {r : Vl} {E' : En}, Rl K μ Hd H σ E → m E = some (r, E') → ∀ Q : VK,
  (∀ μ' Hd' H' v, Gr μ Hd μ' Hd' → Rl K μ' Hd' H' σ E' → Rv K μ' Hd' r v → Q v H') → te σ H Q
def TM (tt : TT) (m : M Bool) : Prop := ∀ {μ : List Addr} {Hd H : Hp} {σ : L2.St} {E : En} {b : Bool} {E' : En}, Rl K μ Hd H σ E → m E = some (b, E') → ∀ Q : Bool → Hp → Prop,
  (∀ μ' Hd' H', Gr μ Hd μ' Hd' → Rl K μ' Hd' H' σ E' → Q b H') → tt σ H Q
def AM (ta : TA) (m : M (List Vl)) : Prop := ∀ {μ : List Addr} {Hd H : Hp} {σ : L2.St} {E : En} {rs : List Vl} {E' : En}, Rl K μ Hd H σ E → m E = some (rs, E') → ∀ Q : List V → Hp → Prop,
  (∀ μ' Hd' H' vs, Gr μ Hd μ' Hd' → Rl K μ' Hd' H' σ E' → RvA K μ' Hd' rs vs → Q vs H') → ta σ H Q
/-- an operation on values -/
def OM (r : R2) (f : Vl → Vl → M Vl) : Prop := ∀ {μ : List Addr} {Hd H : Hp} {σ : L2.St} {E : En} {x y : Vl} {vx vy : V} {z : Vl} {E' : En}, Rl K μ Hd H σ E → Rv K μ Hd x vx → Rv K μ Hd y vy → f x y E = some (z, E') → ∀ Q : VK,
  (∀ μ' Hd' H' v, Gr μ Hd μ' Hd' → Rl K μ' Hd' H' σ E' → Rv K μ' Hd' z v → Q v H') → r vx vy H Q
def UM (r : V → Hp → VK → Prop) (f : Vl → M Vl) : Prop := ∀ {μ : List Addr} {Hd H : Hp} {σ : L2.St} {E : En} {x : Vl} {vx : V} {z : Vl} {E' : En}, Rl K μ Hd H σ E → Rv K μ Hd x vx → f x E = some (z, E') → ∀ Q : VK,
  (∀ μ' Hd' H' v, Gr μ Hd μ' Hd' → Rl K μ' Hd' H' σ E' → Rv K μ' Hd' z v → Q v H') → r vx H Q
def CM (r : List V → Hp → VK → Prop) (f : List Vl → M Vl) : Prop := ∀ {μ : List Addr} {Hd H : Hp} {σ : L2.St} {E : En} {xs : List Vl} {vs : List V} {z : Vl} {E' : En}, Rl K μ Hd H σ E → RvA K μ Hd xs vs → f xs E = some (z, E') → ∀ Q : VK,
  (∀ μ' Hd' H' v, Gr μ Hd μ' Hd' → Rl K μ' Hd' H' σ E' → Rv K μ' Hd' z v → Q v H') → r vs H Q
/-- a method of a built-in type -/
def MM (T : String) (r : V → List V → Hp → VK → Prop) (f : Vl → List Vl → M Vl) : Prop := ∀ {μ : List Addr} {Hd H : Hp} {σ : L2.St} {E : En} {x : Vl} {vx : V} {xs : List Vl} {vs : List V} {z : Vl} {E' : En}, Rl K μ Hd H σ E → Rv K μ Hd x vx → RvA K μ Hd xs vs → f x xs E = some (z, E') → ∀ Q : VK,
  (∀ μ' Hd' H' v, Gr μ Hd μ' Hd' → Rl K μ' Hd' H' σ E' → Rv K μ' Hd' z v → Q v H') → r vx vs H Q
def Dn (μ : List Addr) (Hd : Hp) (D : Ends) : Rs → Prop
  | .nx E' => ∀ μ' Hd' H' σ', Gr μ Hd μ' Hd' → Rl K μ' Hd' H' σ' E' → D.nx σ' H'
  | .rt r E' => ∀ μ' Hd' H' σ' v, Gr μ Hd μ' Hd' → Rl K μ' Hd' H' σ' E' → Rv K μ' Hd' r v → D.rt v H'
  | .bk E' => ∀ μ' Hd' H' σ', Gr μ Hd μ' Hd' → Rl K μ' Hd' H' σ' E' → D.bk σ' H'
  | .ct E' => ∀ μ' Hd' H' σ', Gr μ Hd μ' Hd' → Rl K μ' Hd' H' σ' E' → D.ct σ' H'
def SM (ts : TS) (m : En → Option Rs) : Prop := ∀ {μ : List Addr} {Hd H : Hp} {σ : L2.St} {E : En} {R : Rs}, Rl K μ Hd H σ E → m E = some R → ∀ D : Ends, Dn K μ Hd D R → ts D σ H
def GM (g : TG) (f : Vl → En → Option En) : Prop := ∀ {μ : List Addr} {Hd H : Hp} {σ : L2.St} {E E' : En} {r : Vl} {v : V}, Rl K μ Hd H σ E → Rv K μ Hd r v → f r E = some E' → ∀ Q : L2.St → Hp → Prop,
  (∀ μ' Hd' H' σ', Gr μ Hd μ' Hd' → Rl K μ' Hd' H' σ' E' → Q σ' H') → g v σ H Q
end
section
variable {K : PySem.W.Frag} {μ μ' : List Addr} {Hd Hd' H : Hp}
theorem Dn.gr {D : Ends} (g : Gr μ Hd μ' Hd') : ∀ {R : Rs}, Dn K μ Hd D R → Dn K μ' Hd' D R
  | .nx _, h => fun m1 h1 H1 s1 g1 => h m1 h1 H1 s1 (g.trans g1)
  | .rt _ _, h => fun m1 h1 H1 s1 v g1 => h m1 h1 H1 s1 v (g.trans g1)
  | .bk _, h => fun m1 h1 H1 s1 g1 => h m1 h1 H1 s1 (g.trans g1)
  | .ct _, h => fun m1 h1 H1 s1 g1 => h m1 h1 H1 s1 (g.trans g1)
end

/-- a piece of syntax, its reading, what it does -/
structure Ex_ (X : Cx) (e : Expr) (te : TE) (m : M Vl) : Prop where
  pe : PE X e te
  em : EM X.K te m
structure Tx (X : Cx) (e : Expr) (tt : TT) (m : M Bool) : Prop where
  pt : PT X e tt
  tm : TM X.K tt m
structure Wx (X : Cx) (e : Expr) (tt : TT) (m : M Bool) : Prop where
  pw : PW X e tt
  tm : TM X.K tt m
structure Ax (X : Cx) (es : List Expr) (ta : TA) (m : M (List Vl)) : Prop where
  pa : PA X es ta
  am : AM X.K ta m
structure Sx (X : Cx) (st : Stmt) (ts : TS) (m : En → Option Rs) : Prop where
  ps : PS X st ts
  sm : SM X.K ts m
structure Bx (X : Cx) (st : List Stmt) (ts : TS) (m : En → Option Rs) : Prop where
  ps : PSs X st ts
  sm : SM X.K ts m
structure Gx (X : Cx) (tg : Expr) (g : TG) (f : Vl → En → Option En) : Prop where
  pg : PG X tg g
  gm : GM X.K g f

section
variable {X : Cx} {a b c e : Expr} {ta tb tc te : TE} {ma mb mc m : M Vl} {pos : Pos}

/-! ### names, constants -/
def vM (i : Nat) : M Vl := fun E => match E.sl[i]? with
  | some (some r) => some (r, E)
  | _ => none
theorem em_var {K : PySem.W.Frag} (i : Nat) : EM K (tVar i) (vM i) := fun {μ Hd H σ E r E'} R h Q q => by
  unfold vM at h
  split at h
  · rename_i r0 e
    cases h
    obtain ⟨v, h1, h2⟩ := R.sl.2 i _ e
    exact ⟨v, h1, q μ Hd H v (Gr.refl μ Hd) R h2⟩
  · cases h
theorem xv (i : Nat) {x : Str} (hN : X.N[i]? = some x := by rfl) (hv : Vis X.env.scope x := by first | exact Or.inl rfl | exact Or.inr (Or.inl rfl) | exact Or.inr (Or.inr rfl)) (hd : (x == ("__debug__" : Str)) = false := by decide)
    (hcd : (x == ("__classdict__" : Str)) = false := by decide) : Ex_ X (.Name x pos) (tVar i) (vM i) := ⟨pe_var hN hv hd hcd, em_var i⟩
theorem em_c {K : PySem.W.Frag} {v : V} {d : Dt} (h : ∀ Hd, Rp K Hd d v) : EM K (tC v) (retM (.d d)) := fun {μ Hd H σ E r E'} R e Q q => by
  cases e
  exact q μ Hd H v (Gr.refl μ Hd) R (h Hd)
theorem xint {i : Int} {j : Nat} : Ex_ X (.Constant (.int i) j pos) (tC (.int i)) (retM (.d (.int i))) := ⟨pe_int, em_c (d := .int i) fun _ => (rfl : V.int i = .int i)⟩
theorem xbl {b : Bool} {j : Nat} : Ex_ X (.Constant (.bool b) j pos) (tC (.bl b)) (retM (.d (.bl b))) := ⟨pe_bl, em_c (d := .bl b) fun _ => (rfl : V.bl b = .bl b)⟩
theorem xnon {j : Nat} : Ex_ X (.Constant .none j pos) (tC .non) (retM (.d .non)) := ⟨pe_non, em_c (d := .non) fun _ => (rfl : V.non = .non)⟩
theorem xstr {x : Str} {j : Nat} : Ex_ X (.Constant (.str x) j pos) (tC (.str x)) (retM (.d (.str x))) := ⟨pe_str, em_c (d := .str x) fun _ => (rfl : V.str x = .str x)⟩

/-! ### operations -/
theorem em_op {K : PySem.W.Frag} {r : R2} {f : Vl → Vl → M Vl} (hf : OM K r f) (ha : EM K ta ma) (hb : EM K tb mb) : EM K (tOp r ta tb) (bindM ma fun x => bindM mb (f x)) := fun {μ Hd H σ E z E'} R h Q q => by
  obtain ⟨x, E1, h1, h⟩ := bindM_some h
  obtain ⟨y, E2, h2, h3⟩ := bindM_some h
  refine ha R h1 _ fun μ1 Hd1 H1 vx g1 R1 r1 => ?_
  refine hb R1 h2 _ fun μ2 Hd2 H2 vy g2 R2 r2 => ?_
  exact hf R2 (Rv.gr g2 r1) r2 h3 Q fun μ3 Hd3 H3 v g3 R3 r3 => q μ3 Hd3 H3 v ((g1.trans g2).trans g3) R3 r3
theorem xop {op : Operator} {r : R2} {f : Vl → Vl → M Vl} (ho : OpR X (binaryOp op) r) (hf : OM X.K r f) (ha : Ex_ X a ta ma) (hb : Ex_ X b tb mb) :
    Ex_ X (.BinOp a op b pos) (tOp r ta tb) (bindM ma fun x => bindM mb (f x)) := ⟨pe_op ho ha.pe hb.pe, em_op hf ha.em hb.em⟩
theorem xcmp {op : CmpOp} {r : R2} {f : Vl → Vl → M Vl} (ho : OpR X (compareOp op) r) (hf : OM X.K r f) (ha : Ex_ X a ta ma) (hb : Ex_ X b tb mb) (hm : behindInMarks op b = false) :
    Ex_ X (.Compare a [op] [b] pos) (tOp r ta tb) (bindM ma fun x => bindM mb (f x)) := ⟨pe_cmpR ho ha.pe hb.pe hm, em_op hf ha.em hb.em⟩
/-- a value that is a truth -/
def boolM : Vl → M Bool
  | .d (.bl b) => retM b
  | _ => failM
theorem boolM_some {r : Vl} {E E' : En} {k : Bool} (h : boolM r E = some (k, E')) : r = .d (.bl k) ∧ E' = E := by
  unfold boolM at h
  split at h
  · cases h
    exact ⟨rfl, rfl⟩
  · cases h
theorem tm_test {K : PySem.W.Frag} {te : TE} {m : M Vl} (h : EM K te m) : TM K (tTest te) (bindM m boolM) := fun {μ Hd H σ E b E'} R e Q q => by
  obtain ⟨r, E1, h1, h2⟩ := bindM_some e
  obtain ⟨rfl, rfl⟩ := boolM_some h2
  exact h R h1 _ fun μ1 Hd1 H1 v g1 R1 r1 => ⟨b, r1, q μ1 Hd1 H1 g1 R1⟩
theorem tm_B {K : PySem.W.Frag} {te : TE} {m : M Vl} (h : EM K te m) : TM K (tB te) (bindM m boolM) := tm_test h
theorem tcmp {op : CmpOp} {r : R2} {f : Vl → Vl → M Vl} (ho : OpR X (compareOp op) r) (hf : OM X.K r f) (ha : Ex_ X a ta ma) (hb : Ex_ X b tb mb) (hm : behindInMarks op b = false) :
    Tx X (.Compare a [op] [b] pos) (tTest (tOp r ta tb)) (bindM (bindM ma fun x => bindM mb (f x)) boolM) := ⟨pt_cmpR ho ha.pe hb.pe hm, tm_test (em_op hf ha.em hb.em)⟩
theorem tval (ha : Ex_ X a ta ma) (he : ∀ whole, isTrue a X.env whole = (do let v ← whole; standAt a.pos; holding [v] (truthy v)) := by intro _; rfl) : Tx X a (tB ta) (bindM ma boolM) := ⟨pt_val ha.pe he, tm_B ha.em⟩
/-- a value's truth -/
def truD : Dt → Option Bool
  | .non => some false
  | .bl b => some b
  | .int i => some (i != 0)
  | .str s => if s.length ≤ sizeLine then some ((s.length : Int) != 0) else none
  | .lst xs => some (!xs.isEmpty)
  | .tup xs => some (!xs.isEmpty)
  | _ => none
def truM (r : Vl) : M Bool := fun E => match see E.ce r with
  | some d => (truD d).map fun b => (b, E)
  | none => none
theorem RpA.emp {K : PySem.W.Frag} {H : Hp} {ds : List Dt} {vs : List V} (h : RpA K H ds vs) : vs.isEmpty = ds.isEmpty := by
  have e := h.len
  cases ds <;> cases vs <;> first | rfl | (simp at e)
theorem tru_of {K : PySem.W.Frag} {H : Hp} {d : Dt} {v : V} {b : Bool} (hr : Rp K H d v) (h : truD d = some b) : TruV K v H b := by
  unfold truD at h
  split at h
  · cases h
    cases (show v = .non from hr)
    exact (rfl : false = false)
  · cases h
    cases (show v = .bl _ from hr)
    exact (rfl : b = b)
  · cases h
    cases (show v = .int _ from hr)
    exact (rfl : _ = _)
  · cases (show v = .str _ from hr)
    split at h
    · rename_i hz
      cases h
      exact ⟨hz, rfl⟩
    · cases h
  · cases h
    obtain ⟨a, xs, rfl, h2, h3⟩ := hr
    exact .inl ⟨xs, sq_of h2, by rw [h3.emp]⟩
  · cases h
    obtain ⟨a, xs, rfl, h2, h3⟩ := hr
    exact .inr (.inl ⟨xs, h2, by rw [h3.emp]⟩)
  · cases h
theorem ttru (ha : Ex_ X a ta ma) (he : ∀ whole, isTrue a X.env whole = (do let v ← whole; standAt a.pos; holding [v] (truthy v)) := by intro _; rfl) :
    Tx X a (fun σ H Q => ta σ H fun x H' => ∃ k, TruV X.K x H' k ∧ Q k H') (bindM ma truM) := ⟨pt_truth ha.pe he, fun {μ Hd H σ E b E'} R e Q q => by
  obtain ⟨r, E1, h1, h2⟩ := bindM_some e
  unfold truM at h2
  split at h2
  · rename_i d hd
    cases ht : truD d with
    | none =>
      rw [ht] at h2
      cases h2
    | some k =>
      rw [ht] at h2
      cases h2
      exact ha.em R h1 _ fun μ1 Hd1 H1 v g1 R1 r1 => ⟨b, tru_of (see_ok R1.wo r1 hd) ht, q μ1 Hd1 H1 g1 R1⟩
  · cases h2⟩
/-! ### and, or, not, a chain, a choice -/
variable {tt uu : TT} {mt mu : M Bool} {rest : List Expr}
def andM (m n : M Bool) : M Bool := bindM m fun b => if b = true then n else retM false
def orM (m n : M Bool) : M Bool := bindM m fun b => if b = true then retM true else n
def notM (m : M Bool) : M Bool := bindM m fun b => retM (!b)
theorem tm_and {K : PySem.W.Frag} (h1 : TM K tt mt) (h2 : TM K uu mu) : TM K (tAnd tt uu) (andM mt mu) := fun {μ Hd H σ E b E'} R e Q q => by
  obtain ⟨k, E1, e1, e2⟩ := bindM_some e
  refine h1 R e1 _ fun μ1 Hd1 H1 g1 R1 => ?_
  cases k with
  | true => exact h2 R1 e2 Q fun μ2 Hd2 H2 g2 R2 => q μ2 Hd2 H2 (g1.trans g2) R2
  | false =>
    cases e2
    exact q μ1 Hd1 H1 g1 R1
theorem tm_or {K : PySem.W.Frag} (h1 : TM K tt mt) (h2 : TM K uu mu) : TM K (tOr tt uu) (orM mt mu) := fun {μ Hd H σ E b E'} R e Q q => by
  obtain ⟨k, E1, e1, e2⟩ := bindM_some e
  refine h1 R e1 _ fun μ1 Hd1 H1 g1 R1 => ?_
  cases k with
  | false => exact h2 R1 e2 Q fun μ2 Hd2 H2 g2 R2 => q μ2 Hd2 H2 (g1.trans g2) R2
  | true =>
    cases e2
    exact q μ1 Hd1 H1 g1 R1
theorem tm_not {K : PySem.W.Frag} (h1 : TM K tt mt) : TM K (tNot tt) (notM mt) := fun {μ Hd H σ E b E'} R e Q q => by
  obtain ⟨k, E1, e1, e2⟩ := bindM_some e
  cases e2
  exact h1 R e1 _ fun μ1 Hd1 H1 g1 R1 => q μ1 Hd1 H1 g1 R1
theorem wand1 (h : Tx X a tt mt) : Wx X (.BoolOp .And [a] pos) tt mt := ⟨pw_and1 h.pt, h.tm⟩
theorem wor1 (h : Tx X a tt mt) : Wx X (.BoolOp .Or [a] pos) tt mt := ⟨pw_or1 h.pt, h.tm⟩
theorem wand (h : Tx X a tt mt) (hr : Wx X (.BoolOp .And (b :: rest) pos) uu mu) : Wx X (.BoolOp .And (a :: b :: rest) pos) (tAnd tt uu) (andM mt mu) := ⟨pw_and h.pt hr.pw, tm_and h.tm hr.tm⟩
theorem wor (h : Tx X a tt mt) (hr : Wx X (.BoolOp .Or (b :: rest) pos) uu mu) : Wx X (.BoolOp .Or (a :: b :: rest) pos) (tOr tt uu) (orM mt mu) := ⟨pw_or h.pt hr.pw, tm_or h.tm hr.tm⟩
theorem tbool (h : Wx X e tt mt) : Tx X e tt mt := ⟨h.pw.pt, h.tm⟩
theorem tnot (h : Tx X a tt mt) : Tx X (.UnaryOp .Not a pos) (tNot tt) (notM mt) := ⟨pt_not h.pt, tm_not h.tm⟩
/-- as values that are truths -/
def blM (b : Bool) : M Vl := retM (.d (.bl b))
def andV (m n : M Vl) : M Vl := bindM (bindM m boolM) fun b => if b = true then n else blM false
def orV (m n : M Vl) : M Vl := bindM (bindM m boolM) fun b => if b = true then blM true else n
def notV (m : M Vl) : M Vl := bindM (bindM m boolM) fun b => blM (!b)
theorem em_bool {K : PySem.W.Frag} {te : TE} {m : M Vl} (h : EM K te m) {μ : List Addr} {Hd H : Hp} {σ : L2.St} {E E' : En} {k : Bool} (R : Rl K μ Hd H σ E) (e : bindM m boolM E = some (k, E')) {Q : VK}
    (q : ∀ μ' Hd' H', Gr μ Hd μ' Hd' → Rl K μ' Hd' H' σ E' → Q (.bl k) H') : te σ H Q := by
  obtain ⟨r, E1, e1, e2⟩ := bindM_some e
  obtain ⟨rfl, rfl⟩ := boolM_some e2
  exact h R e1 _ fun μ1 Hd1 H1 v g1 R1 r1 => by
    cases (show v = .bl k from r1)
    exact q μ1 Hd1 H1 g1 R1
theorem xand (ha : Ex_ X a ta ma) (hb : Ex_ X (.BoolOp .And (b :: rest) pos) tb mb) : Ex_ X (.BoolOp .And (a :: b :: rest) pos) (tAndV ta tb) (andV ma mb) := ⟨pe_and ha.pe hb.pe, fun {μ Hd H σ E r E'} R e Q q => by
  obtain ⟨k, E1, e1, e2⟩ := bindM_some e
  refine em_bool ha.em R e1 fun μ1 Hd1 H1 g1 R1 => ⟨k, rfl, ?_⟩
  cases k with
  | true => exact hb.em R1 e2 Q fun μ2 Hd2 H2 v g2 R2 => q μ2 Hd2 H2 v (g1.trans g2) R2
  | false =>
    cases e2
    exact q μ1 Hd1 H1 _ g1 R1 rfl⟩
theorem xor_ (ha : Ex_ X a ta ma) (hb : Ex_ X (.BoolOp .Or (b :: rest) pos) tb mb) : Ex_ X (.BoolOp .Or (a :: b :: rest) pos) (tOrV ta tb) (orV ma mb) := ⟨pe_or ha.pe hb.pe, fun {μ Hd H σ E r E'} R e Q q => by
  obtain ⟨k, E1, e1, e2⟩ := bindM_some e
  refine em_bool ha.em R e1 fun μ1 Hd1 H1 g1 R1 => ⟨k, rfl, ?_⟩
  cases k with
  | false => exact hb.em R1 e2 Q fun μ2 Hd2 H2 v g2 R2 => q μ2 Hd2 H2 v (g1.trans g2) R2
  | true =>
    cases e2
    exact q μ1 Hd1 H1 _ g1 R1 rfl⟩
theorem xone {op : BoolOp} (ha : Ex_ X a ta ma) : Ex_ X (.BoolOp op [a] pos) ta ma := ⟨pe_one ha.pe, ha.em⟩
theorem xnot (ha : Ex_ X a ta ma) : Ex_ X (.UnaryOp .Not a pos) (tNotV ta) (notV ma) := ⟨pe_not ha.pe, fun {μ Hd H σ E r E'} R e Q q => by
  obtain ⟨k, E1, e1, e2⟩ := bindM_some e
  cases e2
  exact em_bool ha.em R e1 fun μ1 Hd1 H1 g1 R1 => ⟨k, rfl, q μ1 Hd1 H1 _ g1 R1 rfl⟩⟩
def ifM {α : Type} (t : M Bool) (m n : M α) : M α := bindM t fun b => if b = true then m else n
theorem xif (hc : Tx X c tt mt) (ha : Ex_ X a ta ma) (hb : Ex_ X b tb mb) : Ex_ X (.IfExp c a b pos) (tIf tt ta tb) (ifM mt ma mb) := ⟨pe_ifExp hc.pt ha.pe hb.pe, fun {μ Hd H σ E r E'} R e Q q => by
  obtain ⟨k, E1, e1, e2⟩ := bindM_some e
  refine hc.tm R e1 _ fun μ1 Hd1 H1 g1 R1 => ?_
  cases k with
  | true => exact ha.em R1 e2 Q fun μ2 Hd2 H2 v g2 R2 => q μ2 Hd2 H2 v (g1.trans g2) R2
  | false => exact hb.em R1 e2 Q fun μ2 Hd2 H2 v g2 R2 => q μ2 Hd2 H2 v (g1.trans g2) R2⟩
def chainV (f g : Vl → Vl → M Vl) (ma mb mc : M Vl) : M Vl := bindM ma fun x => bindM mb fun y => bindM (bindM (f x y) boolM) fun k => if k = true then bindM mc (g y) else blM false
theorem em_chain {K : PySem.W.Frag} {r r' : R2} {f g : Vl → Vl → M Vl} (hf : OM K r f) (hg : OM K r' g) (hgb : ∀ x y E z E', g x y E = some (z, E') → ∃ k, z = .d (.bl k)) (ha : EM K ta ma) (hb : EM K tb mb) (hc : EM K tc mc) : EM K (tChain r r' ta tb tc) (chainV f g ma mb mc) := fun {μ Hd H σ E z E'} R e Q q => by
  obtain ⟨x, E1, e1, e⟩ := bindM_some e
  obtain ⟨y, E2, e2, e⟩ := bindM_some e
  obtain ⟨k, E3, e3, e⟩ := bindM_some e
  obtain ⟨w, E4, e4, e5⟩ := bindM_some e3
  obtain ⟨rfl, rfl⟩ := boolM_some e5
  refine ha R e1 _ fun μ1 Hd1 H1 vx g1 R1 r1 => ?_
  refine hb R1 e2 _ fun μ2 Hd2 H2 vy g2 R2 r2 => ?_
  refine hf R2 (Rv.gr g2 r1) r2 e4 _ fun μ3 Hd3 H3 vz g3 R3 r3 => ?_
  refine ⟨k, r3, ?_⟩
  cases k with
  | true =>
    obtain ⟨u, E5, e6, e7⟩ := bindM_some e
    show tc σ H3 _
    refine hc R3 e6 _ fun μ4 Hd4 H4 vu g4 R4 r4 => ?_
    exact hg R4 (Rv.gr g4 (Rv.gr g3 r2)) r4 e7 _ fun μ5 Hd5 H5 v g5 R5 r5 => q μ5 Hd5 H5 v ((((g1.trans g2).trans g3).trans g4).trans g5) R5 r5
  | false =>
    cases e
    exact q μ3 Hd3 H3 _ ((g1.trans g2).trans g3) R3 rfl
theorem tchain {op op' : CmpOp} {r r' : R2} {f g : Vl → Vl → M Vl} (ho : OpR X (compareOp op) r) (ho' : OpR X (compareOp op') r') (hf : OM X.K r f) (hg : OM X.K r' g) (hgb : ∀ x y E z E', g x y E = some (z, E') → ∃ k, z = .d (.bl k)) (ha : Ex_ X a ta ma) (hb : Ex_ X b tb mb) (hc : Ex_ X c tc mc)
    (hm : lastMarks [op, op'] [b, c] = false := by with_unfolding_all rfl) : Tx X (.Compare a [op, op'] [b, c] pos) (tTest (tChain r r' ta tb tc)) (bindM (chainV f g ma mb mc) boolM) := ⟨pt_chain ho ho' ha.pe hb.pe hc.pe hm, tm_test (em_chain hf hg hgb ha.em hb.em hc.em)⟩

/-! ### argument lists, displays -/
variable {es : List Expr} {tes : TA} {mes : M (List Vl)}
def consM (m : M Vl) (ms : M (List Vl)) : M (List Vl) := bindM m fun x => bindM ms fun xs => retM (x :: xs)
theorem anil : Ax X [] tNil (retM []) := ⟨pa_nil, fun {μ Hd H σ E r E'} R e Q q => by
  cases e
  exact q μ Hd H [] (Gr.refl μ Hd) R .nil⟩
theorem acons (ha : Ex_ X e te m) (hr : Ax X es tes mes) (hs : starEach (e :: es) X.env = (false, eval e X.env) :: starEach es X.env := by rfl) : Ax X (e :: es) (tCons te tes) (consM m mes) := ⟨pa_cons ha.pe hr.pa hs, fun {μ Hd H σ E r E'} R e Q q => by
  obtain ⟨x, E1, e1, e⟩ := bindM_some e
  obtain ⟨xs, E2, e2, e⟩ := bindM_some e
  cases e
  refine ha.em R e1 _ fun μ1 Hd1 H1 v g1 R1 r1 => ?_
  exact hr.am R1 e2 _ fun μ2 Hd2 H2 vs g2 R2 r2 => q μ2 Hd2 H2 _ (g1.trans g2) R2 (.cons (Rv.gr g2 r1) r2)⟩
/-- a value as data: a cell's list is data from now on -/
def fzM : Vl → M Dt
  | .d d => retM d
  | .c k => fun E => match (E.ce[k]?).bind dataC with
    | some d => some (d, frz k d E)
    | none => none
  | .t _ => failM
def fzA : List Vl → M (List Dt)
  | [] => retM []
  | r :: rs => bindM (fzM r) fun d => bindM (fzA rs) fun ds => retM (d :: ds)
theorem fzM_ok {K : PySem.W.Frag} {μ : List Addr} {Hd H : Hp} {σ : L2.St} {E E' : En} {r : Vl} {v : V} {d : Dt} (R : Rl K μ Hd H σ E) (hv : Rv K μ Hd r v) (h : fzM r E = some (d, E')) : ∃ Hd', Gr μ Hd μ Hd' ∧ Rl K μ Hd' H σ E' ∧ Rp K Hd' d v := by
  cases r with
  | d d' =>
    cases h
    exact ⟨Hd, Gr.refl μ Hd, R, hv⟩
  | c k =>
    have h : (match (E.ce[k]?).bind dataC with
    | some d => some (d, frz k d E)
    | none => none) = some (d, E') := h
    cases q : E.ce[k]? with
    | none =>
      rw [q] at h
      cases h
    | some c =>
      rw [q] at h
      have h : (match dataC c with
        | some d => some (d, frz k d E)
        | none => none) = some (d, E') := h
      cases q2 : dataC c with
      | none =>
        rw [q2] at h
        cases h
      | some d2 =>
        rw [q2] at h
        cases h
        obtain ⟨a, h1, rfl⟩ := hv
        exact R.frz q h1 q2
  | t rs => cases h
theorem fzA_ok {K : PySem.W.Frag} {μ : List Addr} {H : Hp} {σ : L2.St} : ∀ {rs : List Vl} {vs : List V} {ds : List Dt} {Hd : Hp} {E E' : En}, Rl K μ Hd H σ E → RvA K μ Hd rs vs → fzA rs E = some (ds, E') → ∃ Hd', Gr μ Hd μ Hd' ∧ Rl K μ Hd' H σ E' ∧ RpA K Hd' ds vs
  | [], _, _, Hd, E, E', R, .nil, h => by
    cases h
    exact ⟨Hd, Gr.refl μ Hd, R, rfl⟩
  | r :: rs, _, _, Hd, E, E', R, .cons h1 h2, h => by
    obtain ⟨d, E1, e1, h⟩ := bindM_some h
    obtain ⟨ds, E2, e2, h⟩ := bindM_some h
    cases h
    obtain ⟨H1, g1, R1, p1⟩ := fzM_ok R h1 e1
    obtain ⟨H2, g2, R2, p2⟩ := fzA_ok R1 (RvA.gr g1 h2) e2
    exact ⟨H2, g1.trans g2, R2, _, _, rfl, Rp.ex g2.ex _ _ p1, p2⟩
/-- a new list, a new tuple -/
def newL (xs : List Dt) : M Vl := fun E => some (.c E.ce.length, ⟨E.sl, E.ce ++ [.lst xs]⟩)
def tupM (m : M (List Vl)) : M Vl := bindM m fun rs => if rs.length ≤ 100000 then bindM (fzA rs) fun ds => retM (.d (.tup ds)) else failM
def lstM (m : M (List Vl)) : M Vl := bindM m fun rs => if rs.length ≤ 100000 then bindM (fzA rs) newL else failM
theorem newL_ok {K : PySem.W.Frag} {μ : List Addr} {Hd H : Hp} {σ : L2.St} {E E' : En} {xs : List Dt} {vs : List V} {z : Vl} {p : Addr} (R : Rl K μ Hd H σ E) (h : RpA K Hd xs vs) (e : newL xs E = some (z, E')) (hp : H p = none) :
    Gr μ Hd (μ ++ [p]) Hd ∧ Rl K (μ ++ [p]) Hd (upd H p (.lst vs)) σ E' ∧ Rv K (μ ++ [p]) Hd z (.ref p) := by
  cases e
  exact R.newC hp h
theorem tup_ok {K : PySem.W.Frag} {μ : List Addr} {Hd H : Hp} {σ : L2.St} {E : En} {ds : List Dt} {vs : List V} {p : Addr} (R : Rl K μ Hd H σ E) (h : RpA K Hd ds vs) (hp : H p = none) :
    Gr μ Hd μ (upd Hd p (.tup vs)) ∧ Rl K μ (upd Hd p (.tup vs)) (upd H p (.tup vs)) σ E ∧ Rp K (upd Hd p (.tup vs)) (.tup ds) (.ref p) := by
  obtain ⟨g, R'⟩ := R.newD (o := .tup vs) hp
  exact ⟨g, R', p, vs, rfl, st_of upd_same, RpA.ex g.ex _ _ h⟩
theorem xtup {k : _} (h : Ax X es tes mes) : Ex_ X (.Tuple es k pos) (tTup tes) (tupM mes) := ⟨pe_tup h.pa, fun {μ Hd H σ E r E'} R e Q q => by
  obtain ⟨rs, E1, e1, e⟩ := bindM_some e
  split at e
  · rename_i hz
    obtain ⟨ds, E2, e2, e⟩ := bindM_some e
    cases e
    refine h.am R e1 _ fun μ1 Hd1 H1 vs g1 R1 r1 => ?_
    obtain ⟨Hd2, g2, R2, r2⟩ := fzA_ok R1 r1 e2
    refine ⟨by rw [r1.len]; exact sz_of hz, fun p hp => ?_⟩
    obtain ⟨g3, R3, r3⟩ := tup_ok R2 r2 hp
    exact q _ _ _ _ ((g1.trans g2).trans g3) R3 r3
  · cases e⟩
theorem xlst (h : Ax X es tes mes) : Ex_ X (.List es pos) (tLst tes) (lstM mes) := ⟨pe_lst h.pa, fun {μ Hd H σ E r E'} R e Q q => by
  obtain ⟨rs, E1, e1, e⟩ := bindM_some e
  split at e
  · rename_i hz
    obtain ⟨ds, E2, e2, e⟩ := bindM_some e
    refine h.am R e1 _ fun μ1 Hd1 H1 vs g1 R1 r1 => ?_
    obtain ⟨Hd2, g2, R2, r2⟩ := fzA_ok R1 r1 e2
    refine ⟨by rw [r1.len]; exact sz_of hz, fun p hp => ?_⟩
    obtain ⟨g3, R3, r3⟩ := newL_ok R2 r2 e hp
    exact q _ _ _ _ ((g1.trans g2).trans g3) R3 r3
  · cases e⟩
end
end Hk
/-! Hk3: statements, loops, a def's promise and its call. -/
namespace Hk
open PySem PySem.Spec PyProof.Rows L2 Evl

section
variable {X : Cx} {a b c e tg iter : Expr} {ta tb tc te : TE} {ma mb mc m : M Vl} {pos : Pos} {tt : TT} {mt : M Bool} {st : Stmt} {sts rest : List Stmt} {ts tu : TS} {ms mu : En → Option Rs} {es : List Expr} {tes : TA} {mes : M (List Vl)}

/-! ### blocks -/
def nilS : En → Option Rs := fun E => some (.nx E)
def seqS (m n : En → Option Rs) : En → Option Rs := fun E => match m E with
  | some (.nx E1) => n E1
  | o => o
theorem sm_seq {K : PySem.W.Frag} (h1 : SM K ts ms) (h2 : SM K tu mu) : SM K (tSeq ts tu) (seqS ms mu) := fun {μ Hd H σ E R} r e D d => by
  unfold seqS at e
  cases q : ms E with
  | none =>
    rw [q] at e
    cases e
  | some Q =>
    rw [q] at e
    refine h1 r q _ ?_
    cases Q with
    | nx E1 => exact fun μ1 Hd1 H1 σ1 g1 R1 => h2 R1 e D (Dn.gr g1 d)
    | rt v E1 =>
      cases e
      exact d
    | bk E1 =>
      cases e
      exact d
    | ct E1 =>
      cases e
      exact d
theorem sm_next {K : PySem.W.Frag} : SM K tNext nilS := fun {μ Hd H σ E R} r e D d => by
  cases e
  exact d μ Hd H σ (Gr.refl μ Hd) r
theorem bnil : Bx X [] tNext nilS := ⟨pss_nil, sm_next⟩
theorem bone (h : Sx X st ts ms) : Bx X [st] ts ms := ⟨pss_one h.ps, h.sm⟩
theorem bcons (h : Sx X st ts ms) (hr : Bx X rest tu mu) : Bx X (st :: rest) (tSeq ts tu) (seqS ms mu) := ⟨pss_cons h.ps hr.ps, sm_seq h.sm hr.sm⟩
/-! ### simple statements -/
def setE (i : Nat) (r : Vl) (E : En) : En := ⟨E.sl.set i (some r), E.ce⟩
theorem Rl.setE {K : PySem.W.Frag} {μ : List Addr} {Hd H : Hp} {σ : L2.St} {E : En} {r : Vl} {v : V} (R : Rl K μ Hd H σ E) (i : Nat) (h : Rv K μ Hd r v) : Rl K μ Hd H (σ.set i (some v)) (setE i r E) := ⟨R.wo, R.sl.set i h⟩
def setS (i : Nat) (m : M Vl) : En → Option Rs := fun E => match m E with
  | some (r, E1) => some (.nx (setE i r E1))
  | none => none
theorem sm_set {K : PySem.W.Frag} {te : TE} {m : M Vl} (i : Nat) (h : EM K te m) : SM K (tAsg te (gName i)) (setS i m) := fun {μ Hd H σ E R} r e D d => by
  unfold setS at e
  cases q : m E with
  | none =>
    rw [q] at e
    cases e
  | some p =>
    obtain ⟨v, E1⟩ := p
    rw [q] at e
    cases e
    exact h r q _ fun μ1 Hd1 H1 x g1 R1 r1 => d μ1 Hd1 H1 _ g1 (R1.setE i r1)
theorem sset (i : Nat) {x : Str} {pos' : Pos} (h : Ex_ X e te m) (hN : X.N.Nodup) (hi : X.N[i]? = some x := by rfl) (hx : Loc X.env.scope x := by first | exact Or.inl rfl | exact Or.inr rfl) (hs : swapsWith e (some (.Name x pos')) pos.line X.env = pure false := by rfl)
    (hf : X.fn x = true ∨ X.env.scope.names.lookup x = some .local := by first | exact .inl rfl | exact .inr rfl) : Sx X (.Assign [.Name x pos'] e pos) (tAsg te (gName i)) (setS i m) := ⟨ps_set hN hi hx h.pe hs hf, sm_set i h.em⟩
/-- a, b = x, y: two names -/
def set2S (i j : Nat) (m : M (List Vl)) : En → Option Rs := fun E => match m E with
  | some ([x, y], E1) => some (.nx (setE j y (setE i x E1)))
  | _ => none
theorem sset2 {i j : Nat} {x y : Str} {px py pt : Pos} {kt k2 pt2} (h : Ax X [a, b] tes mes) (hc : X.calm = true) (hN : X.N.Nodup) (hi : X.N[i]? = some x) (hj : X.N[j]? = some y) (hij : i ≠ j)
    (hx : X.env.scope.names.lookup x = some .local) (hy : X.env.scope.names.lookup y = some .local)
    (hw : swappedStores [.Tuple [.Name x px, .Name y py] kt pt] (.Tuple [a, b] k2 pt2) X.env = pure (some [x, y]))
    (hs : swapsWithSole [.Tuple [.Name x px, .Name y py] kt pt] (.Tuple [a, b] k2 pt2) pos.line X.env = pure false := by rfl) :
    Sx X (.Assign [.Tuple [.Name x px, .Name y py] kt pt] (.Tuple [a, b] k2 pt2) pos) (tPar i j tes) (set2S i j mes) := ⟨ps_par hc hN hi hj hij hx hy h.pa hw hs, fun {μ Hd H σ E R} r e D d => by
  unfold set2S at e
  split at e
  · rename_i x y E1 q
    cases e
    refine h.am r q _ fun μ1 Hd1 H1 vs g1 R1 r1 => ?_
    cases r1 with
    | cons p1 t =>
      cases t with
      | cons p2 t2 =>
        cases t2
        exact ⟨_, _, rfl, d μ1 Hd1 H1 _ g1 ((R1.setE i p1).setE j p2)⟩
  · cases e⟩
def dropS (m : M Vl) : En → Option Rs := fun E => match m E with
  | some (_, E1) => some (.nx E1)
  | none => none
theorem sexpr (h : Ex_ X e te m) (hs : swapsWith e none pos.line X.env = pure false := by rfl) : Sx X (.Expr e pos) (tDrop te) (dropS m) := ⟨ps_expr h.pe hs, fun {μ Hd H σ E R} r q D d => by
  unfold dropS at q
  cases q1 : m E with
  | none =>
    rw [q1] at q
    cases q
  | some p =>
    obtain ⟨v, E1⟩ := p
    rw [q1] at q
    cases q
    exact h.em r q1 _ fun μ1 Hd1 H1 x g1 R1 r1 => d μ1 Hd1 H1 _ g1 R1⟩
def retS (m : M Vl) : En → Option Rs := fun E => match m E with
  | some (r, E1) => some (.rt r E1)
  | none => none
theorem sret (h : Ex_ X e te m) : Sx X (.Return (some e) pos) (tRet te) (retS m) := ⟨ps_ret h.pe, fun {μ Hd H σ E R} r q D d => by
  unfold retS at q
  cases q1 : m E with
  | none =>
    rw [q1] at q
    cases q
  | some p =>
    obtain ⟨v, E1⟩ := p
    rw [q1] at q
    cases q
    exact h.em r q1 _ fun μ1 Hd1 H1 x g1 R1 r1 => d μ1 Hd1 H1 _ x g1 R1 r1⟩
theorem sretN : Sx X (.Return none pos) tRetN (fun E => some (.rt (.d .non) E)) := ⟨ps_retN, fun {μ Hd H σ E R} r q D d => by
  cases q
  exact d μ Hd H σ .non (Gr.refl μ Hd) r rfl⟩
def ifS (t : M Bool) (m n : En → Option Rs) : En → Option Rs := fun E => match t E with
  | some (b, E1) => if b = true then m E1 else n E1
  | none => none
theorem sif (hc : Tx X c tt mt) (ha : Bx X sts ts ms) (hb : Bx X rest tu mu) : Sx X (.If c sts rest pos) (tIfS tt ts tu) (ifS mt ms mu) := ⟨ps_if hc.pt ha.ps hb.ps, fun {μ Hd H σ E R} r q D d => by
  unfold ifS at q
  cases q1 : mt E with
  | none =>
    rw [q1] at q
    cases q
  | some p =>
    obtain ⟨k, E1⟩ := p
    rw [q1] at q
    refine hc.tm r q1 _ fun μ1 Hd1 H1 g1 R1 => ?_
    cases k with
    | true => exact ha.sm R1 q D (Dn.gr g1 d)
    | false => exact hb.sm R1 q D (Dn.gr g1 d)⟩
/-- what is never reached -/
theorem bnever : Bx X sts tNever (fun _ => none) := ⟨pss_never, fun {μ Hd H σ E R} r q D d => by cases q⟩
theorem sbreak : Sx X (.Break pos) tBreak (fun E => some (.bk E)) := ⟨ps_break, fun {μ Hd H σ E R} r q D d => by
  cases q
  exact d μ Hd H σ (Gr.refl μ Hd) r⟩
theorem scont : Sx X (.Continue pos) tCont (fun E => some (.ct E)) := ⟨ps_continue, fun {μ Hd H σ E R} r q D d => by
  cases q
  exact d μ Hd H σ (Gr.refl μ Hd) r⟩
/-- x op= e, two ints -/
def augS (i : Nat) (f : Int → Int → Int) (m : M Vl) : En → Option Rs := fun E => match E.sl[i]?, m E with
  | some (some (.d (.int x))), some (.d (.int y), E1) => some (.nx (setE i (.d (.int (f x y))) E1))
  | _, _ => none
theorem saug (i : Nat) {x : Str} {op : Operator} {f : Int → Int → Int} {pos' : Pos} (ho : PIp X op (ipI f)) (h : Ex_ X e te m) (hN : X.N.Nodup) (hi : X.N[i]? = some x := by rfl) (hx : Loc X.env.scope x := by first | exact Or.inl rfl | exact Or.inr rfl)
    (hf : X.fn x = true ∨ X.env.scope.names.lookup x = some .local := by first | exact .inl rfl | exact .inr rfl) : Sx X (.AugAssign (.Name x pos') op e pos) (tAug i te (ipI f)) (augS i f m) := ⟨ps_aug hN hi hx h.pe ho hf, fun {μ Hd H σ E R} r q D d => by
  unfold augS at q
  split at q
  · rename_i x y E1 e1 e2
    cases q
    obtain ⟨v, h1, h2⟩ := r.sl.2 i _ e1
    cases (show v = .int x from h2)
    exact ⟨.int x, h1, h.em r e2 _ fun μ1 Hd1 H1 w g1 R1 r1 => by
      cases (show w = .int y from r1)
      exact ⟨x, y, rfl, rfl, d μ1 Hd1 H1 _ g1 (R1.setE i (rfl : V.int (f x y) = .int (f x y)))⟩⟩
  · cases q⟩

/-! ### loops -/
def whileS (t : M Bool) (m : En → Option Rs) : Nat → En → Option Rs
  | 0, _ => none
  | n + 1, E => match t E with
    | some (true, E1) => match m E1 with
      | some (.nx E2) => whileS t m n E2
      | some (.ct E2) => whileS t m n E2
      | some (.bk E2) => some (.nx E2)
      | some (.rt r E2) => some (.rt r E2)
      | none => none
    | some (false, E1) => some (.nx E1)
    | none => none
theorem sm_while {K : PySem.W.Frag} (n : Nat) (hc : TM K tt mt) (hb : SM K ts ms) : SM K (tWhile tt ts) (whileS mt ms n) := fun {μ Hd H σ E R} r q D d => by
  refine ⟨fun k σ' H' => ∃ μ' Hd' E', Gr μ Hd μ' Hd' ∧ Rl K μ' Hd' H' σ' E' ∧ whileS mt ms k E' = some R, ⟨n, μ, Hd, E, Gr.refl μ Hd, r, q⟩, fun k σ' H' hw => ?_⟩
  obtain ⟨μ', Hd', E', g, r', q'⟩ := hw
  cases k with
  | zero => cases q'
  | succ k =>
    unfold whileS at q'
    cases q1 : mt E' with
    | none =>
      rw [q1] at q'
      cases q'
    | some p =>
      obtain ⟨b, E1⟩ := p
      rw [q1] at q'
      refine hc r' q1 _ fun μ1 Hd1 H1 g1 R1 => ?_
      cases b with
      | false =>
        cases q'
        exact d μ1 Hd1 H1 σ' (g.trans g1) R1
      | true =>
        refine ⟨fun σ2 H2 => ∃ m', m' < k + 1 ∧ ∃ μ2 Hd2 E2, Gr μ Hd μ2 Hd2 ∧ Rl K μ2 Hd2 H2 σ2 E2 ∧ whileS mt ms m' E2 = some R, fun _ _ h => h, ?_⟩
        have q' : (match ms E1 with
          | some (.nx E2) => whileS mt ms k E2
          | some (.ct E2) => whileS mt ms k E2
          | some (.bk E2) => some (.nx E2)
          | some (.rt r E2) => some (.rt r E2)
          | none => none) = some R := q'
        cases q2 : ms E1 with
        | none =>
          rw [q2] at q'
          cases q'
        | some Q =>
          rw [q2] at q'
          refine hb R1 q2 _ ?_
          cases Q with
          | nx E2 => exact fun μ2 Hd2 H2 σ2 g2 R2 => ⟨k, Nat.lt_succ_self k, μ2, Hd2, E2, (g.trans g1).trans g2, R2, q'⟩
          | ct E2 => exact fun μ2 Hd2 H2 σ2 g2 R2 => ⟨k, Nat.lt_succ_self k, μ2, Hd2, E2, (g.trans g1).trans g2, R2, q'⟩
          | bk E2 =>
            cases q'
            exact fun μ2 Hd2 H2 σ2 g2 R2 => d μ2 Hd2 H2 σ2 ((g.trans g1).trans g2) R2
          | rt v E2 =>
            cases q'
            exact fun μ2 Hd2 H2 σ2 w g2 R2 r2 => d μ2 Hd2 H2 σ2 w ((g.trans g1).trans g2) R2 r2
theorem swhile (n : Nat) (hp : PassesOwn (model X.prog X.w) X.A X.env X.xe) (hc : Tx X c tt mt) (hb : Bx X sts ts ms) : Sx X (.While c sts [] pos) (tWhile tt ts) (whileS mt ms n) := ⟨ps_while hp hc.pt hb.ps, sm_while n hc.tm hb.sm⟩

/-- an iterator that serves data -/
def Serves (J : It) (K : PySem.W.Frag) (Hd0 : Hp) (ds : List Dt) : Prop := ∀ (Hd H : Hp) (i : Nat), Ex Hd0 Hd → ExS Hd H → (ds.length ≤ i → J.stop i H) ∧ ∀ d, ds[i]? = some d → J.go i H ∧ ∀ x H', J.yld i H x H' →
  ∃ Hd', ((H' = H ∧ Hd' = Hd) ∨ ∃ p o, H p = none ∧ strip o = o ∧ H' = upd H p o ∧ Hd' = upd Hd p o) ∧ Rp K Hd' d x
def IM (K : PySem.W.Frag) (wi : TI) (m : M (List Dt)) : Prop := ∀ {μ : List Addr} {Hd H : Hp} {σ : L2.St} {E : En} {ds : List Dt} {E' : En}, Rl K μ Hd H σ E → m E = some (ds, E') → ∀ Q : It → Hp → Prop,
  (∀ μ' Hd' H' J, Gr μ Hd μ' Hd' → Rl K μ' Hd' H' σ E' → Serves J K Hd' ds → Q J H') → wi σ H Q
structure Ix_ (X : Cx) (tg iter : Expr) (wi : TI) (m : M (List Dt)) : Prop where
  pi : PI X tg iter wi
  im : IM X.K wi m
def forL (g : Vl → En → Option En) (m : En → Option Rs) : List Dt → En → Option Rs
  | [], E => some (.nx E)
  | d :: ds, E => match g (.d d) E with
    | some E1 => match m E1 with
      | some (.nx E2) => forL g m ds E2
      | some (.ct E2) => forL g m ds E2
      | some (.bk E2) => some (.nx E2)
      | some (.rt r E2) => some (.rt r E2)
      | none => none
    | none => none
def forS (i : M (List Dt)) (g : Vl → En → Option En) (m : En → Option Rs) : En → Option Rs := fun E => match i E with
  | some (ds, E1) => forL g m ds E1
  | none => none
theorem Serves.new {J : It} {K : PySem.W.Frag} {Hd : Hp} {ds : List Dt} (s : Serves J K Hd ds) {μ : List Addr} {Hd1 H1 : Hp} {σ : L2.St} {E : En} (R : Rl K μ Hd1 H1 σ E) (e : Ex Hd Hd1) {i : Nat} {d : Dt} (hd : ds[i]? = some d) :
    J.go i H1 ∧ ∀ x H', J.yld i H1 x H' → ∃ Hd', Gr μ Hd1 μ Hd' ∧ Rl K μ Hd' H' σ E ∧ Rp K Hd' d x := by
  obtain ⟨h1, h2⟩ := (s Hd1 H1 i e R.wo.ex).2 d hd
  refine ⟨h1, fun x H' hy => ?_⟩
  obtain ⟨Hd', hc, hr⟩ := h2 x H' hy
  rcases hc with ⟨rfl, rfl⟩ | ⟨p, o, hp, ho, rfl, rfl⟩
  · exact ⟨Hd', Gr.refl μ Hd', R, hr⟩
  · obtain ⟨g, R'⟩ := R.newD (o := o) hp ho
    exact ⟨_, g, R', hr⟩
theorem drop_cons {α : Type} {l : List α} {i : Nat} {x : α} {r : List α} (h : l.drop i = x :: r) : l[i]? = some x ∧ l.drop (i + 1) = r := by
  constructor
  · have q : (l.drop i)[0]? = some x := by
      rw [h]
      rfl
    rw [List.getElem?_drop] at q
    simpa using q
  · have q : (l.drop i).drop 1 = r := by
      rw [h]
      rfl
    rw [List.drop_drop] at q
    simpa [Nat.add_comm] using q
theorem for_at {K : PySem.W.Frag} {g : TG} {gm : Vl → En → Option En} (hg : GM K g gm) (hb : SM K ts ms) {μ1 : List Addr} {Hd1 H1 : Hp} {σ : L2.St} {E1 : En} {J : It} {ds : List Dt} {R : Rs} (R1 : Rl K μ1 Hd1 H1 σ E1) (sv : Serves J K Hd1 ds) (q : forL gm ms ds E1 = some R) (D : Ends) (d : Dn K μ1 Hd1 D R) : tFor (fun σ H R => R J H) g ts D σ H1 := by
  refine ⟨fun i k σ' H' => ∃ μ' Hd' E', Gr μ1 Hd1 μ' Hd' ∧ Rl K μ' Hd' H' σ' E' ∧ k = ds.length - i ∧ forL gm ms (ds.drop i) E' = some R, ⟨_, μ1, Hd1, E1, Gr.refl _ _, R1, rfl, q⟩, fun i k σ' H' hw => ?_⟩
  obtain ⟨μ', Hd', E', g2, R2, ek, q2⟩ := hw
  cases hd : ds.drop i with
  | nil =>
    rw [hd] at q2
    cases q2
    have hl : ds.length ≤ i := by
      have := congrArg List.length hd
      rw [List.length_drop] at this
      simp at this
      omega
    exact .inl ⟨(sv Hd' H' i g2.ex R2.wo.ex).1 hl, d μ' Hd' H' σ' g2 R2⟩
  | cons x rest =>
    rw [hd] at q2
    obtain ⟨hx, hr⟩ := drop_cons hd
    have hl : i < ds.length := (List.getElem?_eq_some_iff.mp hx).1
    obtain ⟨s1, s2⟩ := sv.new R2 g2.ex hx
    refine .inr ⟨s1, fun σ2 H2 => ∃ m', m' < k ∧ ∃ μ2 Hd2 E2, Gr μ1 Hd1 μ2 Hd2 ∧ Rl K μ2 Hd2 H2 σ2 E2 ∧ m' = ds.length - (i + 1) ∧ forL gm ms (ds.drop (i + 1)) E2 = some R, fun _ _ h => h, fun v H3 hy => ?_⟩
    obtain ⟨Hd3, g3, R3, r3⟩ := s2 v H3 hy
    unfold forL at q2
    cases q3 : gm (.d x) E' with
    | none =>
      rw [q3] at q2
      cases q2
    | some E3 =>
      rw [q3] at q2
      refine hg R3 (r := .d x) r3 q3 _ fun μ4 Hd4 H4 σ4 g4 R4 => ?_
      have q2 : (match ms E3 with
        | some (.nx E2) => forL gm ms rest E2
        | some (.ct E2) => forL gm ms rest E2
        | some (.bk E2) => some (.nx E2)
        | some (.rt r E2) => some (.rt r E2)
        | none => none) = some R := q2
      cases q4 : ms E3 with
      | none =>
        rw [q4] at q2
        cases q2
      | some Q =>
        rw [q4] at q2
        have gg : Gr μ1 Hd1 μ4 Hd4 := (g2.trans g3).trans g4
        refine hb R4 q4 _ ?_
        cases Q with
        | nx E5 => exact fun μ5 Hd5 H5 σ5 g5 R5 => ⟨ds.length - (i + 1), by omega, μ5, Hd5, E5, gg.trans g5, R5, rfl, by rw [hr]; exact q2⟩
        | ct E5 => exact fun μ5 Hd5 H5 σ5 g5 R5 => ⟨ds.length - (i + 1), by omega, μ5, Hd5, E5, gg.trans g5, R5, rfl, by rw [hr]; exact q2⟩
        | bk E5 =>
          cases q2
          exact fun μ5 Hd5 H5 σ5 g5 R5 => d μ5 Hd5 H5 σ5 (gg.trans g5) R5
        | rt v E5 =>
          cases q2
          exact fun μ5 Hd5 H5 σ5 w g5 R5 r5 => d μ5 Hd5 H5 σ5 w (gg.trans g5) R5 r5
theorem sm_for {K : PySem.W.Frag} {wi : TI} {mi : M (List Dt)} {g : TG} {gm : Vl → En → Option En} (hi : IM K wi mi) (hg : GM K g gm) (hb : SM K ts ms) : SM K (tFor wi g ts) (forS mi gm ms) := fun {μ Hd H σ E R} r q D d => by
  unfold forS at q
  cases q1 : mi E with
  | none =>
    rw [q1] at q
    cases q
  | some p =>
    obtain ⟨ds, E1⟩ := p
    rw [q1] at q
    refine hi r q1 _ fun μ1 Hd1 H1 J g1 R1 sv => ?_
    exact for_at hg hb R1 sv q D (d.gr g1)
theorem sfor {wi : TI} {mi : M (List Dt)} {g : TG} {gm : Vl → En → Option En} (hp : PassesOwn (model X.prog X.w) X.A X.env X.xe) (hc : X.calm = true) (hi : Ix_ X tg iter wi mi) (hg : Gx X tg g gm) (hb : Bx X sts ts ms)
    (hs : ∀ x, foldedSetIterable iter X.env x = pure x := by intro _; rfl) : Sx X (.For tg iter sts [] pos) (tFor wi g ts) (forS mi gm ms) := ⟨ps_for hp hc hi.pi hg.pg hb.ps hs, sm_for hi.im hg.gm hb.sm⟩
/-! ### targets, iterables -/
def nameG (i : Nat) : Vl → En → Option En := fun r E => some (setE i r E)
theorem gm_name {K : PySem.W.Frag} (i : Nat) : GM K (gName i) (nameG i) := fun {μ Hd H σ E E' r v} R h e Q q => by
  cases e
  exact q μ Hd H _ (Gr.refl μ Hd) (R.setE i h)
theorem gname (i : Nat) {x : Str} (hN : X.N.Nodup) (hi : X.N[i]? = some x := by rfl) (hx : Loc X.env.scope x := by first | exact Or.inl rfl | exact Or.inr rfl) (hf : X.fn x = true ∨ X.env.scope.names.lookup x = some .local := by first | exact .inl rfl | exact .inr rfl) :
    Gx X (.Name x pos) (gName i) (nameG i) := ⟨pg_name hN hi hx hf, gm_name i⟩
/-- a, b, .. out of a tuple that is data -/
def gsL : List (Vl → En → Option En) → List Dt → En → Option En
  | [], [], E => some E
  | g :: gs, d :: ds, E => match g (.d d) E with
    | some E1 => gsL gs ds E1
    | none => none
  | _, _, _ => none
def tupG (gs : List (Vl → En → Option En)) : Vl → En → Option En
  | .d (.tup ds), E => gsL gs ds E
  | _, _ => none
def GsM (K : PySem.W.Frag) (t : TGs) (gs : List (Vl → En → Option En)) : Prop := ∀ {μ : List Addr} {Hd H : Hp} {σ : L2.St} {E E' : En} {ds : List Dt} {vs : List V}, Rl K μ Hd H σ E → RpA K Hd ds vs → gsL gs ds E = some E' → ∀ Q : L2.St → Hp → Prop,
  (∀ μ' Hd' H' σ', Gr μ Hd μ' Hd' → Rl K μ' Hd' H' σ' E' → Q σ' H') → t vs σ H Q
theorem gsm_nil {K : PySem.W.Frag} : GsM K gNil [] := fun {μ Hd H σ E E' ds vs} R h e Q q => by
  cases ds with
  | nil =>
    cases e
    exact ⟨h, q μ Hd H σ (Gr.refl μ Hd) R⟩
  | cons d ds => cases e
theorem gsm_cons {K : PySem.W.Frag} {t : TG} {u : TGs} {g : Vl → En → Option En} {gs : List (Vl → En → Option En)} (h1 : GM K t g) (h2 : GsM K u gs) : GsM K (gCons t u) (g :: gs) := fun {μ Hd H σ E E' ds vs} R h e Q q => by
  cases ds with
  | nil => cases e
  | cons d ds =>
    unfold gsL at e
    cases q1 : g (.d d) E with
    | none =>
      rw [q1] at e
      cases e
    | some E1 =>
      rw [q1] at e
      obtain ⟨x, r, rfl, p1, p2⟩ := h
      refine ⟨x, r, rfl, h1 R (r := .d d) p1 q1 _ fun μ1 Hd1 H1 σ1 g1 R1 => ?_⟩
      exact h2 R1 (RpA.ex g1.ex _ _ p2) e Q fun μ2 Hd2 H2 σ2 g2 R2 => q μ2 Hd2 H2 σ2 (g1.trans g2) R2
theorem gsL_len {gs : List (Vl → En → Option En)} : ∀ {ds : List Dt} {E E' : En}, gsL gs ds E = some E' → ds.length = gs.length := by
  induction gs with
  | nil =>
    intro ds E E' h
    cases ds with
    | nil => rfl
    | cons d ds => cases h
  | cons g gs ih =>
    intro ds E E' h
    cases ds with
    | nil => cases h
    | cons d ds =>
      unfold gsL at h
      cases q1 : g (.d d) E with
      | none =>
        rw [q1] at h
        cases h
      | some E1 =>
        rw [q1] at h
        rw [List.length_cons, List.length_cons, ih h]
theorem gm_tup {K : PySem.W.Frag} {t : TGs} {gs : List (Vl → En → Option En)} {n : Nat} (hn : gs.length = n) (h : GsM K t gs) : GM K (gTup K n t) (tupG gs) := fun {μ Hd H σ E E' r v} R hv e Q q => by
  unfold tupG at e
  split at e
  · rename_i ds
    obtain ⟨a, vs, rfl, h2, h3⟩ := hv
    exact ⟨a, vs, rfl, exs_t R.wo.ex h2, by rw [h3.len, gsL_len e, hn], h R h3 e Q q⟩
  · cases e
theorem PI.or {w1 w2 : TI} (h1 : PI X tg iter w1) (h2 : PI X tg iter w2) : PI X tg iter (fun σ H R => w1 σ H R ∨ w2 σ H R) := ⟨fun pins s σ H R I h => by
  rcases h with h | h
  · exact h1.run pins s σ H R I h
  · exact h2.run pins s σ H R I h⟩
/-- the items of a list, of a tuple; a cell's list is data from then on -/
def itemsD : Dt → Option (List Dt)
  | .lst xs => some xs
  | .sq xs => some xs
  | .tup xs => some xs
  | _ => none
def itemsM (m : M Vl) : M (List Dt) := bindM (bindM m fzM) fun d => fun E => (itemsD d).map fun xs => (xs, E)
theorem serves_l {K : PySem.W.Frag} {Hd : Hp} {a : Addr} {ds : List Dt} {vs : List V} (h : SqL K Hd a vs) (hr : RpA K Hd ds vs) : Serves (Itl K a) K Hd ds := fun Hd1 H1 i e1 e2 => by
  have h1 := exs_l e2 (ex_l e1 h)
  refine ⟨fun hl => ⟨vs, h1, by rw [hr.len]; exact hl⟩, fun d hd => ?_⟩
  obtain ⟨v, g1, g2⟩ := RpA.at hr hd
  exact ⟨⟨vs, v, h1, g1⟩, fun x H' ⟨q1, q2⟩ => ⟨Hd1, .inl ⟨q1, rfl⟩, by
    have := Option.some.inj ((q2 vs h1).symm.trans g1)
    subst this
    exact Rp.ex e1 _ _ g2⟩⟩
theorem serves_t {K : PySem.W.Frag} {Hd : Hp} {a : Addr} {ds : List Dt} {vs : List V} (h : SqT K Hd a vs) (hr : RpA K Hd ds vs) : Serves (Itt K a) K Hd ds := fun Hd1 H1 i e1 e2 => by
  have h1 := exs_t e2 (ex_t e1 h)
  refine ⟨fun hl => ⟨vs, h1, by rw [hr.len]; exact hl⟩, fun d hd => ?_⟩
  obtain ⟨v, g1, g2⟩ := RpA.at hr hd
  exact ⟨⟨vs, v, h1, g1⟩, fun x H' ⟨q1, q2⟩ => ⟨Hd1, .inl ⟨q1, rfl⟩, by
    have := Option.some.inj ((q2 vs h1).symm.trans g1)
    subst this
    exact Rp.ex e1 _ _ g2⟩⟩
theorem iseq {te : TE} {m : M Vl} (h : Ex_ X iter te m) : Ix_ X tg iter (fun σ H R => iList X.K te σ H R ∨ iTup X.K te σ H R) (itemsM m) := ⟨PI.or (pi_list h.pe) (pi_tup h.pe), fun {μ Hd H σ E ds E'} R e Q q => by
  obtain ⟨d, E1, e1, e2⟩ := bindM_some e
  obtain ⟨r, E2, e3, e4⟩ := bindM_some e1
  cases d with
  | lst xs =>
    cases e2
    refine .inl (h.em R e3 _ fun μ1 Hd1 H1 v g1 R1 r1 => ?_)
    obtain ⟨Hd2, g2, R2, r2⟩ := fzM_ok R1 r1 e4
    obtain ⟨a, vs, rfl, h2, h3⟩ := r2
    exact ⟨a, rfl, ⟨vs, sq_of (R2.wo.ex a _ h2)⟩, q μ1 Hd2 H1 _ (g1.trans g2) R2 (serves_l (sq_of h2) h3)⟩
  | sq xs =>
    cases e2
    refine .inl (h.em R e3 _ fun μ1 Hd1 H1 v g1 R1 r1 => ?_)
    obtain ⟨Hd2, g2, R2, r2⟩ := fzM_ok R1 r1 e4
    obtain ⟨a, vs, rfl, h2, h3⟩ := r2
    exact ⟨a, rfl, ⟨vs, exs_l R2.wo.ex h2⟩, q μ1 Hd2 H1 _ (g1.trans g2) R2 (serves_l h2 h3)⟩
  | tup xs =>
    cases e2
    refine .inr (h.em R e3 _ fun μ1 Hd1 H1 v g1 R1 r1 => ?_)
    obtain ⟨Hd2, g2, R2, r2⟩ := fzM_ok R1 r1 e4
    obtain ⟨a, vs, rfl, h2, h3⟩ := r2
    exact ⟨a, rfl, ⟨vs, exs_t R2.wo.ex h2⟩, q μ1 Hd2 H1 _ (g1.trans g2) R2 (serves_t h2 h3)⟩
  | _ => cases e2⟩
def rngL (lo : Int) (n : Nat) : List Dt := (List.range n).map fun (i : Nat) => .int (lo + (i : Int))
theorem serves_r {K : PySem.W.Frag} {Hd : Hp} (lo : Int) (n : Nat) : Serves (Itr lo n) K Hd (rngL lo n) := fun Hd1 H1 i e1 e2 => by
  have hl : (rngL lo n).length = n := by simp [rngL]
  refine ⟨fun h => by rw [hl] at h; exact h, fun d hd => ?_⟩
  have hi : i < n := by
    have := (List.getElem?_eq_some_iff.mp hd).1
    omega
  refine ⟨hi, fun x H' ⟨q1, q2⟩ => ⟨Hd1, .inl ⟨q1, rfl⟩, ?_⟩⟩
  have e : d = .int (lo + (i : Int)) := by
    unfold rngL at hd
    rw [List.getElem?_map, List.getElem?_range hi] at hd
    exact (Option.some.inj hd).symm
  subst e q2
  exact rfl
def rng1M (m : M (List Vl)) : M (List Dt) := bindM m fun rs => match rs with
  | [.d (.int n)] => fun E => if -(2 ^ 62) ≤ n ∧ n < 2 ^ 62 then some (rngL 0 n.toNat, E) else none
  | _ => failM
theorem irng1 {p : Pos} (hm : X.mg "range" = none) (ha : Ax X [a] tes mes) (hg : Gl X "range" := by rfl) (hs : starEach [a] X.env = [(false, eval a X.env)] := by rfl) : Ix_ X tg (.Call (.Name "range" p) [a] [] pos) (iRng1 tes) (rng1M mes) := ⟨pi_range1 hg hm ha.pa hs, fun {μ Hd H σ E ds E'} R e Q q => by
  obtain ⟨rs, E1, e1, e2⟩ := bindM_some e
  split at e2
  · rename_i n
    split at e2
    · rename_i hn
      cases e2
      refine ha.am R e1 _ fun μ1 Hd1 H1 vs g1 R1 r1 => ?_
      cases r1 with
      | cons p1 t =>
        cases t
        cases (show _ = V.int n from p1)
        exact ⟨n, rfl, hn.1, hn.2, q μ1 Hd1 H1 _ g1 R1 (serves_r 0 n.toNat)⟩
    · cases e2
  · cases e2⟩
def rng2M (m : M (List Vl)) : M (List Dt) := bindM m fun rs => match rs with
  | [.d (.int i), .d (.int j)] => fun E => if -(2 ^ 62) ≤ i ∧ i < 2 ^ 62 ∧ -(2 ^ 62) ≤ j ∧ j < 2 ^ 62 then some (rngL i (j - i).toNat, E) else none
  | _ => failM
theorem irng2 {p : Pos} (hm : X.mg "range" = none) (ha : Ax X [a, b] tes mes) (hg : Gl X "range" := by rfl) (hs : starEach [a, b] X.env = [(false, eval a X.env), (false, eval b X.env)] := by rfl) (hs2 : starEach [b] X.env = [(false, eval b X.env)] := by rfl) : Ix_ X tg (.Call (.Name "range" p) [a, b] [] pos) (iRng2 tes) (rng2M mes) := ⟨pi_range2 hg hm ha.pa hs hs2, fun {μ Hd H σ E ds E'} R e Q q => by
  obtain ⟨rs, E1, e1, e2⟩ := bindM_some e
  split at e2
  · rename_i i j
    split at e2
    · rename_i hn
      cases e2
      refine ha.am R e1 _ fun μ1 Hd1 H1 vs g1 R1 r1 => ?_
      cases r1 with
      | cons p1 t =>
        cases t with
        | cons p2 t2 =>
          cases t2
          cases (show _ = V.int i from p1)
          cases (show _ = V.int j from p2)
          exact ⟨i, j, rfl, hn, q μ1 Hd1 H1 _ g1 R1 (serves_r i (j - i).toNat)⟩
    · cases e2
  · cases e2⟩
end

/-! ### a def's promise: what it does to values and cells -/
abbrev Fn := List Vl → List Ce → Option (Vl × List Ce)
def spM (K : PySem.W.Frag) (n : Nat) (G : Fn) : Sp := fun vs H Q _ => vs.length = n ∧ ∃ (μ : List Addr) (Hd : Hp) (ce : List Ce) (rs : List Vl) (z : Vl) (ce' : List Ce), Wo K μ Hd H ce ∧ RvA K μ Hd rs vs ∧ G rs ce = some (z, ce') ∧
  ∀ μ' Hd' H' v, Gr μ Hd μ' Hd' → Wo K μ' Hd' H' ce' → Rv K μ' Hd' z v → Q v H'
/-- back in the caller: the cells that it knew, and the one that is handed back -/
def trimC (n : Nat) (z : Vl) (ce : List Ce) : Option (Vl × List Ce) := match z with
  | .d d => some (.d d, ce.take n)
  | .c k => if k < n then some (.c k, ce.take n) else match ce[k]? with
    | some c => some (.c n, ce.take n ++ [c])
    | none => none
  | .t _ => none
theorem Wo.trim {K : PySem.W.Frag} {μ0 μ : List Addr} {Hd0 Hd H : Hp} {ce : List Ce} {n : Nat} {z z' : Vl} {v : V} {ce' : List Ce} (w : Wo K μ Hd H ce) (g : Gr μ0 Hd0 μ Hd) (hn : μ0.length = n) (hv : Rv K μ Hd z v) (h : trimC n z ce = some (z', ce')) :
    ∃ μ', Gr μ0 Hd0 μ' Hd ∧ Wo K μ' Hd H ce' ∧ Rv K μ' Hd z' v := by
  have hle : n ≤ μ.length := by
    rw [← hn]
    cases n with
    | zero => omega
    | succ n =>
      have h1 : μ0[n]? = some (μ0[n]'(by omega)) := List.getElem?_eq_getElem (by omega)
      have := (List.getElem?_eq_some_iff.mp (g.pre n _ h1)).1
      omega
  have pre : ∀ (k : Nat) (a : Addr), μ0[k]? = some a → (μ.take n)[k]? = some a := fun k a hk => by
    have := (List.getElem?_eq_some_iff.mp hk).1
    rw [List.getElem?_take_of_lt (by omega)]
    exact g.pre k a hk
  have tk : ∀ {α : Type} {l : List α} {k : Nat} {x : α}, (l.take n)[k]? = some x → l[k]? = some x := fun {α l k x} h => by
    rw [List.getElem?_take] at h
    split at h
    · exact h
    · cases h
  have wt : Wo K (μ.take n) Hd H (ce.take n) := ⟨w.ex, by rw [List.length_take, List.length_take, w.len], fun k a ks ds h1 h2 => ⟨(w.lk k a ks ds (tk h1) (tk h2)).1, fun j ks' ds' h3 h4 => (w.lk k a ks ds (tk h1) (tk h2)).2 j ks' ds' (tk h3) (tk h4)⟩, fun k c a h1 h2 => w.at_ k c a (tk h1) (tk h2), fun j k a c e h1 h2 h3 h4 => w.inj j k a c e (tk h1) (tk h2) (tk h3) (tk h4)⟩
  unfold trimC at h
  cases z with
  | t rs => cases h
  | d d =>
    cases h
    exact ⟨μ.take n, ⟨pre, g.ex⟩, wt, hv⟩
  | c k =>
    obtain ⟨a, ha, rfl⟩ := hv
    have h : (if k < n then some (Vl.c k, ce.take n) else match ce[k]? with
      | some c => some (.c n, ce.take n ++ [c])
      | none => none) = some (z', ce') := h
    by_cases hk : k < n
    · rw [if_pos hk] at h
      cases h
      exact ⟨μ.take n, ⟨pre, g.ex⟩, wt, a, by rw [List.getElem?_take_of_lt hk]; exact ha, rfl⟩
    · rw [if_neg hk] at h
      cases hc : ce[k]? with
      | none =>
        rw [hc] at h
        cases h
      | some c =>
        rw [hc] at h
        cases h
        have lt : (μ.take n).length = n := by rw [List.length_take]; omega
        have lc : (ce.take n).length = n := by rw [List.length_take, ← w.len]; omega
        refine ⟨μ.take n ++ [a], ⟨fun j b hj => pre_app j b (pre j b hj), g.ex⟩, ⟨w.ex, by rw [List.length_append, List.length_append, lt, lc]; rfl, fun j b ks ds h1 h2 => ?_, fun j e b h1 h2 => ?_, fun i j b e f h1 h2 h3 h4 l1 l2 => ?_⟩, a, ?_, rfl⟩
        · have cs : ∀ {i : Nat} {b : Addr} {e : Ce}, (μ.take n ++ [a])[i]? = some b → (ce.take n ++ [c])[i]? = some e → (i < n ∧ μ[i]? = some b ∧ ce[i]? = some e) ∨ (i = n ∧ μ[k]? = some b ∧ ce[k]? = some e) := fun {i b e} h1 h2 => by
            rcases get_append_one h1 with h1 | ⟨h1, q1⟩ <;> rcases get_append_one h2 with h2 | ⟨h2, q2⟩
            · have := (List.getElem?_eq_some_iff.mp h1).1
              exact .inl ⟨by omega, tk h1, tk h2⟩
            · have := (List.getElem?_eq_some_iff.mp h1).1
              omega
            · have := (List.getElem?_eq_some_iff.mp h2).1
              omega
            · exact .inr ⟨by omega, by rw [q1]; exact ha, by rw [q2]; exact hc⟩
          rcases cs h2 h1 with ⟨i1, i2, i3⟩ | ⟨i1, i2, i3⟩
          · obtain ⟨q1, uq⟩ := w.lk j b ks ds i3 i2
            refine ⟨q1, fun i ks' ds' h3 h4 => ?_⟩
            rcases cs h4 h3 with ⟨j1, j2, j3⟩ | ⟨j1, j2, j3⟩
            · exact uq i ks' ds' j3 j2
            · have := uq k ks' ds' j3 j2
              omega
          · obtain ⟨q1, uq⟩ := w.lk k b ks ds i3 i2
            refine ⟨q1, fun i ks' ds' h3 h4 => ?_⟩
            rcases cs h4 h3 with ⟨j1, j2, j3⟩ | ⟨j1, j2, j3⟩
            · have := uq i ks' ds' j3 j2
              omega
            · omega
        · rcases get_append_one h1 with h1 | ⟨h1, rfl⟩ <;> rcases get_append_one h2 with h2 | ⟨h2, rfl⟩
          · exact w.at_ j e b (tk h1) (tk h2)
          · have := (List.getElem?_eq_some_iff.mp h1).1
            omega
          · have := (List.getElem?_eq_some_iff.mp h2).1
            omega
          · exact w.at_ k e b hc ha
        · have cs : ∀ {i : Nat} {b : Addr} {e : Ce}, (μ.take n ++ [a])[i]? = some b → (ce.take n ++ [c])[i]? = some e → (i < n ∧ μ[i]? = some b ∧ ce[i]? = some e) ∨ (i = n ∧ μ[k]? = some b ∧ ce[k]? = some e) := fun {i b e} h1 h2 => by
            rcases get_append_one h1 with h1 | ⟨h1, q1⟩ <;> rcases get_append_one h2 with h2 | ⟨h2, q2⟩
            · have := (List.getElem?_eq_some_iff.mp h1).1
              exact .inl ⟨by omega, tk h1, tk h2⟩
            · have := (List.getElem?_eq_some_iff.mp h1).1
              omega
            · have := (List.getElem?_eq_some_iff.mp h2).1
              omega
            · exact .inr ⟨by omega, by rw [q1]; exact ha, by rw [q2]; exact hc⟩
          rcases cs h1 h3 with ⟨i1, i2, i3⟩ | ⟨i1, i2, i3⟩ <;> rcases cs h2 h4 with ⟨j1, j2, j3⟩ | ⟨j1, j2, j3⟩
          · exact w.inj i j b e f i2 j2 i3 j3 l1 l2
          · have q : i = k := w.inj i k b e f i2 j2 i3 j3 l1 l2
            omega
          · have q : k = j := w.inj k j b e f i2 j2 i3 j3 l1 l2
            omega
          · omega
        · have q : (μ.take n ++ [a])[(μ.take n).length]? = some a := by simp
          rw [lt] at q
          exact q
/-- a body as a function: nl local names beside the parameters -/
def fnOf (nl : Nat) (m : En → Option Rs) : Fn := fun rs ce => match m ⟨rs.map some ++ List.replicate nl none, ce⟩ with
  | some (.rt z E) => trimC ce.length z E.ce
  | some (.nx E) => trimC ce.length (.d .non) E.ce
  | _ => none
theorem sl_start {K : PySem.W.Frag} {μ : List Addr} {Hd : Hp} {nl : Nat} : ∀ {rs : List Vl} {vs : List V}, RvA K μ Hd rs vs → Sl K μ Hd (vs.map some ++ List.replicate nl none) (rs.map some ++ List.replicate nl none) := fun {rs vs} h => by
  refine ⟨by rw [List.length_append, List.length_append, List.length_map, List.length_map, h.len, List.length_replicate, List.length_replicate], ?_⟩
  induction h with
  | nil =>
    intro i r e
    have e : (List.replicate nl (none : Option Vl))[i]? = some (some r) := e
    rw [List.getElem?_replicate] at e
    split at e <;> cases e
  | cons h1 t ih =>
    intro i r e
    cases i with
    | zero =>
      cases e
      exact ⟨_, rfl, h1⟩
    | succ i => exact ih i r e
theorem run_fn {K : PySem.W.Frag} {nl n : Nat} {N : List Str} {ts : TS} {m : En → Option Rs} {vs : List V} {H : Hp} {Q : VK} {E : XK} (hm : SM K ts m) (hN : N.length = n + nl) (h : spM K n (fnOf nl m) vs H Q E) : ts { nx := fun _ H' => Q .non H', rt := Q } (L2.start N vs) H := by
  obtain ⟨hl, μ, Hd, ce, rs, z, ce', w, hr, e, q⟩ := h
  have es : L2.start N vs = vs.map some ++ List.replicate nl none := by
    unfold L2.start
    rw [hN, hl, Nat.add_sub_cancel_left]
  rw [es]
  unfold fnOf at e
  have R0 : Rl K μ Hd H (vs.map some ++ List.replicate nl none) ⟨rs.map some ++ List.replicate nl none, ce⟩ := ⟨w, sl_start hr⟩
  cases e1 : m ⟨rs.map some ++ List.replicate nl none, ce⟩ with
  | none =>
    rw [e1] at e
    cases e
  | some R =>
    rw [e1] at e
    refine hm R0 e1 _ ?_
    cases R with
    | rt z0 E1 =>
      exact fun μ1 Hd1 H1 σ1 v g1 R1 r1 => by
        obtain ⟨μ2, g2, w2, r2⟩ := R1.wo.trim g1 w.len r1 e
        exact q μ2 Hd1 H1 v g2 w2 r2
    | nx E1 =>
      exact fun μ1 Hd1 H1 σ1 g1 R1 => by
        obtain ⟨μ2, g2, w2, r2⟩ := R1.wo.trim g1 w.len (z := .d .non) (v := .non) (rfl : V.non = .non) e
        exact q μ2 Hd1 H1 .non g2 w2 r2
    | bk E1 => cases e
    | ct E1 => cases e
theorem spM_len {K : PySem.W.Frag} {n : Nat} {G : Fn} {ps : List Str} (hp : ps.length = n) : ∀ vs H Q E, spM K n G vs H Q E → vs.length = ps.length := fun vs H Q E h => by rw [hp]; exact h.1
/-- a call of a def -/
def callM (G : Fn) (m : M (List Vl)) : M Vl := bindM m fun rs => fun E => match G rs E.ce with
  | some (z, ce) => some (z, ⟨E.sl, ce⟩)
  | none => none
section
variable {X : Cx} {e : Expr} {es : List Expr} {tes : TA} {mes : M (List Vl)} {pos : Pos}
theorem em_call {K : PySem.W.Frag} {G : Fn} {n : Nat} {ta : TA} {ma : M (List Vl)} {E0 : XK} (hn : ∀ E rs E', ma E = some (rs, E') → rs.length = n) (h : AM K ta ma) : EM K (tCall (spM K n G) [] E0 ta) (callM G ma) := fun {μ Hd H σ E r E'} R q Q k => by
  obtain ⟨rs, E1, e1, e2⟩ := bindM_some q
  cases e3 : G rs E1.ce with
  | none =>
    rw [e3] at e2
    cases e2
  | some p =>
    obtain ⟨z, ce⟩ := p
    rw [e3] at e2
    cases e2
    refine h R e1 _ fun μ1 Hd1 H1 vs g1 R1 r1 => ?_
    rw [List.append_nil]
    exact ⟨by rw [r1.len, hn _ _ _ e1], μ1, Hd1, E1.ce, rs, r, ce, R1.wo, r1, e3, fun μ2 Hd2 H2 v g2 w2 r2 => k μ2 Hd2 H2 v (g1.trans g2) ⟨w2, R1.sl.gr g2⟩ r2⟩
theorem nil_len {n : Nat} (h : n = 0) : ∀ (E : En) (rs : List Vl) (E' : En), (retM [] : M (List Vl)) E = some (rs, E') → rs.length = n := fun E rs E' e => by
  cases e
  rw [h]
  rfl
theorem cons_len {n k : Nat} {m : M Vl} {ms : M (List Vl)} (h : ∀ (E : En) (rs : List Vl) (E' : En), ms E = some (rs, E') → rs.length = n) (hk : k = n + 1) : ∀ (E : En) (rs : List Vl) (E' : En), consM m ms E = some (rs, E') → rs.length = k := fun E rs E' e => by
  obtain ⟨x, E1, e1, e⟩ := bindM_some e
  obtain ⟨xs, E2, e2, e⟩ := bindM_some e
  cases e
  rw [List.length_cons, h _ _ _ e2, hk]
end
end Hk
/-! HkT: tuple * int, also by 1, by 0 and below. -/
namespace Hk
open PySem PySem.Spec PyProof.Rows L2 Evl
theorem tuple_mul1 (l : Addr) (items : Array Value) (n : Nat) (dd : Option Addr) (sl : Array (Option Value)) (x : Int) (u : Tok) (c0 : (decide (x < -(2 ^ 63)) || decide (x ≥ 2 ^ 63)) = false) (c1 : (items.isEmpty || x == 1) = true) :
    Meets (Builtin.«tuple.__mul__» ⟨[.ref l, .int x u], []⟩) (fun _ R s => s.heap.get? l = some { cls := .type "tuple", dict := dd, data := .seq items n, slots := sl } ∧ R (.ok (.ret (Value.ref l))) { s with heap := s.heap, toks := s.toks }) :=
  .of_wp fun prog w A R s h => by
    obtain ⟨hp, g, d, tk, os⟩ := s
    obtain ⟨hl, h⟩ := h
    have f1 := AutoSeq1.idx_int
    wp_walk using wpAny_loadPart' hl
    repeat (first
      | (refine wpAny_ite_false (decide_eq_false (by rw [c0]; exact Bool.false_ne_true)) ?_; wp_walk using wpAny_loadPart' hl)
      | (refine wpAny_ite_true (decide_eq_true (by rw [c1])) ?_; wp_walk using wpAny_loadPart' hl))
    exact ⟨_, rfl, h⟩
theorem tuple_mul0 (l : Addr) (items : Array Value) (n : Nat) (dd : Option Addr) (sl : Array (Option Value)) (x : Int) (u : Tok) (c0 : (decide (x < -(2 ^ 63)) || decide (x ≥ 2 ^ 63)) = false) (c1 : (items.isEmpty || x == 1) = false) (c2 : (decide (x ≤ 0) || items.isEmpty) = true) :
    Meets (Builtin.«tuple.__mul__» ⟨[.ref l, .int x u], []⟩) (fun _ R s => s.heap.get? l = some { cls := .type "tuple", dict := dd, data := .seq items n, slots := sl } ∧
      R (.ok (.ret (Value.ref s.heap.objs.size))) { s with heap := s.heap.push { cls := Value.type "tuple", data := Data.seq #[] }, toks := s.toks }) :=
  .of_wp fun prog w A R s h => by
    obtain ⟨hp, g, d, tk, os⟩ := s
    obtain ⟨hl, h⟩ := h
    have f1 := AutoSeq1.idx_int
    wp_walk using wpAny_loadPart' hl
    repeat (first
      | (refine wpAny_ite_false (decide_eq_false (by rw [c0]; exact Bool.false_ne_true)) ?_; wp_walk using wpAny_loadPart' hl)
      | (refine wpAny_ite_false (decide_eq_false (by rw [c1]; exact Bool.false_ne_true)) ?_; wp_walk using wpAny_loadPart' hl)
      | (refine wpAny_ite_true (decide_eq_true (by rw [c2])) ?_; wp_walk using wpAny_loadPart' hl))
    exact ⟨_, rfl, h⟩
def rRepU (K : PySem.W.Frag) : R2 := fun x y H Q => ∃ l k xs, x = .ref l ∧ y = .int k ∧ SqT K H l xs ∧ xs ≠ [] ∧ -1000 ≤ k ∧ k ≤ 1000 ∧ xs.length ≤ 1000 ∧ (k = 1 → Q (.ref l) H) ∧ (k ≠ 1 → ∀ p, H p = none → Q (.ref p) (upd H p (.tup (List.replicate k.toNat xs).flatten)))
section
variable {X : Cx}
theorem op_repU : OpR X (binaryOp .Mult) (rRepU X.K) := by
  intro pins s σ H x y v u Q I rx ry h
  obtain ⟨l, k, xs, rfl, rfl, hT, hne, h1, h2, hz, q1, q⟩ := h
  by_cases hk : 2 ≤ k
  · exact op_repT pins s σ H _ _ v u Q I rx ry ⟨l, k, xs, rfl, rfl, hT, hne, hk, h2, hz, q (by omega)⟩
  cases rx
  obtain ⟨t, rfl⟩ := ry
  obtain ⟨its, r, ⟨⟨cls, dd, data, sl⟩, ho, hc, n, hd⟩, hs⟩ := I.tuple hT
  simp only at hc hd
  subst hc hd
  have hle : its.length = xs.length := r.length.symm
  have hn : its ≠ [] := fun e => hne (by
    rw [e] at hle
    exact List.eq_nil_of_length_eq_zero hle.symm)
  have hi : its.toArray.isEmpty = false := by
    cases its with
    | nil => exact absurd rfl hn
    | cons a b => rfl
  have c0 : (decide (k < -(2 ^ 63)) || decide (k ≥ 2 ^ 63)) = false := by
    rw [decide_eq_false (by omega), decide_eq_false (by omega)] <;> rfl
  by_cases hk1 : k = 1
  · have c1 : (its.toArray.isEmpty || k == 1) = true := by
      rw [hk1]
      cases its.toArray.isEmpty <;> rfl
    exact wpAny_binaryOp_repeat_ref (T := "tuple") (U := "int") (by decide) ⟨_, ho, rfl⟩ (fun s' => typeIs_int s' k t) noFill_tuple_mul F.fills_int_mul F.slot_int_rmul repeat_tuple F.slot_int_index.lookup
      (call_meets F.slot_int_rmul (typeIs_int s k t) F.entry_int_rmul (F.args_int_rmul_2 _ _) (int_rmul_tuple k t l its.toArray n dd sl)
        ⟨ho, rfl, ⟨_, ho, rfl⟩, call_meets F.slot_tuple_mul ⟨_, ho, rfl⟩ F.entry_tuple_mul (F.args_tuple_mul_2 _ _) (tuple_mul1 l its.toArray n dd sl k t c0 c1) ⟨ho, ⟨.ref l, H, I.tok _, rfl, q1 hk1⟩⟩⟩)
  · have c1 : (its.toArray.isEmpty || k == 1) = false := by
      rw [hi, Bool.false_or]
      exact beq_eq_false_iff_ne.mpr hk1
    have c2 : (decide (k ≤ 0) || its.toArray.isEmpty) = true := by
      rw [decide_eq_true (by omega)] <;> rfl
    refine wpAny_binaryOp_repeat_ref (T := "tuple") (U := "int") (by decide) ⟨_, ho, rfl⟩ (fun s' => typeIs_int s' k t) noFill_tuple_mul F.fills_int_mul F.slot_int_rmul repeat_tuple F.slot_int_index.lookup
      (call_meets F.slot_int_rmul (typeIs_int s k t) F.entry_int_rmul (F.args_int_rmul_2 _ _) (int_rmul_tuple k t l its.toArray n dd sl)
        ⟨ho, rfl, ⟨_, ho, rfl⟩, call_meets F.slot_tuple_mul ⟨_, ho, rfl⟩ F.entry_tuple_mul (F.args_tuple_mul_2 _ _) (tuple_mul0 l its.toArray n dd sl k t c0 c1 c2) ⟨ho, ?_⟩⟩)
    have e0 : (List.replicate k.toNat xs).flatten = [] := by
      have : k.toNat = 0 := by omega
      rw [this]
      rfl
    have q2 := q hk1
    rw [e0] at q2
    refine ⟨.ref s.heap.objs.size, _, I.laid (t' := s.toks) (o := .tup []) (fun b ob q => Heap.get?_push_of_some _ q) (Nat.le_refl _) ?_, rfl, q2 _ (I.hok.fresh (Nat.le_refl _))⟩
    exact ⟨Nat.zero_le _, [], .nil, IsTup.new _ _⟩
end
end Hk
/-! Hk4: operators, comparisons, items, slices, built-ins, a list's methods. -/
namespace Hk
open PySem PySem.Spec PyProof.Rows L2 Evl

def rNoU : R2 := fun x y H Q => y = .non ∧ Q (.bl (decide (x = .non))) H
def rNotNoU : R2 := fun x y H Q => y = .non ∧ Q (.bl (!decide (x = .non))) H
def rLenU (K : PySem.W.Frag) : List V → Hp → VK → Prop := fun xs H Q => ∃ x n, xs = [x] ∧ LenV K x H n ∧ Q (.int n) H
def rAbsU : List V → Hp → VK → Prop := fun xs H Q => ∃ i, xs = [.int i] ∧ Q (.int (if i < 0 then -i else i)) H
def rIntU : List V → Hp → VK → Prop := fun xs H Q => (∃ i, xs = [.int i] ∧ Q (.int i) H) ∨ ∃ k, xs = [.bl k] ∧ Q (.int (if k then 1 else 0)) H
def rMinU : List V → Hp → VK → Prop := fun xs H Q => ∃ i j, xs = [.int i, .int j] ∧ Q (.int (if j < i then j else i)) H
def rMaxU : List V → Hp → VK → Prop := fun xs H Q => ∃ i j, xs = [.int i, .int j] ∧ Q (.int (if j > i then j else i)) H
def rListU (K : PySem.W.Frag) : List V → Hp → VK → Prop := fun xs H Q => ∃ p ys, xs = [.ref p] ∧ (SqL K H p ys ∨ SqT K H p ys) ∧ ∀ l, H l = none → Q (.ref l) (upd H l (.lst ys))
def rTupU (K : PySem.W.Frag) : List V → Hp → VK → Prop := fun xs H Q => ∃ p ys, xs = [.ref p] ∧ ((SqL K H p ys ∧ ∀ l, H l = none → Q (.ref l) (upd H l (.tup ys))) ∨ (SqT K H p ys ∧ Q (.ref p) H))
theorem op_noU {X : Cx} : OpR X (compareOp .Is) rNoU := op_isN
theorem op_notNoU {X : Cx} : OpR X (compareOp .IsNot) rNotNoU := op_notN
theorem call_lenU {X : Cx} : CallR X (.builtin "len") (rLenU X.K) := call_len
theorem call_absU {X : Cx} : CallR X (.builtin "abs") rAbsU := call_abs
theorem call_intU {X : Cx} : CallR X (.type "int") rIntU := call_int1
theorem call_minU {X : Cx} (hc : X.calm = true) : CallR X (.builtin "min") rMinU := call_min2 hc
theorem call_maxU {X : Cx} (hc : X.calm = true) : CallR X (.builtin "max") rMaxU := call_max2 hc
theorem call_listU {X : Cx} : CallR X (.type "list") (rListU X.K) := call_list_of
theorem call_tupleU {X : Cx} : CallR X (.type "tuple") (rTupU X.K) := call_tuple_of

/-! ### data that can be compared -/
mutual
def toP : Dt → Option PyData
  | .non => some .none
  | .bl b => some (.bool b)
  | .int i => some (.int i)
  | .str s => some (.str s)
  | .lst xs => (toPA xs).map .list
  | .sq xs => (toPA xs).map .list
  | .tup xs => (toPA xs).map .tuple
  | _ => none
def toPA : List Dt → Option (List PyData)
  | [] => some []
  | d :: ds => match toP d, toPA ds with
    | some p, some ps => some (p :: ps)
    | _, _ => none
end
mutual
theorem toP_ok {K : PySem.W.Frag} {H : Hp} : ∀ (d : Dt) {v : V} {p : PyData}, Rp K H d v → toP d = some p → Dp K H v p
  | .non, v, p, h, e => by
    cases e
    cases (show v = .non from h)
    exact .non
  | .bl b, v, p, h, e => by
    cases e
    cases (show v = .bl b from h)
    exact .bl b
  | .int i, v, p, h, e => by
    cases e
    cases (show v = .int i from h)
    exact .int i
  | .str s, v, p, h, e => by
    cases e
    cases (show v = .str s from h)
    exact .str s
  | .lst xs, v, p, h, e => by
    obtain ⟨a, vs, rfl, h2, h3⟩ := h
    cases q : toPA xs with
    | none =>
      rw [toP, q] at e
      cases e
    | some ps =>
      rw [toP, q] at e
      cases e
      exact .lst (sq_of h2) (toPA_ok xs h3 q)
  | .sq xs, v, p, h, e => by
    obtain ⟨a, vs, rfl, h2, h3⟩ := h
    cases q : toPA xs with
    | none =>
      rw [toP, q] at e
      cases e
    | some ps =>
      rw [toP, q] at e
      cases e
      exact .lst h2 (toPA_ok xs h3 q)
  | .tup xs, v, p, h, e => by
    obtain ⟨a, vs, rfl, h2, h3⟩ := h
    cases q : toPA xs with
    | none =>
      rw [toP, q] at e
      cases e
    | some ps =>
      rw [toP, q] at e
      cases e
      exact .tup h2 (toPA_ok xs h3 q)
  | .obj C ns ds, v, p, h, e => by
    simp [toP] at e
  | .dic ks ds, v, p, h, e => by
    simp [toP] at e
theorem toPA_ok {K : PySem.W.Frag} {H : Hp} : ∀ (ds : List Dt) {vs : List V} {ps : List PyData}, RpA K H ds vs → toPA ds = some ps → DpAll K H vs ps
  | [], vs, ps, h, e => by
    cases e
    rw [show vs = [] from h]
    exact .nil
  | d :: ds, vs, ps, h, e => by
    obtain ⟨x, r, rfl, h2, h3⟩ := h
    cases q1 : toP d with
    | none =>
      rw [toPA, q1] at e
      · cases e
      all_goals (intros; nofun)
    | some p1 =>
      cases q2 : toPA ds with
      | none =>
        simp [toPA, q1, q2] at e
      | some p2 =>
        rw [toPA, q1, q2] at e
        cases e
        exact .cons (toP_ok d h2 q1) (toPA_ok ds h3 q2)
end
def eqd (x y : Dt) : Option Bool := match toP x, toP y with
  | some p, some q => if SeqAt.shaped p = true ∧ SeqAt.shaped q = true then some (PyData.eqv p q) else none
  | _, _ => none
theorem eqd_some {x y : Dt} {b : Bool} (h : eqd x y = some b) : ∃ p q, toP x = some p ∧ toP y = some q ∧ SeqAt.shaped p = true ∧ SeqAt.shaped q = true ∧ b = PyData.eqv p q := by
  unfold eqd at h
  split at h
  · rename_i p q e1 e2
    split at h
    · rename_i hs
      cases h
      exact ⟨p, q, e1, e2, hs.1, hs.2, rfl⟩
    · cases h
  · cases h

section
variable {K : PySem.W.Frag}
/-- an operation that looks at two values and hands back data that has no parts -/
def op2 (f : Dt → Dt → Option Dt) : Vl → Vl → M Vl := fun x y E => match see E.ce x, see E.ce y with
  | some a, some b => (f a b).map fun d => (.d d, E)
  | _, _ => none
theorem op2_some {f : Dt → Dt → Option Dt} {x y z : Vl} {E E' : En} (h : op2 f x y E = some (z, E')) : ∃ a b d, see E.ce x = some a ∧ see E.ce y = some b ∧ f a b = some d ∧ z = .d d ∧ E' = E := by
  unfold op2 at h
  split at h
  · rename_i a b e1 e2
    cases q : f a b with
    | none =>
      rw [q] at h
      cases h
    | some d =>
      rw [q] at h
      cases h
      exact ⟨a, b, d, e1, e2, q, rfl, rfl⟩
  · cases h
theorem om_op2 {r : R2} {f : Dt → Dt → Option Dt} (h : ∀ (H : Hp) (a b d : Dt) (vx vy : V), Rp K H a vx → Rp K H b vy → f a b = some d → ∀ Q : VK, (∀ v, (∀ H', Rp K H' d v) → Q v H) → r vx vy H Q) : OM K r (op2 f) := fun {μ Hd H σ E x y vx vy z E'} R hx hy e Q q => by
  obtain ⟨a, b, d, e1, e2, e3, rfl, rfl⟩ := op2_some e
  exact h H a b d vx vy (see_ok R.wo hx e1) (see_ok R.wo hy e2) e3 Q fun v hv => q μ Hd H v (Gr.refl μ Hd) R (hv Hd)
theorem om_or {r r' : R2} {f : Vl → Vl → M Vl} {g g' : Vl → Vl → M Vl} (h : OM K r g) (h' : OM K r' g') (hf : ∀ x y E z E', f x y E = some (z, E') → g x y E = some (z, E') ∨ g' x y E = some (z, E')) : OM K (fun x y H Q => r x y H Q ∨ r' x y H Q) f := fun {μ Hd H σ E x y vx vy z E'} R hx hy e Q q => by
  rcases hf _ _ _ _ _ e with e | e
  · exact .inl (h R hx hy e Q q)
  · exact .inr (h' R hx hy e Q q)

/-! ### comparisons -/
def eqF : Dt → Dt → Option Dt := fun x y => (eqd x y).map .bl
def neF : Dt → Dt → Option Dt := fun x y => (eqd x y).map fun b => .bl (!b)
theorem om_eq : OM K (rEqD K) (op2 eqF) := om_op2 fun H a b d vx vy ha hb e Q q => by
  unfold eqF at e
  cases e1 : eqd a b with
  | none =>
    rw [e1] at e
    cases e
  | some k =>
    rw [e1] at e
    cases e
    obtain ⟨p1, p2, h1, h2, s1, s2, rfl⟩ := eqd_some e1
    exact ⟨p1, p2, toP_ok a ha h1, toP_ok b hb h2, s1, s2, q _ fun _ => rfl⟩
theorem om_ne : OM K (rNeD K) (op2 neF) := om_op2 fun H a b d vx vy ha hb e Q q => by
  unfold neF at e
  cases e1 : eqd a b with
  | none =>
    rw [e1] at e
    cases e
  | some k =>
    rw [e1] at e
    cases e
    obtain ⟨p1, p2, h1, h2, s1, s2, rfl⟩ := eqd_some e1
    exact ⟨p1, p2, toP_ok a ha h1, toP_ok b hb h2, s1, s2, q _ fun _ => rfl⟩
/-- of two ints -/
def intF (g : Int → Int → Option Dt) : Dt → Dt → Option Dt
  | .int i, .int j => g i j
  | _, _ => none
theorem intF_some {g : Int → Int → Option Dt} {a b d : Dt} (h : intF g a b = some d) : ∃ i j, a = .int i ∧ b = .int j ∧ g i j = some d := by
  unfold intF at h
  split at h
  · exact ⟨_, _, rfl, rfl, h⟩
  · cases h
theorem om_intB {f : Int → Int → Bool} : OM K (rI0 fun i j => .bl (f i j)) (op2 (intF fun i j => some (.bl (f i j)))) := om_op2 fun H a b d vx vy ha hb e Q q => by
  obtain ⟨i, j, rfl, rfl, e⟩ := intF_some e
  cases e
  exact ⟨i, j, ha, hb, q _ fun _ => rfl⟩
theorem om_intI0 {f : Int → Int → Int} : OM K (rI0 fun i j => .int (f i j)) (op2 (intF fun i j => some (.int (f i j)))) := om_op2 fun H a b d vx vy ha hb e Q q => by
  obtain ⟨i, j, rfl, rfl, e⟩ := intF_some e
  cases e
  exact ⟨i, j, ha, hb, q _ fun _ => rfl⟩
theorem om_intI {C : Int → Int → Prop} [∀ i j, Decidable (C i j)] {f : Int → Int → Int} : OM K (rI C fun i j => .int (f i j)) (op2 (intF fun i j => if C i j then some (.int (f i j)) else none)) := om_op2 fun H a b d vx vy ha hb e Q q => by
  obtain ⟨i, j, rfl, rfl, e2⟩ := intF_some e
  split at e2
  · rename_i hc
    cases e2
    exact ⟨i, j, ha, hb, hc, q _ fun _ => rfl⟩
  · cases e2
abbrev ltF := intF fun i j => some (.bl (decide (i < j)))
abbrev leF := intF fun i j => some (.bl (decide (i ≤ j)))
abbrev gtF := intF fun i j => some (.bl (decide (j < i)))
abbrev geF := intF fun i j => some (.bl (decide (j ≤ i)))
instance : ∀ i j, Decidable (CDivN i j) := fun i j => by unfold CDivN; infer_instance
instance : ∀ i j, Decidable (CPow i j) := fun i j => by unfold CPow; infer_instance
instance : ∀ i j, Decidable (CMul i j) := fun i j => by unfold CMul; infer_instance
instance : ∀ (i j : Int), Decidable ((fun _ j => j ≠ 0 : Int → Int → Prop) i j) := fun i j => by show Decidable (j ≠ 0); infer_instance
abbrev modF := intF fun i j => if (fun _ j => j ≠ 0 : Int → Int → Prop) i j then some (.int (i.fmod j)) else none
abbrev fdivF := intF fun i j => if CDivN i j then some (.int (i.fdiv j)) else none
abbrev powF := intF fun i j => if CPow i j then some (.int (i ^ j.toNat)) else none
abbrev subF := intF fun i j => some (.int (i - j))
/-- is None -/
def isNF (neg : Bool) : Dt → Dt → Option Dt := fun x y => match y with
  | .non => match x with
    | .non => some (.bl (!neg))
    | _ => some (.bl neg)
  | _ => none
theorem Rp.non_iff {H : Hp} : ∀ {d : Dt} {v : V}, Rp K H d v → (v = .non ↔ d = .non) := fun {d v} h => by
  cases d with
  | non => exact ⟨fun _ => rfl, fun _ => h⟩
  | bl b => exact ⟨fun e => (by rw [e] at h; cases h), fun e => (by cases e)⟩
  | int b => exact ⟨fun e => (by rw [e] at h; cases h), fun e => (by cases e)⟩
  | str b => exact ⟨fun e => (by rw [e] at h; cases h), fun e => (by cases e)⟩
  | lst b => exact ⟨fun e => (by obtain ⟨a, _, h, _⟩ := h; rw [e] at h; cases h), fun e => (by cases e)⟩
  | sq b => exact ⟨fun e => (by obtain ⟨a, _, h, _⟩ := h; rw [e] at h; cases h), fun e => (by cases e)⟩
  | tup b => exact ⟨fun e => (by obtain ⟨a, _, h, _⟩ := h; rw [e] at h; cases h), fun e => (by cases e)⟩
  | obj b c d => exact ⟨fun e => (by obtain ⟨a, _, _, h, _⟩ := h; rw [e] at h; cases h), fun e => (by cases e)⟩
  | dic b c => exact ⟨fun e => (by obtain ⟨a, _, h, _⟩ := h; rw [e] at h; cases h), fun e => (by cases e)⟩
  | cls C => exact ⟨fun e => (by rw [e] at h; cases h), fun e => (by cases e)⟩
  | exc b c d => exact ⟨fun e => (by obtain ⟨a, _, h, _⟩ := h; rw [e] at h; cases h), fun e => (by cases e)⟩
theorem om_isN : OM K rNoU (op2 (isNF false)) := om_op2 (f := isNF false) fun H a b d vx vy ha hb e Q q => by
  have hn := Rp.non_iff ha
  unfold isNF at e
  split at e
  · refine ⟨hb, ?_⟩
    split at e
    · cases e
      rw [show decide (vx = V.non) = true from decide_eq_true (hn.mpr rfl)]
      exact q _ fun _ => rfl
    · rename_i hne
      cases e
      rw [show decide (vx = V.non) = false from decide_eq_false fun h => hne (hn.mp h)]
      exact q _ fun _ => rfl
  · cases e
theorem om_notN : OM K rNotNoU (op2 (isNF true)) := om_op2 (f := isNF true) fun H a b d vx vy ha hb e Q q => by
  have hn := Rp.non_iff ha
  unfold isNF at e
  split at e
  · refine ⟨hb, ?_⟩
    split at e
    · cases e
      rw [show decide (vx = V.non) = true from decide_eq_true (hn.mpr rfl)]
      exact q _ fun _ => rfl
    · rename_i hne
      cases e
      rw [show decide (vx = V.non) = false from decide_eq_false fun h => hne (hn.mp h)]
      exact q _ fun _ => rfl
  · cases e
/-- x in a list or tuple of flat things -/
def flD : Dt → Option V
  | .non => some .non
  | .bl b => some (.bl b)
  | .int i => some (.int i)
  | .str s => some (.str s)
  | _ => none
def flA : List Dt → Option (List V)
  | [] => some []
  | d :: ds => match flD d, flA ds with
    | some v, some vs => some (v :: vs)
    | _, _ => none
theorem flD_ok {H : Hp} {d : Dt} {v w : V} (h : Rp K H d v) (e : flD d = some w) : v = w ∧ flatV v = true := by
  unfold flD at e
  split at e <;> first | cases e | skip
  · exact ⟨h, by rw [show v = V.non from h]; rfl⟩
  · rename_i b
    exact ⟨h, by rw [show v = V.bl b from h]; rfl⟩
  · rename_i b
    exact ⟨h, by rw [show v = V.int b from h]; rfl⟩
  · rename_i b
    exact ⟨h, by rw [show v = V.str b from h]; rfl⟩
theorem flA_ok {H : Hp} : ∀ {ds : List Dt} {vs ws : List V}, RpA K H ds vs → flA ds = some ws → vs = ws ∧ vs.all flatV = true
  | [], vs, ws, h, e => by
    cases e
    rw [show vs = [] from h]
    exact ⟨rfl, rfl⟩
  | d :: ds, vs, ws, h, e => by
    obtain ⟨x, r, rfl, h2, h3⟩ := h
    unfold flA at e
    split at e
    · rename_i v us e1 e2
      cases e
      obtain ⟨p1, p2⟩ := flD_ok h2 e1
      obtain ⟨p3, p4⟩ := flA_ok h3 e2
      exact ⟨by rw [p1, p3], by rw [List.all_cons, p2, p4]; rfl⟩
    · cases e
def inF (neg : Bool) : Dt → Dt → Option Dt := fun x y => match flD x, itemsD y with
  | some v, some ds => match flA ds with
    | some vs => some (.bl (if neg then !inV v vs else inV v vs))
    | none => none
  | _, _ => none
theorem items_ok {H : Hp} {d : Dt} {v : V} {ds : List Dt} (h : Rp K H d v) (e : itemsD d = some ds) : ∃ a vs, v = .ref a ∧ (SqL K H a vs ∨ SqT K H a vs) ∧ RpA K H ds vs := by
  cases d with
  | lst xs =>
    cases e
    obtain ⟨a, vs, h1, h2, h3⟩ := h
    exact ⟨a, vs, h1, .inl (sq_of h2), h3⟩
  | sq xs =>
    cases e
    obtain ⟨a, vs, h1, h2, h3⟩ := h
    exact ⟨a, vs, h1, .inl h2, h3⟩
  | tup xs =>
    cases e
    obtain ⟨a, vs, h1, h2, h3⟩ := h
    exact ⟨a, vs, h1, .inr h2, h3⟩
  | _ => cases e
theorem om_in (neg : Bool) : OM K (rIn K neg) (op2 (inF neg)) := om_op2 fun H a b d vx vy ha hb e Q q => by
  unfold inF at e
  split at e
  · rename_i v ds e1 e2
    split at e
    · rename_i vs e3
      cases e
      obtain ⟨p, us, rfl, hs, hr⟩ := items_ok hb e2
      obtain ⟨rfl, f1⟩ := flD_ok ha e1
      obtain ⟨rfl, f2⟩ := flA_ok hr e3
      exact ⟨p, us, rfl, hs, f1, f2, q _ fun _ => rfl⟩
    · cases e
  · cases e

/-! ### + and * -/
def catStr : Dt → Dt → Option Dt
  | .str a, .str b => if a.length + b.length ≤ sizeLine then some (.str (a ++ b)) else none
  | _, _ => none
def addF : Vl → Vl → M Vl := fun x y E => match see E.ce x, see E.ce y with
  | some (.int i), some (.int j) => some (.d (.int (i + j)), E)
  | some (.str a), some (.str b) => if a.length + b.length ≤ sizeLine then some (.d (.str (a ++ b)), E) else none
  | some (.lst a), some (.lst b) => if a.length + b.length ≤ 100000 then newL (a ++ b) E else none
  | some (.tup a), some (.tup b) => if a.length + b.length ≤ 100000 then some (.d (.tup (a ++ b)), E) else none
  | _, _ => none
def rCatS : R2 := fun x y H Q => ∃ i j, x = .str i ∧ y = .str j ∧ i.length + j.length ≤ sizeLine ∧ Q (.str (i ++ j)) H
abbrev rAdd (K : PySem.W.Frag) : R2 := fun x y H Q => rI0 (fun i j => .int (i + j)) x y H Q ∨ rCatS x y H Q ∨ rCat x y H Q ∨ rCatA K x y H Q
theorem op_addU {X : Cx} : OpR X (binaryOp .Add) (rAdd X.K) := op_add.or (OpR.or (r := rCatS) op_add_str (op_cat.or op_catA))
theorem om_add : OM K (rAdd K) addF := fun {μ Hd H σ E x y vx vy z E'} R hx hy e Q q => by
  unfold addF at e
  split at e
  · rename_i i j e1 e2
    cases e
    exact .inl ⟨i, j, see_ok R.wo hx e1, see_ok R.wo hy e2, q μ Hd H _ (Gr.refl μ Hd) R rfl⟩
  · rename_i a b e1 e2
    split at e
    · rename_i hz
      cases e
      exact .inr (.inl ⟨a, b, see_ok R.wo hx e1, see_ok R.wo hy e2, hz, q μ Hd H _ (Gr.refl μ Hd) R rfl⟩)
    · cases e
  · rename_i a b e1 e2
    split at e
    · rename_i hz
      obtain ⟨p1, v1, rfl, h1, r1⟩ := see_lst R.wo hx e1
      obtain ⟨p2, v2, rfl, h2, r2⟩ := see_lst R.wo hy e2
      refine .inr (.inr (.inl ⟨p1, p2, v1, v2, rfl, rfl, h1, h2, by rw [r1.len, r2.len]; exact sz_of hz, fun p hp => ?_⟩))
      obtain ⟨g, R', r'⟩ := newL_ok R (r1.app r2) e hp
      exact q _ _ _ _ g R' r'
    · cases e
  · rename_i a b e1 e2
    split at e
    · rename_i hz
      cases e
      obtain ⟨p1, v1, rfl, h1, r1⟩ := see_tup R.wo hx e1
      obtain ⟨p2, v2, rfl, h2, r2⟩ := see_tup R.wo hy e2
      refine .inr (.inr (.inr ⟨p1, p2, v1, v2, rfl, rfl, h1, h2, by rw [r1.len, r2.len]; exact sz_of hz, fun hn => ?_, fun hn hm => ?_, fun hn hm p hp => ?_⟩))
      · have ea : a = [] := List.eq_nil_of_length_eq_zero (by rw [← r1.len, hn]; rfl)
        subst ea
        have q2 := see_flat e2
        subst q2
        exact q μ Hd H _ (Gr.refl μ Hd) R hy
      · have eb : b = [] := List.eq_nil_of_length_eq_zero (by rw [← r2.len, hm]; rfl)
        subst eb
        have q2 := see_flat e1
        subst q2
        rw [List.append_nil] at q
        exact q μ Hd H _ (Gr.refl μ Hd) R hx
      · obtain ⟨g, R', r'⟩ := tup_ok R (r1.app r2) hp
        exact q _ _ _ _ g R' r'
    · cases e
  · cases e
def mulF : Vl → Vl → M Vl := fun x y E => match see E.ce x, see E.ce y with
  | some (.int i), some (.int j) => if CMul i j then some (.d (.int (i * j)), E) else none
  | some (.lst a), some (.int j) => if -1000 ≤ j ∧ j ≤ 1000 ∧ a.length ≤ 1000 then newL (List.replicate j.toNat a).flatten E else none
  | some (.tup a), some (.int j) => if -1000 ≤ j ∧ j ≤ 1000 ∧ a.length ≤ 1000 ∧ a ≠ [] then some (.d (.tup (List.replicate j.toNat a).flatten), E) else none
  | _, _ => none
abbrev rMulU (K : PySem.W.Frag) : R2 := fun x y H Q => rI CMul (fun i j => .int (i * j)) x y H Q ∨ rRep x y H Q ∨ rRepU K x y H Q
theorem op_mulU {X : Cx} : OpR X (binaryOp .Mult) (rMulU X.K) := op_mul.or (op_rep.or op_repU)
theorem RpA.repl {H : Hp} {ds : List Dt} {vs : List V} (h : RpA K H ds vs) : ∀ n, RpA K H (List.replicate n ds).flatten (List.replicate n vs).flatten
  | 0 => rfl
  | n + 1 => by
    rw [List.replicate_succ, List.replicate_succ, List.flatten_cons, List.flatten_cons]
    exact h.app (RpA.repl h n)
theorem om_mul : OM K (rMulU K) mulF := fun {μ Hd H σ E x y vx vy z E'} R hx hy e Q q => by
  unfold mulF at e
  split at e
  · rename_i i j e1 e2
    split at e
    · rename_i hc
      cases e
      exact .inl ⟨i, j, see_ok R.wo hx e1, see_ok R.wo hy e2, hc, q μ Hd H _ (Gr.refl μ Hd) R rfl⟩
    · cases e
  · rename_i a j e1 e2
    split at e
    · rename_i hz
      obtain ⟨p1, v1, rfl, h1, r1⟩ := see_lst R.wo hx e1
      refine .inr (.inl ⟨p1, j, v1, rfl, see_ok R.wo hy e2, h1, by omega, by omega, ?_, fun p hp => ?_⟩)
      · rw [r1.len, sizeLine_eq]
        have : a.length * j.toNat ≤ 1000 * 1000 := Nat.mul_le_mul hz.2.2 (by omega)
        omega
      · obtain ⟨g, R', r'⟩ := newL_ok R (r1.repl j.toNat) e hp
        exact q _ _ _ _ g R' r'
    · cases e
  · rename_i a j e1 e2
    split at e
    · rename_i hz
      cases e
      obtain ⟨p1, v1, rfl, h1, r1⟩ := see_tup R.wo hx e1
      refine .inr (.inr ⟨p1, j, v1, rfl, see_ok R.wo hy e2, h1, fun hn => hz.2.2.2 (List.eq_nil_of_length_eq_zero (by rw [← r1.len, hn]; rfl)), by omega, by omega, by rw [r1.len]; omega, fun hj => ?_, fun hj p hp => ?_⟩)
      · subst hj
        have q2 := see_flat e1
        subst q2
        rw [show (List.replicate (1 : Int).toNat a).flatten = a by simp] at q
        exact q μ Hd H _ (Gr.refl μ Hd) R hx
      · obtain ⟨g, R', r'⟩ := tup_ok R (r1.repl j.toNat) hp
        exact q _ _ _ _ g R' r'
    · cases e
  · cases e

/-! ### items and slices -/
def ixD : Dt → Dt → Option Dt
  | .lst xs, .int i => atI xs i
  | .sq xs, .int i => atI xs i
  | .tup xs, .int i => atI xs i
  | .str s, .int i => if s.length ≤ sizeLine then (atI s.cps.toList i).map fun c => .str ⟨#[c]⟩ else none
  | _, _ => none
def ixF : Vl → Vl → M Vl := fun x y E => match see E.ce x, see E.ce y with
  | some a, some b => (ixD a b).map fun d => (.d d, E)
  | _, _ => none
theorem atI_ok {H : Hp} {ds : List Dt} {vs : List V} {i : Int} {d : Dt} (h : RpA K H ds vs) (e : atI ds i = some d) : ∃ v, atI vs i = some v ∧ Rp K H d v := by
  unfold atI at e ⊢
  rw [h.len]
  cases q : ixN ds.length i with
  | none =>
    rw [q] at e
    cases e
  | some j =>
    rw [q] at e
    exact RpA.at h e
theorem om_ix : OM K (rIx K) ixF := fun {μ Hd H σ E x y vx vy z E'} R hx hy e Q q => by
  unfold ixF at e
  split at e
  · rename_i a b e1 e2
    cases e3 : ixD a b with
    | none =>
      rw [e3] at e
      cases e
    | some d =>
      rw [e3] at e
      cases e
      unfold ixD at e3
      split at e3
      · rename_i xs i
        obtain ⟨p1, v1, rfl, h1, r1⟩ := see_lst R.wo hx e1
        obtain ⟨v, g1, g2⟩ := atI_ok r1 e3
        exact .inl ⟨p1, v1, i, v, rfl, see_ok R.wo hy e2, sq_of h1, g1, q μ Hd H v (Gr.refl μ Hd) R g2⟩
      · rename_i xs i
        obtain ⟨p1, v1, rfl, h1, r1⟩ := see_sq R.wo hx e1
        obtain ⟨v, g1, g2⟩ := atI_ok r1 e3
        exact .inl ⟨p1, v1, i, v, rfl, see_ok R.wo hy e2, h1, g1, q μ Hd H v (Gr.refl μ Hd) R g2⟩
      · rename_i xs i
        obtain ⟨p1, v1, rfl, h1, r1⟩ := see_tup R.wo hx e1
        obtain ⟨v, g1, g2⟩ := atI_ok r1 e3
        exact .inr (.inl ⟨p1, v1, i, v, rfl, see_ok R.wo hy e2, h1, g1, q μ Hd H v (Gr.refl μ Hd) R g2⟩)
      · rename_i s i
        split at e3
        · rename_i hz
          cases e4 : atI s.cps.toList i with
          | none =>
            rw [e4] at e3
            cases e3
          | some c =>
            rw [e4] at e3
            cases e3
            exact .inr (.inr ⟨s, i, c, see_ok R.wo hx e1, see_ok R.wo hy e2, hz, e4, q μ Hd H _ (Gr.refl μ Hd) R rfl⟩)
        · cases e3
      · cases e3
  · cases e
end
section
variable {X : Cx} {a b c e : Expr} {es : List Expr} {ta tb tc te : TE} {ma mb mc m : M Vl} {pos : Pos} {tes : TA} {mes : M (List Vl)} {lo hi : Option Expr}
theorem xix (ha : Ex_ X a ta ma) (hb : Ex_ X b tb mb) (hs : PlainIx b := by intro _ _; rfl) : Ex_ X (.Subscript a b pos) (tOp (rIx X.K) ta tb) (bindM ma fun x => bindM mb (ixF x)) := ⟨pe_ix ix_seq ha.pe hb.pe hs, em_op om_ix ha.em hb.em⟩
structure Ox (X : Cx) (e : Option Expr) (t : TO) (m : M (Option Int)) : Prop where
  po : PO X e t
  om : ∀ {μ : List Addr} {Hd H : Hp} {σ : L2.St} {E : En} {o : Option Int} {E' : En}, Rl X.K μ Hd H σ E → m E = some (o, E') → ∀ Q : Option Int → Hp → Prop, (∀ μ' Hd' H', Gr μ Hd μ' Hd' → Rl X.K μ' Hd' H' σ E' → Q o H') → t σ H Q
theorem onone : Ox X none tNoPart (retM none) := ⟨po_none, fun {μ Hd H σ E o E'} R e Q q => by
  cases e
  exact q μ Hd H (Gr.refl μ Hd) R⟩
def partM (m : M Vl) : M (Option Int) := bindM m fun r => match r with
  | .d (.int i) => retM (some i)
  | _ => failM
theorem osome (h : Ex_ X e te m) : Ox X (some e) (tPart te) (partM m) := ⟨po_some h.pe, fun {μ Hd H σ E o E'} R e Q q => by
  obtain ⟨r, E1, e1, e2⟩ := bindM_some e
  split at e2
  · rename_i i
    cases e2
    exact h.em R e1 _ fun μ1 Hd1 H1 v g1 R1 r1 => ⟨i, r1, q μ1 Hd1 H1 g1 R1⟩
  · cases e2⟩
def cutD (xs : List Dt) (lo hi : Option Int) : List Dt := (xs.drop (HT.sIx xs.length 0 lo)).take (HT.sIx xs.length xs.length hi - HT.sIx xs.length 0 lo)
theorem cut_ok {K : PySem.W.Frag} {H : Hp} {ds : List Dt} {vs : List V} (h : RpA K H ds vs) (lo hi : Option Int) : RpA K H (cutD ds lo hi) (cutV vs lo hi) := by
  unfold cutD cutV
  rw [h.len]
  exact (h.drop _).take _
theorem cut_all {ds : List Dt} {lo hi : Option Int} (h : HT.sIx ds.length 0 lo = 0 ∧ HT.sIx ds.length ds.length hi = ds.length) : cutD ds lo hi = ds := by
  unfold cutD
  rw [h.1, h.2]
  simp
def slF (x : Vl) (lo hi : Option Int) : M Vl := fun E => match see E.ce x with
  | some (.lst xs) => newL (cutD xs lo hi) E
  | some (.tup xs) => some (.d (.tup (cutD xs lo hi)), E)
  | some (.str s) => if s.length ≤ sizeLine then some (.d (.str (cutS s lo hi)), E) else none
  | _ => none
theorem xsl {p2 : Pos} (ha : Ex_ X a ta ma) {tl th : TO} {ml mh : M (Option Int)} (hl : Ox X lo tl ml) (hh : Ox X hi th mh) :
    Ex_ X (.Subscript a (.Slice lo hi none p2) pos) (tSl (fun x l h H Q => rSlL X.K x l h H Q ∨ rSlA X.K x l h H Q ∨ rSlS x l h H Q) ta tl th) (bindM ma fun x => bindM ml fun l => bindM mh fun h => slF x l h) :=
  ⟨pe_slice (sl_list.or (sl_tupA.or sl_str)) ha.pe hl.po hh.po, fun {μ Hd H σ E z E'} R e Q q => by
    obtain ⟨x, E1, e1, e⟩ := bindM_some e
    obtain ⟨l, E2, e2, e⟩ := bindM_some e
    obtain ⟨h, E3, e3, e⟩ := bindM_some e
    refine ha.em R e1 _ fun μ1 Hd1 H1 v g1 R1 r1 => ?_
    refine hl.om R1 e2 _ fun μ2 Hd2 H2 g2 R2 => ?_
    refine hh.om R2 e3 _ fun μ3 Hd3 H3 g3 R3 => ?_
    have r3 := Rv.gr (g2.trans g3) r1
    have g0 := (g1.trans g2).trans g3
    unfold slF at e
    split at e
    · rename_i xs e4
      obtain ⟨p1, v1, rfl, h1, r4⟩ := see_lst R3.wo r3 e4
      refine .inl ⟨p1, v1, rfl, sq_of h1, fun p hp => ?_⟩
      obtain ⟨g, R', r'⟩ := newL_ok R3 (cut_ok r4 l h) e hp
      exact q _ _ _ _ (g0.trans g) R' r'
    · rename_i xs e4
      cases e
      obtain ⟨p1, v1, rfl, h1, r4⟩ := see_tup R3.wo r3 e4
      refine .inr (.inl ⟨p1, v1, rfl, h1, fun hw => ?_, fun hw p hp => ?_⟩)
      · rw [r4.len] at hw
        rw [cut_all hw] at q
        have q2 := see_flat e4
        subst q2
        exact q _ _ _ _ g0 R3 r3
      · obtain ⟨g, R', r'⟩ := tup_ok R3 (cut_ok r4 l h) hp
        exact q _ _ _ _ (g0.trans g) R' r'
    · rename_i s e4
      split at e
      · rename_i hz
        cases e
        exact .inr (.inr ⟨s, see_ok R3.wo r3 e4, hz, q _ _ _ _ g0 R3 rfl⟩)
      · cases e
    · cases e⟩
/-! ### calls of built-ins -/
theorem em_cb {K : PySem.W.Frag} {r : List V → Hp → VK → Prop} {f : List Vl → M Vl} {ta : TA} {ma : M (List Vl)} (hf : CM K r f) (ha : AM K ta ma) : EM K (tCB r ta) (bindM ma f) := fun {μ Hd H σ E z E'} R e Q q => by
  obtain ⟨rs, E1, e1, e2⟩ := bindM_some e
  exact ha R e1 _ fun μ1 Hd1 H1 vs g1 R1 r1 => hf R1 r1 e2 Q fun μ2 Hd2 H2 v g2 R2 r2 => q μ2 Hd2 H2 v (g1.trans g2) R2 r2
variable {x : Str} {p : Pos} {id T : String} {r : List V → Hp → VK → Prop} {f : List Vl → M Vl}
theorem xblt (hc : CallR X (.builtin id) r) (hf : CM X.K r f) (hm : X.mg x = none) (hv : bootBuiltins x = some (.builtin id)) (ha : Ax X (e :: es) tes mes) (hg : Gl X x := by rfl) (hn : x ≠ "__name__" := by decide) (hdb : (x == ("__debug__" : Str)) = false := by decide)
    (he : starEach (e :: es) X.env = (false, eval e X.env) :: starEach es X.env := by rfl) (hpl : (backTo pos (starEach es X.env)).any (·.1) = false := by rfl) : Ex_ X (.Call (.Name x p) (e :: es) [] pos) (tCB r tes) (bindM mes f) := ⟨pe_callB hc hg hm hv ha.pa hn hdb he hpl, em_cb hf ha.am⟩
theorem xbty (hc : CallR X (.type T) r) (hf : CM X.K r f) (hm : X.mg x = none) (hv : bootBuiltins x = some (.type T)) (ha : Ax X (e :: es) tes mes) (hg : Gl X x := by rfl) (hn : x ≠ "__name__" := by decide) (hdb : (x == ("__debug__" : Str)) = false := by decide)
    (he : starEach (e :: es) X.env = (false, eval e X.env) :: starEach es X.env := by rfl) (hpl : (backTo pos (starEach es X.env)).any (·.1) = false := by rfl) : Ex_ X (.Call (.Name x p) (e :: es) [] pos) (tCB r tes) (bindM mes f) := ⟨pe_callTy hc hg hm hv ha.pa hn hdb he hpl, em_cb hf ha.am⟩
/-- one value looked at -/
def fn1 (f : Dt → Option Dt) : List Vl → M Vl := fun xs E => match xs with
  | [x] => match see E.ce x with
    | some a => (f a).map fun d => (.d d, E)
    | none => none
  | _ => none
theorem fn1_some {f : Dt → Option Dt} {xs : List Vl} {z : Vl} {E E' : En} (h : fn1 f xs E = some (z, E')) : ∃ x a d, xs = [x] ∧ see E.ce x = some a ∧ f a = some d ∧ z = .d d ∧ E' = E := by
  match xs with
  | [] => cases h
  | [x] =>
    have h : (match see E.ce x with
      | some a => (f a).map fun d => (Vl.d d, E)
      | none => none) = some (z, E') := h
    cases e1 : see E.ce x with
    | none =>
      rw [e1] at h
      cases h
    | some a =>
      rw [e1] at h
      cases q : f a with
      | none =>
        simp [q] at h
      | some d =>
        simp only [q, Option.map_some, Option.some.injEq, Prod.mk.injEq] at h
        obtain ⟨rfl, rfl⟩ := h
        exact ⟨x, a, d, rfl, e1, q, rfl, rfl⟩
  | _ :: _ :: _ => cases h
theorem RvA.one {K : PySem.W.Frag} {μ : List Addr} {Hd : Hp} {x : Vl} {vs : List V} (h : RvA K μ Hd [x] vs) : ∃ v, vs = [v] ∧ Rv K μ Hd x v := by
  cases h with
  | cons h1 t =>
    cases t
    exact ⟨_, rfl, h1⟩
theorem RvA.two {K : PySem.W.Frag} {μ : List Addr} {Hd : Hp} {x y : Vl} {vs : List V} (h : RvA K μ Hd [x, y] vs) : ∃ v w, vs = [v, w] ∧ Rv K μ Hd x v ∧ Rv K μ Hd y w := by
  cases h with
  | cons h1 t =>
    cases t with
    | cons h2 t =>
      cases t
      exact ⟨_, _, rfl, h1, h2⟩
theorem cm_fn1 {K : PySem.W.Frag} {f : Dt → Option Dt} (h : ∀ (H : Hp) (a d : Dt) (v : V), Rp K H a v → f a = some d → ∀ Q : VK, (∀ w, (∀ H', Rp K H' d w) → Q w H) → r [v] H Q) : CM K r (fn1 f) := fun {μ Hd H σ E xs vs z E'} R hx e Q q => by
  obtain ⟨x, a, d, rfl, e1, e2, rfl, rfl⟩ := fn1_some e
  obtain ⟨v, rfl, h1⟩ := hx.one
  exact h H a d v (see_ok R.wo h1 e1) e2 Q fun w hw => q μ Hd H w (Gr.refl μ Hd) R (hw Hd)
def fn2 (f : Dt → Dt → Option Dt) : List Vl → M Vl := fun xs E => match xs with
  | [x, y] => op2 f x y E
  | _ => none
theorem cm_fn2 {K : PySem.W.Frag} {f : Dt → Dt → Option Dt} (h : ∀ (H : Hp) (a b d : Dt) (v w : V), Rp K H a v → Rp K H b w → f a b = some d → ∀ Q : VK, (∀ u, (∀ H', Rp K H' d u) → Q u H) → r [v, w] H Q) : CM K r (fn2 f) := fun {μ Hd H σ E xs vs z E'} R hx e Q q => by
  unfold fn2 at e
  split at e
  · obtain ⟨a, b, d, e1, e2, e3, rfl, rfl⟩ := op2_some e
    obtain ⟨v, w, rfl, h1, h2⟩ := hx.two
    exact h H a b d v w (see_ok R.wo h1 e1) (see_ok R.wo h2 e2) e3 Q fun u hu => q μ Hd H u (Gr.refl μ Hd) R (hu Hd)
  · cases e
def lenD : Dt → Option Dt
  | .str s => if s.length ≤ sizeLine then some (.int (s.length : Int)) else none
  | .lst xs => some (.int (xs.length : Int))
  | .sq xs => some (.int (xs.length : Int))
  | .tup xs => some (.int (xs.length : Int))
  | _ => none
theorem cm_len {K : PySem.W.Frag} : CM K (rLenU K) (fn1 lenD) := cm_fn1 fun H a d v hv e Q q => by
  unfold lenD at e
  split at e
  · rename_i s
    split at e
    · rename_i hz
      cases e
      cases (show v = .str s from hv)
      exact ⟨_, s.length, rfl, ⟨hz, rfl⟩, q _ fun _ => rfl⟩
    · cases e
  · cases e
    obtain ⟨p, vs, rfl, h1, h2⟩ := hv
    exact ⟨_, vs.length, rfl, .inl ⟨vs, sq_of h1, rfl⟩, by rw [h2.len]; exact q _ fun _ => rfl⟩
  · cases e
    obtain ⟨p, vs, rfl, h1, h2⟩ := hv
    exact ⟨_, vs.length, rfl, .inl ⟨vs, h1, rfl⟩, by rw [h2.len]; exact q _ fun _ => rfl⟩
  · cases e
    obtain ⟨p, vs, rfl, h1, h2⟩ := hv
    exact ⟨_, vs.length, rfl, .inr ⟨vs, h1, rfl⟩, by rw [h2.len]; exact q _ fun _ => rfl⟩
  · cases e
theorem xlen (hm : X.mg "len" = none) (ha : Ax X (e :: es) tes mes) (hg : Gl X "len" := by rfl) (he : starEach (e :: es) X.env = (false, eval e X.env) :: starEach es X.env := by rfl) (hpl : (backTo pos (starEach es X.env)).any (·.1) = false := by rfl) :
    Ex_ X (.Call (.Name "len" p) (e :: es) [] pos) (tCB (rLenU X.K) tes) (bindM mes (fn1 lenD)) := xblt call_lenU cm_len hm PySem.boot_len ha hg (by decide) (by decide) he hpl
def absD : Dt → Option Dt
  | .int i => some (.int (if i < 0 then -i else i))
  | _ => none
theorem cm_abs {K : PySem.W.Frag} : CM K rAbsU (fn1 absD) := cm_fn1 fun H a d v hv e Q q => by
  unfold absD at e
  split at e
  · rename_i i
    cases e
    cases (show v = .int i from hv)
    exact ⟨i, rfl, q _ fun _ => rfl⟩
  · cases e
def intD : Dt → Option Dt
  | .int i => some (.int i)
  | .bl b => some (.int (if b then 1 else 0))
  | _ => none
theorem cm_int {K : PySem.W.Frag} : CM K rIntU (fn1 intD) := cm_fn1 fun H a d v hv e Q q => by
  unfold intD at e
  split at e
  · rename_i i
    cases e
    cases (show v = .int i from hv)
    exact .inl ⟨i, rfl, q _ fun _ => rfl⟩
  · rename_i b
    cases e
    cases (show v = .bl b from hv)
    exact .inr ⟨b, rfl, q _ fun _ => rfl⟩
  · cases e
abbrev minD := intF fun i j => some (.int (if j < i then j else i))
abbrev maxD := intF fun i j => some (.int (if j > i then j else i))
theorem cm_min2 {K : PySem.W.Frag} : CM K rMinU (fn2 minD) := cm_fn2 fun H a b d v w hv hw e Q q => by
  obtain ⟨i, j, rfl, rfl, e⟩ := intF_some e
  cases e
  cases (show v = .int i from hv)
  cases (show w = .int j from hw)
  exact ⟨i, j, rfl, q _ fun _ => rfl⟩
theorem cm_max2 {K : PySem.W.Frag} : CM K rMaxU (fn2 maxD) := cm_fn2 fun H a b d v w hv hw e Q q => by
  obtain ⟨i, j, rfl, rfl, e⟩ := intF_some e
  cases e
  cases (show v = .int i from hv)
  cases (show w = .int j from hw)
  exact ⟨i, j, rfl, q _ fun _ => rfl⟩
def blsD : List Dt → Option (List Bool)
  | [] => some []
  | .bl b :: ds => (blsD ds).map (b :: ·)
  | _ => none
theorem bls_ok {K : PySem.W.Frag} {H : Hp} : ∀ {ds : List Dt} {vs : List V} {bs : List Bool}, RpA K H ds vs → blsD ds = some bs → vs = bs.map V.bl
  | [], vs, bs, h, e => by
    cases e
    exact h
  | .bl b :: ds, vs, bs, h, e => by
    obtain ⟨x, r, rfl, h2, h3⟩ := h
    have e : (blsD ds).map (b :: ·) = some bs := e
    cases q : blsD ds with
    | none =>
      rw [q] at e
      cases e
    | some cs =>
      rw [q] at e
      cases e
      rw [show x = V.bl b from h2, bls_ok h3 q]
      rfl
  | .non :: _, _, _, _, e => by cases e
  | .int _ :: _, _, _, _, e => by cases e
  | .str _ :: _, _, _, _, e => by cases e
  | .lst _ :: _, _, _, _, e => by cases e
  | .sq _ :: _, _, _, _, e => by cases e
  | .tup _ :: _, _, _, _, e => by cases e
  | .obj _ _ _ :: _, _, _, _, e => by cases e
  | .dic _ _ :: _, _, _, _, e => by cases e
  | .exc _ _ _ :: _, _, _, _, e => by cases e
def allD : Dt → Option Dt
  | .lst xs => (blsD xs).map fun bs => .bl (bs.all fun b => b)
  | _ => none
def anyD : Dt → Option Dt
  | .lst xs => (blsD xs).map fun bs => .bl (bs.any fun b => b)
  | _ => none
theorem cm_all {K : PySem.W.Frag} : CM K (rAll K) (fn1 allD) := cm_fn1 fun H a d v hv e Q q => by
  unfold allD at e
  split at e
  · rename_i xs
    cases e1 : blsD xs with
    | none =>
      rw [e1] at e
      cases e
    | some bs =>
      rw [e1] at e
      cases e
      obtain ⟨p, vs, rfl, h1, h2⟩ := hv
      have := bls_ok h2 e1
      subst this
      exact ⟨p, bs, rfl, sq_of h1, q _ fun _ => rfl⟩
  · cases e
theorem cm_any {K : PySem.W.Frag} : CM K (rAny K) (fn1 anyD) := cm_fn1 fun H a d v hv e Q q => by
  unfold anyD at e
  split at e
  · rename_i xs
    cases e1 : blsD xs with
    | none =>
      rw [e1] at e
      cases e
    | some bs =>
      rw [e1] at e
      cases e
      obtain ⟨p, vs, rfl, h1, h2⟩ := hv
      have := bls_ok h2 e1
      subst this
      exact ⟨p, bs, rfl, sq_of h1, q _ fun _ => rfl⟩
  · cases e
/-- list(x), tuple(x): x a list or a tuple -/
def listF : List Vl → M Vl := fun xs E => match xs with
  | [x] => match (see E.ce x).bind itemsD with
    | some ds => newL ds E
    | none => none
  | _ => none
theorem see_items {K : PySem.W.Frag} {μ : List Addr} {Hd H : Hp} {ce : List Ce} {r : Vl} {v : V} {ds : List Dt} (w : Wo K μ Hd H ce) (hv : Rv K μ Hd r v) (h : (see ce r).bind itemsD = some ds) : ∃ a vs, v = .ref a ∧ (SqL K H a vs ∨ SqT K H a vs) ∧ RpA K Hd ds vs := by
  cases q : see ce r with
  | none =>
    rw [q] at h
    cases h
  | some d =>
    rw [q] at h
    cases d with
    | lst xs =>
      cases h
      obtain ⟨a, vs, h1, h2, h3⟩ := see_lst w hv q
      exact ⟨a, vs, h1, .inl (sq_of h2), h3⟩
    | sq xs =>
      cases h
      obtain ⟨a, vs, h1, h2, h3⟩ := see_sq w hv q
      exact ⟨a, vs, h1, .inl h2, h3⟩
    | tup xs =>
      cases h
      obtain ⟨a, vs, h1, h2, h3⟩ := see_tup w hv q
      exact ⟨a, vs, h1, .inr h2, h3⟩
    | _ => cases h
theorem cm_list {K : PySem.W.Frag} : CM K (rListU K) listF := fun {μ Hd H σ E xs vs z E'} R hx e Q q => by
  unfold listF at e
  split at e
  · rename_i x
    split at e
    · rename_i ds e1
      obtain ⟨v, rfl, h1⟩ := hx.one
      obtain ⟨a, us, rfl, h2, h3⟩ := see_items R.wo h1 e1
      refine ⟨a, us, rfl, h2, fun l hl => ?_⟩
      obtain ⟨g, R', r'⟩ := newL_ok R h3 e hl
      exact q _ _ _ _ g R' r'
    · cases e
  · cases e
def tupleF : List Vl → M Vl := fun xs E => match xs with
  | [x] => match (see E.ce x).bind itemsD with
    | some ds => some (.d (.tup ds), E)
    | none => none
  | _ => none
theorem cm_tuple {K : PySem.W.Frag} : CM K (rTupU K) tupleF := fun {μ Hd H σ E xs vs z E'} R hx e Q q => by
  unfold tupleF at e
  split at e
  · rename_i x
    split at e
    · rename_i ds e1
      cases e
      obtain ⟨v, rfl, h1⟩ := hx.one
      cases q1 : see E.ce x with
      | none =>
        rw [q1] at e1
        cases e1
      | some d =>
        rw [q1] at e1
        cases d with
        | lst ys =>
          cases e1
          obtain ⟨a, us, rfl, h2, h3⟩ := see_lst R.wo h1 q1
          refine ⟨a, us, rfl, .inl ⟨sq_of h2, fun l hl => ?_⟩⟩
          obtain ⟨g, R', r'⟩ := tup_ok R h3 hl
          exact q _ _ _ _ g R' r'
        | sq ys =>
          cases e1
          obtain ⟨a, us, rfl, h2, h3⟩ := see_sq R.wo h1 q1
          refine ⟨a, us, rfl, .inl ⟨h2, fun l hl => ?_⟩⟩
          obtain ⟨g, R', r'⟩ := tup_ok R h3 hl
          exact q _ _ _ _ g R' r'
        | tup ys =>
          cases e1
          obtain ⟨a, us, rfl, h2, h3⟩ := see_tup R.wo h1 q1
          have q2 := see_flat q1
          subst q2
          exact ⟨a, us, rfl, .inr ⟨h2, q μ Hd H _ (Gr.refl μ Hd) R h1⟩⟩
        | _ => cases e1
    · cases e
  · cases e
end
end Hk
/-! Hk5: comprehensions, a list's methods, isinstance. -/
namespace Hk
open PySem PySem.Spec PyProof.Rows L2 Evl

/-! ### slots forgotten and brought back -/
def wipeO (sl : List (Option Vl)) : List Nat → List (Option Vl)
  | [] => sl
  | v :: vs => (wipeO sl vs).set v none
def wipeE (vs : List Nat) (E : En) : En := ⟨wipeO E.sl vs, E.ce⟩
def bring (sl0 sl : List (Option Vl)) : List Nat → List (Option Vl)
  | [] => sl
  | v :: vs => (bring sl0 sl vs).set v (sl0[v]?.getD none)
section
variable {K : PySem.W.Frag} {μ : List Addr} {Hd H : Hp} {σ : L2.St}
theorem Sl.wipe {sl : List (Option Vl)} (h : Sl K μ Hd σ sl) : ∀ vs : List Nat, Sl K μ Hd (L2.wipe σ vs) (wipeO sl vs)
  | [] => h
  | v :: vs => (Sl.wipe h vs).wipe1 v
theorem wipeO_len (sl : List (Option Vl)) : ∀ vs : List Nat, (wipeO sl vs).length = sl.length
  | [] => rfl
  | v :: vs => by
    unfold wipeO
    rw [List.length_set, wipeO_len sl vs]
theorem bring_len (sl0 sl : List (Option Vl)) : ∀ vs : List Nat, (bring sl0 sl vs).length = sl.length
  | [] => rfl
  | v :: vs => by
    unfold bring
    rw [List.length_set, bring_len sl0 sl vs]
theorem wipe_out {i : Nat} : ∀ {vs : List Nat}, i ∉ vs → (L2.wipe σ vs)[i]? = σ[i]?
  | [], _ => rfl
  | v :: vs, h => by
    unfold L2.wipe
    rw [List.getElem?_set_ne (fun e => h (by rw [e]; exact List.mem_cons_self)), wipe_out fun m => h (List.mem_cons_of_mem _ m)]
theorem wipeO_out {sl : List (Option Vl)} {i : Nat} : ∀ {vs : List Nat}, i ∉ vs → (wipeO sl vs)[i]? = sl[i]?
  | [], _ => rfl
  | v :: vs, h => by
    unfold wipeO
    rw [List.getElem?_set_ne (fun e => h (by rw [e]; exact List.mem_cons_self)), wipeO_out fun m => h (List.mem_cons_of_mem _ m)]
theorem bring_out {sl0 sl : List (Option Vl)} {i : Nat} : ∀ {vs : List Nat}, i ∉ vs → (bring sl0 sl vs)[i]? = sl[i]?
  | [], _ => rfl
  | v :: vs, h => by
    unfold bring
    rw [List.getElem?_set_ne (fun e => h (by rw [e]; exact List.mem_cons_self)), bring_out fun m => h (List.mem_cons_of_mem _ m)]
theorem bring_in {sl0 sl : List (Option Vl)} {i : Nat} {r : Vl} : ∀ {vs : List Nat}, i ∈ vs → (bring sl0 sl vs)[i]? = some (some r) → sl0[i]? = some (some r)
  | v :: vs, hm, h => by
    unfold bring at h
    rw [List.getElem?_set] at h
    by_cases hv : v = i
    · subst hv
      rw [if_pos rfl] at h
      split at h
      · have h := Option.some.inj h
        cases q : sl0[v]? with
        | none =>
          rw [q] at h
          cases h
        | some o =>
          rw [q] at h
          have h : o = some r := h
          rw [h]
      · cases h
    · rw [if_neg hv] at h
      rcases List.mem_cons.mp hm with e | hm
      · exact absurd e.symm hv
      · exact bring_in hm h
theorem Sl.bring {sl0 sl : List (Option Vl)} {vs : List Nat} (h0 : Sl K μ Hd σ sl0) (h : Sl K μ Hd (L2.wipe σ vs) (wipeO sl vs)) : Sl K μ Hd σ (bring sl0 sl vs) := by
  refine ⟨by rw [bring_len, ← wipeO_len sl vs, ← h.1, L2.wipe_length], fun i r e => ?_⟩
  by_cases hm : i ∈ vs
  · exact h0.2 i r (bring_in hm e)
  · rw [bring_out hm] at e
    obtain ⟨v, h1, h2⟩ := h.2 i r (by rw [wipeO_out hm]; exact e)
    exact ⟨v, by rw [wipe_out hm] at h1; exact h1, h2⟩
end
/-- a target that stores to those slots alone -/
def GcM (K : PySem.W.Frag) (vs : List Nat) (g : TG) (f : Vl → En → Option En) : Prop := ∀ {μ : List Addr} {Hd H : Hp} {σ : L2.St} {E E' : En} {r : Vl} {v : V}, Rl K μ Hd H σ E → Rv K μ Hd r v → f r E = some E' → ∀ Q : L2.St → Hp → Prop,
  (∀ μ' Hd' H' σ', Gr μ Hd μ' Hd' → Rl K μ' Hd' H' σ' E' → L2.wipe σ' vs = L2.wipe σ vs → Q σ' H') → g v σ H Q
theorem wipe_set {σ : L2.St} {o : Option V} {i : Nat} : ∀ {vs : List Nat}, i ∈ vs → L2.wipe (σ.set i o) vs = L2.wipe σ vs
  | v :: vs, hm => by
    unfold L2.wipe
    by_cases hv : v = i
    · subst hv
      by_cases h2 : v ∈ vs
      · rw [wipe_set h2]
      · have : ∀ (us : List Nat), v ∉ us → (L2.wipe (σ.set v o) us) = (L2.wipe σ us).set v o := by
          intro us
          induction us with
          | nil => intro _; rfl
          | cons u us ih =>
            intro hu
            unfold L2.wipe
            rw [ih fun m => hu (List.mem_cons_of_mem _ m), List.set_comm _ _ (fun e => hu (by rw [e]; exact List.mem_cons_self))]
        rw [this vs h2, List.set_set]
    · rcases List.mem_cons.mp hm with e | hm
      · exact absurd e.symm hv
      · rw [wipe_set hm]
theorem gcm_name {K : PySem.W.Frag} {i : Nat} {vs : List Nat} (hi : i ∈ vs) : GcM K vs (gName i) (nameG i) := fun {μ Hd H σ E E' r v} R h e Q q => by
  cases e
  exact q μ Hd H _ (Gr.refl μ Hd) (R.setE i h) (wipe_set hi)
def GcsM (K : PySem.W.Frag) (us : List Nat) (t : TGs) (gs : List (Vl → En → Option En)) : Prop := ∀ {μ : List Addr} {Hd H : Hp} {σ : L2.St} {E E' : En} {ds : List Dt} {vs : List V}, Rl K μ Hd H σ E → RpA K Hd ds vs → gsL gs ds E = some E' → ∀ Q : L2.St → Hp → Prop,
  (∀ μ' Hd' H' σ', Gr μ Hd μ' Hd' → Rl K μ' Hd' H' σ' E' → L2.wipe σ' us = L2.wipe σ us → Q σ' H') → t vs σ H Q
theorem gcsm_nil {K : PySem.W.Frag} {us : List Nat} : GcsM K us gNil [] := fun {μ Hd H σ E E' ds vs} R h e Q q => by
  cases ds with
  | nil =>
    cases e
    exact ⟨h, q μ Hd H σ (Gr.refl μ Hd) R rfl⟩
  | cons d ds => cases e
theorem gcsm_cons {K : PySem.W.Frag} {us : List Nat} {t : TG} {u : TGs} {g : Vl → En → Option En} {gs : List (Vl → En → Option En)} (h1 : GcM K us t g) (h2 : GcsM K us u gs) : GcsM K us (gCons t u) (g :: gs) := fun {μ Hd H σ E E' ds vs} R h e Q q => by
  cases ds with
  | nil => cases e
  | cons d ds =>
    unfold gsL at e
    cases q1 : g (.d d) E with
    | none =>
      rw [q1] at e
      cases e
    | some E1 =>
      rw [q1] at e
      obtain ⟨x, r, rfl, p1, p2⟩ := h
      refine ⟨x, r, rfl, h1 R (r := .d d) p1 q1 _ fun μ1 Hd1 H1 σ1 g1 R1 w1 => ?_⟩
      exact h2 R1 (RpA.ex g1.ex _ _ p2) e Q fun μ2 Hd2 H2 σ2 g2 R2 w2 => q μ2 Hd2 H2 σ2 (g1.trans g2) R2 (w2.trans w1)
theorem gcm_tup {K : PySem.W.Frag} {us : List Nat} {t : TGs} {gs : List (Vl → En → Option En)} {n : Nat} (hn : gs.length = n) (h : GcsM K us t gs) : GcM K us (gTup K n t) (tupG gs) := fun {μ Hd H σ E E' r v} R hv e Q q => by
  unfold tupG at e
  split at e
  · rename_i ds
    obtain ⟨a, vs, rfl, h2, h3⟩ := hv
    exact ⟨a, vs, rfl, exs_t R.wo.ex h2, by rw [h3.len, gsL_len e, hn], h R h3 e Q q⟩
  · cases e
theorem wipe_wipe {σ : L2.St} {vs : List Nat} : L2.wipe (L2.wipe σ vs) vs = L2.wipe σ vs := by
  have h : ∀ us : List Nat, (∀ u ∈ us, u ∈ vs) → L2.wipe (L2.wipe σ us) vs = L2.wipe σ vs := by
    intro us
    induction us with
    | nil => intro _; rfl
    | cons u us ih =>
      intro hu
      show L2.wipe ((L2.wipe σ us).set u none) vs = _
      rw [wipe_set (hu u List.mem_cons_self)]
      exact ih fun x hx => hu x (List.mem_cons_of_mem _ hx)
  exact h vs fun _ h => h
/-! ### [e for x in xs if t] -/
def compL (own : List Nat) (k : Nat) (g : Vl → En → Option En) (t : M Bool) (m : M Vl) : List Dt → En → Option En
  | [], E => some E
  | d :: ds, E => match g (.d d) (wipeE own E) with
    | some E1 => match t E1 with
      | some (true, E2) => match bindM m fzM E2 with
        | some (x, E4) => match E4.ce[k]? with
          | some (.lst acc) => if acc.length < 100000 then compL own k g t m ds ⟨E4.sl, E4.ce.set k (.lst (acc ++ [x]))⟩ else none
          | _ => none
        | none => none
      | some (false, E2) => compL own k g t m ds E2
      | none => none
    | none => none
def compM (own : List Nat) (i : M (List Dt)) (g : Vl → En → Option En) (t : M Bool) (m : M Vl) : M Vl := fun E => match i E with
  | some (ds, E1) => match compL own E1.ce.length g t m ds ⟨E1.sl, E1.ce ++ [.lst []]⟩ with
    | some E2 => some (.c E1.ce.length, ⟨bring E1.sl E2.sl own, E2.ce⟩)
    | none => none
  | none => none
theorem comp_at {K : PySem.W.Frag} {own : List Nat} {g : TG} {gm : Vl → En → Option En} {tt : TT} {mt : M Bool} {te : TE} {m : M Vl} (hg : GcM K own g gm) (ht : TM K tt mt) (he : EM K te m) {μ1 : List Addr} {Hd1 H1 : Hp} {σ : L2.St} {E1 E2 : En} {J : It} {ds : List Dt} (R1 : Rl K μ1 Hd1 H1 σ E1) (sv : Serves J K Hd1 ds)
    (q2 : compL own E1.ce.length gm mt m ds ⟨E1.sl, E1.ce ++ [.lst []]⟩ = some E2) (Q : VK) (q : ∀ μ' Hd' H' v, Gr μ1 Hd1 μ' Hd' → Rl K μ' Hd' H' σ ⟨bring E1.sl E2.sl own, E2.ce⟩ → Rv K μ' Hd' (.c E1.ce.length) v → Q v H') : tLc (fun σ H R => R J H) g tt te own σ H1 Q := by
  intro D hD
  obtain ⟨g2, R2, r2⟩ := R1.newC (xs := []) (vs := []) hD rfl
  have hk : (μ1 ++ [D])[E1.ce.length]? = some D := by
    rw [← R1.wo.len]
    simp
  refine ⟨fun i k H' => ∃ μ' Hd' E', Gr (μ1 ++ [D]) Hd1 μ' Hd' ∧ Rl K μ' Hd' H' (L2.wipe σ own) (wipeE own E') ∧ k = ds.length - i ∧ compL own E1.ce.length gm mt m (ds.drop i) E' = some E2,
    ⟨_, μ1 ++ [D], Hd1, ⟨E1.sl, E1.ce ++ [Ce.lst []]⟩, Gr.refl _ _, ⟨R2.wo, R2.sl.wipe own⟩, rfl, q2⟩, fun i k H' hw => ?_⟩
  obtain ⟨μ', Hd', E3, g3, R3, ek, q3⟩ := hw
  cases hd : ds.drop i with
  | nil =>
    rw [hd] at q3
    cases q3
    have hl : ds.length ≤ i := by
      have := congrArg List.length hd
      rw [List.length_drop] at this
      simp at this
      omega
    refine .inl ⟨(sv Hd' H' i g3.ex R3.wo.ex).1 hl, q μ' Hd' H' _ (g2.trans g3) ⟨R3.wo, ?_⟩ ⟨D, g3.pre _ _ hk, rfl⟩⟩
    exact Sl.bring ((R1.sl.gr g2).gr g3) R3.sl
  | cons x rest =>
    rw [hd] at q3
    obtain ⟨hx, hr⟩ := drop_cons hd
    have hl : i < ds.length := (List.getElem?_eq_some_iff.mp hx).1
    obtain ⟨s1, s2⟩ := sv.new R3 g3.ex hx
    refine .inr ⟨s1, fun H2 => ∃ m', m' < k ∧ ∃ μ2 Hd2 E4, Gr (μ1 ++ [D]) Hd1 μ2 Hd2 ∧ Rl K μ2 Hd2 H2 (L2.wipe σ own) (wipeE own E4) ∧ m' = ds.length - (i + 1) ∧ compL own E1.ce.length gm mt m (ds.drop (i + 1)) E4 = some E2, fun _ h => h, fun v H3 hy => ?_⟩
    obtain ⟨Hd4, g4, R4, r4⟩ := s2 v H3 hy
    unfold compL at q3
    cases q4 : gm (.d x) (wipeE own E3) with
    | none =>
      rw [q4] at q3
      cases q3
    | some E5 =>
      rw [q4] at q3
      refine hg R4 (r := .d x) r4 q4 _ fun μ5 Hd5 H5 σ5 g5 R5 w5 => ⟨w5.trans (by rw [wipe_wipe]), ?_⟩
      have gg := (g3.trans g4).trans g5
      cases q5 : mt E5 with
      | none =>
        simp only [q5] at q3
        cases q3
      | some p =>
        obtain ⟨b, E6⟩ := p
        simp only [q5] at q3
        refine ht R5 q5 _ fun μ6 Hd6 H6 g6 R6 => ?_
        cases b with
        | false =>
          show ∃ m', _
          refine ⟨ds.length - (i + 1), by omega, μ6, Hd6, E6, gg.trans g6, ⟨R6.wo, ?_⟩, rfl, by rw [hr]; exact q3⟩
          have := R6.sl.wipe own
          rw [w5, wipe_wipe] at this
          exact this
        | true =>
          show te σ5 H6 _
          cases q6 : bindM m fzM E6 with
          | none =>
            simp only [q6] at q3
            cases q3
          | some p =>
            obtain ⟨y, E7⟩ := p
            simp only [q6] at q3
            obtain ⟨z, E8, e8, e9⟩ := bindM_some q6
            cases q7 : E7.ce[E1.ce.length]? with
            | none =>
              simp only [q7] at q3
              cases q3
            | some c =>
              cases c with
              | dead =>
                simp only [q7] at q3
                cases q3
              | pin o =>
                simp only [q7] at q3
                cases q3
              | ins C ns ds =>
                simp only [q7] at q3
                cases q3
              | dic ks ds =>
                simp only [q7] at q3
                cases q3
              | dit ks ds =>
                simp only [q7] at q3
                cases q3
              | lkd ks ds =>
                simp only [q7] at q3
                cases q3
              | lst acc =>
                simp only [q7] at q3
                split at q3
                · rename_i hz
                  refine he R6 e8 _ fun μ7 Hd7 H7 w g7 R7 r7 => ?_
                  obtain ⟨Hd8, g8, R8, r8⟩ := fzM_ok R7 r7 e9
                  have gall := ((gg.trans g6).trans g7).trans g8
                  have hD8 := gall.pre _ _ hk
                  obtain ⟨c1, vs, c2, c3⟩ := R8.wo.lst q7 hD8
                  refine ⟨vs, c2, by rw [c3.len]; exact sz_lt hz, ds.length - (i + 1), by omega, μ7, Hd8, _, gall, ⟨?_, ?_⟩, rfl, by rw [hr]; exact q3⟩
                  · exact (R8.setC q7 hD8 (c3.app (RpA.one r8))).wo
                  · have := R8.sl.wipe own
                    rw [w5, wipe_wipe] at this
                    exact this
                · cases q3
theorem em_comp {K : PySem.W.Frag} {own : List Nat} {wi : TI} {mi : M (List Dt)} {g : TG} {gm : Vl → En → Option En} {tt : TT} {mt : M Bool} {te : TE} {m : M Vl} (hi : IM K wi mi) (hg : GcM K own g gm) (ht : TM K tt mt) (he : EM K te m) : EM K (tLc wi g tt te own) (compM own mi gm mt m) := fun {μ Hd H σ E r E'} R e Q q => by
  unfold compM at e
  cases q1 : mi E with
  | none =>
    rw [q1] at e
    cases e
  | some p =>
    obtain ⟨ds, E1⟩ := p
    rw [q1] at e
    have e : (match compL own E1.ce.length gm mt m ds ⟨E1.sl, E1.ce ++ [.lst []]⟩ with
    | some E2 => some (Vl.c E1.ce.length, (⟨bring E1.sl E2.sl own, E2.ce⟩ : En))
    | none => none) = some (r, E') := e
    cases q2 : compL own E1.ce.length gm mt m ds ⟨E1.sl, E1.ce ++ [.lst []]⟩ with
    | none =>
      rw [q2] at e
      cases e
    | some E2 =>
      rw [q2] at e
      cases e
      exact hi R q1 _ fun μ1 Hd1 H1 J g1 R1 sv => comp_at hg ht he R1 sv q2 Q fun μ' Hd' H' v g2 R2 r2 => q μ' Hd' H' v (g1.trans g2) R2 r2
section
variable {X : Cx} {elt tg iter e a o : Expr} {es ifs : List Expr} {te ta to : TE} {m ma mo : M Vl} {tes : TA} {mes : M (List Vl)} {pos apos cpos : Pos} {name : Str}
structure Px (X : Cx) (ifs : List Expr) (tt : TT) (m : M Bool) : Prop where
  pt : PTs X ifs tt
  tm : TM X.K tt m
theorem pnil : Px X [] tYes (retM true) := ⟨pts_nil, fun {μ Hd H σ E b E'} R e Q q => by
  cases e
  exact q μ Hd H (Gr.refl μ Hd) R⟩
theorem pone {tt : TT} {mt : M Bool} (h : Tx X a tt mt) : Px X [a] tt mt := ⟨pts_one h.pt, h.tm⟩
structure Gc (X : Cx) (own : List Nat) (tg : Expr) (g : TG) (f : Vl → En → Option En) : Prop where
  pg : PG X tg g
  gm : GcM X.K own g f
theorem gcname (i : Nat) {x : Str} {vs : List Nat} (hm : i ∈ vs) (hN : X.N.Nodup) (hi : X.N[i]? = some x := by rfl) (hx : Loc X.env.scope x := by first | exact Or.inl rfl | exact Or.inr rfl) (hf : X.fn x = true ∨ X.env.scope.names.lookup x = some .local := by first | exact .inl rfl | exact .inr rfl) :
    Gc X vs (.Name x pos) (gName i) (nameG i) := ⟨pg_name hN hi hx hf, gcm_name hm⟩
theorem xcomp {scope : Scope} {own : List (Str × Nat)} {wi : TI} {mi : M (List Dt)} {g : TG} {gm : Vl → En → Option En} {tt : TT} {mt : M Bool} (hc : X.calm = true) (hN : X.N.Nodup) (hi : Ix_ X tg iter wi mi) (ok : BlkOk X.N X.env.scope scope own)
    (hg : ∀ (s : Shared) (H : Hp) (C : Addr) (cl : List (Str × Addr)) (fp : List Addr), Gc (X.blk s H scope (compEnvC scope cl C X.env) fp) (own.map (·.2)) tg g gm)
    (ht : ∀ (s : Shared) (H : Hp) (C : Addr) (cl : List (Str × Addr)) (fp : List Addr), Px (X.blk s H scope (compEnvC scope cl C X.env) fp) ifs tt mt)
    (he : ∀ (s : Shared) (H : Hp) (C : Addr) (cl : List (Str × Addr)) (fp : List Addr), Ex_ (X.blk s H scope (compEnvC scope cl C X.env) fp) elt te m) (hs : ∀ x, foldedSetIterable iter X.env x = pure x := by intro _; rfl) :
    Ex_ X (.ListComp elt [⟨tg, iter, ifs, 0⟩] scope pos) (tLc wi g tt te (own.map (·.2))) (compM (own.map (·.2)) mi gm mt m) :=
  ⟨pe_lc hc hN hi.pi ok (fun s H C cl fp => (hg s H C cl fp).pg) (fun s H C cl fp => (ht s H C cl fp).pt) (fun s H C cl fp => (he s H C cl fp).pe) hs,
   em_comp hi.im (hg X.s_0 X.H_0 0 [] []).gm (ht X.s_0 X.H_0 0 [] []).tm (he X.s_0 X.H_0 0 [] []).em⟩
/-- name = [..] -/
theorem ssetC (i : Nat) {y : Str} {py spos : Pos} {scope : Scope} {own : List (Str × Nat)} {wi : TI} {mi : M (List Dt)} {g : TG} {gm : Vl → En → Option En} {tt : TT} {mt : M Bool} (hc : X.calm = true) (hN : X.N.Nodup) (hy : X.N[i]? = some y) (hyl : X.env.scope.names.lookup y = some .local)
    (hsw : swapsWith (.ListComp elt [⟨tg, iter, ifs, 0⟩] scope pos) (some (.Name y py)) spos.line X.env = pure true) (hi : Ix_ X tg iter wi mi) (ok : BlkOk X.N X.env.scope scope own)
    (hg : ∀ (s : Shared) (H : Hp) (C : Addr) (cl : List (Str × Addr)) (fp : List Addr), Gc (X.blk s H scope (compEnvC scope cl C X.env) fp) (own.map (·.2)) tg g gm)
    (ht : ∀ (s : Shared) (H : Hp) (C : Addr) (cl : List (Str × Addr)) (fp : List Addr), Px (X.blk s H scope (compEnvC scope cl C X.env) fp) ifs tt mt)
    (he : ∀ (s : Shared) (H : Hp) (C : Addr) (cl : List (Str × Addr)) (fp : List Addr), Ex_ (X.blk s H scope (compEnvC scope cl C X.env) fp) elt te m) (hs : ∀ x, foldedSetIterable iter X.env x = pure x := by intro _; rfl) :
    Sx X (.Assign [.Name y py] (.ListComp elt [⟨tg, iter, ifs, 0⟩] scope pos) spos) (tAsg (tLc wi g tt te (own.map (·.2))) (gName i)) (setS i (compM (own.map (·.2)) mi gm mt m)) :=
  ⟨ps_setLc hc hN hy hyl hsw hi.pi ok (fun s H C cl fp => (hg s H C cl fp).pg) (fun s H C cl fp => (ht s H C cl fp).pt) (fun s H C cl fp => (he s H C cl fp).pe) hs,
   sm_set i (em_comp hi.im (hg X.s_0 X.H_0 0 [] []).gm (ht X.s_0 X.H_0 0 [] []).tm (he X.s_0 X.H_0 0 [] []).em)⟩
/-- a list is data from here on -/
def fzV (m : M Vl) : M Vl := bindM (bindM m fzM) fun d => retM (.d d)
theorem xfz (h : Ex_ X e te m) : Ex_ X e te (fzV m) := ⟨h.pe, fun {μ Hd H σ E r E'} R q Q k => by
  obtain ⟨d, E1, e1, e2⟩ := bindM_some q
  obtain ⟨r0, E2, e3, e4⟩ := bindM_some e1
  cases e2
  exact h.em R e3 _ fun μ1 Hd1 H1 v g1 R1 r1 => by
    obtain ⟨Hd2, g2, R2, r2⟩ := fzM_ok R1 r1 e4
    exact k μ1 Hd2 H1 v (g1.trans g2) R2 r2⟩
/-! ### methods of a list, of a text -/
def tyB (T : String) : Dt → Bool
  | .lst _ => T == "list"
  | .str _ => T == "str"
  | _ => false
theorem tyB_ok {K : PySem.W.Frag} {H : Hp} {T : String} {d : Dt} {v : V} (h : Rp K H d v) (e : tyB T d = true) : tyV K T v H := by
  unfold tyB at e
  split at e
  · obtain ⟨a, xs, rfl, h2, _⟩ := h
    exact .inl ⟨by simpa using e, xs, sq_of h2⟩
  · rename_i s
    cases (show v = .str s from h)
    exact (by simpa using e : T = "str")
  · cases e
def bmM (T : String) (mo : M Vl) (ma : M (List Vl)) (f : Vl → List Vl → M Vl) : M Vl := bindM mo fun x => fun E => match see E.ce x with
  | some d => if tyB T d = true then (bindM ma fun xs => f x xs) E else none
  | none => none
theorem em_bm {K : PySem.W.Frag} {T : String} {r : V → List V → Hp → VK → Prop} {f : Vl → List Vl → M Vl} {ta : TA} {ma : M (List Vl)} (ho : EM K to mo) (ha : AM K ta ma) (hf : MM K T r f) : EM K (tBM K T r to ta) (bmM T mo ma f) := fun {μ Hd H σ E z E'} R e Q q => by
  obtain ⟨x, E1, e1, e2⟩ := bindM_some e
  split at e2
  · rename_i d e3
    split at e2
    · rename_i e4
      obtain ⟨xs, E2, e5, e6⟩ := bindM_some e2
      refine ho R e1 _ fun μ1 Hd1 H1 v g1 R1 r1 => ⟨tyB_ok (see_ok R1.wo r1 e3) e4, ?_⟩
      refine ha R1 e5 _ fun μ2 Hd2 H2 vs g2 R2 r2 => ?_
      exact hf R2 (Rv.gr g2 r1) r2 e6 Q fun μ3 Hd3 H3 w g3 R3 r3 => q μ3 Hd3 H3 w ((g1.trans g2).trans g3) R3 r3
    · cases e2
  · cases e2
theorem em_bm0 {K : PySem.W.Frag} {T : String} {r : V → List V → Hp → VK → Prop} {f : Vl → List Vl → M Vl} (ho : EM K to mo) (hf : MM K T r f) : EM K (tBM0 K T r to) (bmM T mo (retM []) f) := fun {μ Hd H σ E z E'} R e Q q => by
  obtain ⟨x, E1, e1, e2⟩ := bindM_some e
  split at e2
  · rename_i d e3
    split at e2
    · rename_i e4
      refine ho R e1 _ fun μ1 Hd1 H1 v g1 R1 r1 => ⟨tyB_ok (see_ok R1.wo r1 e3) e4, ?_⟩
      exact hf R1 r1 .nil e2 Q fun μ3 Hd3 H3 w g3 R3 r3 => q μ3 Hd3 H3 w (g1.trans g3) R3 r3
    · cases e2
  · cases e2
/-- the list of a cell, changed -/
def onC (f : List Dt → Option (Dt × List Dt)) : Vl → M Vl
  | .c k => fun E => match E.ce[k]? with
    | some (.lst xs) => match f xs with
      | some (d, ys) => some (.d d, ⟨E.sl, E.ce.set k (.lst ys)⟩)
      | none => none
    | _ => none
  | _ => failM
theorem onC_some {f : List Dt → Option (Dt × List Dt)} {x z : Vl} {E E' : En} (h : onC f x E = some (z, E')) : ∃ k xs d ys, x = .c k ∧ E.ce[k]? = some (.lst xs) ∧ f xs = some (d, ys) ∧ z = .d d ∧ E' = ⟨E.sl, E.ce.set k (.lst ys)⟩ := by
  cases x with
  | d d => cases h
  | t rs => cases h
  | c k =>
    have h : (match E.ce[k]? with
      | some (.lst xs) => match f xs with
        | some (d, ys) => some (Vl.d d, (⟨E.sl, E.ce.set k (.lst ys)⟩ : En))
        | none => none
      | _ => none) = some (z, E') := h
    split at h
    · rename_i xs e1
      split at h
      · rename_i d ys e2
        cases h
        exact ⟨k, xs, d, ys, rfl, e1, e2, rfl, rfl⟩
      · cases h
    · cases h
def appF : Vl → List Vl → M Vl := fun x xs => match xs with
  | [r] => bindM (fzM r) fun d => onC (fun acc => if acc.length < 100000 then some (.non, acc ++ [d]) else none) x
  | _ => failM
theorem mm_append {K : PySem.W.Frag} : MM K "list" rAppend appF := fun {μ Hd H σ E x vx xs vs z E'} R hx hxs e Q q => by
  unfold appF at e
  split at e
  · rename_i r
    obtain ⟨d, E1, e1, e2⟩ := bindM_some e
    obtain ⟨v, rfl, hv⟩ := hxs.one
    obtain ⟨Hd1, g1, R1, r1⟩ := fzM_ok R hv e1
    obtain ⟨k, acc, d2, ys, rfl, e3, e4, rfl, rfl⟩ := onC_some e2
    split at e4
    · rename_i hz
      cases e4
      obtain ⟨a, ha, rfl⟩ := Rv.gr g1 hx
      obtain ⟨c1, us, c2, c3⟩ := R1.wo.lst e3 ha
      exact ⟨a, us, v, rfl, rfl, c2, by rw [c3.len]; exact sz_lt hz, q _ _ _ _ g1 (R1.setC e3 ha (c3.app (RpA.one r1))) rfl⟩
    · cases e4
  · cases e
def popF : Vl → List Vl → M Vl := fun x xs => match xs with
  | [] => onC (fun acc => match acc[acc.length - 1]? with
    | some d => some (d, acc.dropLast)
    | none => none) x
  | _ => failM
theorem mm_pop {K : PySem.W.Frag} : MM K "list" rPop popF := fun {μ Hd H σ E x vx xs vs z E'} R hx hxs e Q q => by
  unfold popF at e
  split at e
  · cases hxs
    obtain ⟨k, acc, d2, ys, rfl, e3, e4, rfl, rfl⟩ := onC_some e
    split at e4
    · rename_i d hd
      cases e4
      obtain ⟨a, ha, rfl⟩ := hx
      obtain ⟨c1, us, c2, c3⟩ := R.wo.lst e3 ha
      obtain ⟨v, v1, v2⟩ := RpA.at c3 hd
      exact ⟨a, us, v, rfl, rfl, c2, by rw [c3.len]; exact v1, q _ _ _ _ (Gr.refl μ Hd) (R.setC e3 ha c3.dropLast) v2⟩
    · cases e4
  · cases e
def clearF : Vl → List Vl → M Vl := fun x xs => match xs with
  | [] => onC (fun acc => some (.non, [])) x
  | _ => failM
theorem mm_clear {K : PySem.W.Frag} : MM K "list" rClear clearF := fun {μ Hd H σ E x vx xs vs z E'} R hx hxs e Q q => by
  unfold clearF at e
  split at e
  · cases hxs
    obtain ⟨k, acc, d2, ys, rfl, e3, e4, rfl, rfl⟩ := onC_some e
    cases e4
    obtain ⟨a, ha, rfl⟩ := hx
    obtain ⟨c1, us, c2, c3⟩ := R.wo.lst e3 ha
    exact ⟨a, us, rfl, rfl, c2, q _ _ _ _ (Gr.refl μ Hd) (R.setC e3 ha (show RpA K Hd [] [] from rfl)) rfl⟩
  · cases e
/-- xs.extend(ys), ys a list -/
def extF : Vl → List Vl → M Vl := fun x xs => match xs with
  | [r] => fun E => match see E.ce r with
    | some (.lst ds) => onC (fun acc => if acc.length + ds.length ≤ 100000 then some (.non, acc ++ ds) else none) x E
    | _ => none
  | _ => failM
theorem mm_extend {K : PySem.W.Frag} : MM K "list" rExtend extF := fun {μ Hd H σ E x vx xs vs z E'} R hx hxs e Q q => by
  unfold extF at e
  split at e
  · rename_i r
    split at e
    · rename_i ds e1
      obtain ⟨v, rfl, hv⟩ := hxs.one
      obtain ⟨b, us, rfl, h2, h3⟩ := see_lst R.wo hv e1
      obtain ⟨k, acc, d2, ys, rfl, e3, e4, rfl, rfl⟩ := onC_some e
      split at e4
      · rename_i hz
        cases e4
        obtain ⟨a, ha, rfl⟩ := hx
        obtain ⟨c1, ws, c2, c3⟩ := R.wo.lst e3 ha
        exact ⟨a, b, ws, us, rfl, rfl, c2, h2, by rw [c3.len, h3.len]; exact sz_of hz, q _ _ _ _ (Gr.refl μ Hd) (R.setC e3 ha (c3.app h3)) rfl⟩
      · cases e4
    · cases e
  · cases e
/-- o[i] = e, o a cell's list -/
def setIS (m mo mi : M Vl) : En → Option Rs := fun E => match (bindM m fun r => bindM mo fun o => bindM mi fun i => match i with
    | .d (.int j) => bindM (fzM r) fun d => onC (fun acc => (ixN acc.length j).map fun n => (.non, acc.set n d)) o
    | _ => failM) E with
  | some (_, E1) => some (.nx E1)
  | none => none
theorem ssetI {i : Expr} {ti : TE} {mi : M Vl} {p3 : Pos} (h : Ex_ X e te m) (ho : Ex_ X o to mo) (hi : Ex_ X i ti mi) (pg : PG X (.Subscript o i p3) (gSub to ti rSetL))
    (hs : swapsWithSole [.Subscript o i p3] e pos.line X.env = pure false := by rfl) (hw : swappedStores [.Subscript o i p3] e X.env = pure none := by rfl) (h1 : (assignEach [.Subscript o i p3] X.env).map (·.2) = [assign (.Subscript o i p3) X.env] := by rfl) :
    Sx X (.Assign [.Subscript o i p3] e pos) (tAsg te (gSub to ti rSetL)) (setIS m mo mi) := ⟨ps_asg h.pe pg hs hw h1, fun {μ Hd H σ E R} r q D d => by
  unfold setIS at q
  split at q
  · rename_i u E1 e1
    cases q
    obtain ⟨x, E2, e2, e1⟩ := bindM_some e1
    obtain ⟨y, E3, e3, e1⟩ := bindM_some e1
    obtain ⟨z, E4, e4, e1⟩ := bindM_some e1
    refine h.em r e2 _ fun μ1 Hd1 H1 v g1 R1 r1 => ?_
    refine ho.em R1 e3 _ fun μ2 Hd2 H2 w g2 R2 r2 => ?_
    refine hi.em R2 e4 _ fun μ3 Hd3 H3 w3 g3 R3 r3 => ?_
    split at e1
    · rename_i j
      obtain ⟨dd, E5, e5, e1⟩ := bindM_some e1
      obtain ⟨Hd4, g4, R4, r4⟩ := fzM_ok R3 (Rv.gr (g2.trans g3) r1) e5
      obtain ⟨k, acc, d2, ys, rfl, e6, e7, rfl, rfl⟩ := onC_some e1
      cases q2 : ixN acc.length j with
      | none =>
        rw [q2] at e7
        cases e7
      | some n =>
        rw [q2] at e7
        cases e7
        obtain ⟨a, ha, rfl⟩ := Rv.gr (g3.trans g4) r2
        obtain ⟨c1, us, c2, c3⟩ := R4.wo.lst e6 ha
        exact ⟨a, us, j, n, rfl, r3, c2, by rw [c3.len]; exact q2, d _ _ _ _ (((g1.trans g2).trans g3).trans g4) (R4.setC e6 ha (c3.set n r4))⟩
    · cases e1
  · cases q⟩
end
end Hk
/-! Hk6: calls of own defs, isinstance, short rules by name. -/
namespace Hk
open PySem PySem.Spec PyProof.Rows L2 Evl
section
variable {K : PySem.W.Frag}
theorem om_sub : OM K (rI0 fun i j => .int (i - j)) (op2 subF) := om_intI0
theorem om_mod : OM K (rI (fun _ j => j ≠ 0) fun i j => .int (i.fmod j)) (op2 modF) := om_intI
theorem om_fdiv : OM K (rI CDivN fun i j => .int (i.fdiv j)) (op2 fdivF) := om_intI
theorem om_pow : OM K (rI CPow fun i j => .int (i ^ j.toNat)) (op2 powF) := om_intI
theorem om_lt : OM K (rI0 fun i j => .bl (decide (i < j))) (op2 ltF) := om_intB
theorem om_le : OM K (rI0 fun i j => .bl (decide (i ≤ j))) (op2 leF) := om_intB
theorem om_gt : OM K (rI0 fun i j => .bl (decide (j < i))) (op2 gtF) := om_intB
theorem om_ge : OM K (rI0 fun i j => .bl (decide (j ≤ i))) (op2 geF) := om_intB
theorem op2_bl {f : Dt → Dt → Option Dt} (h : ∀ a b d, f a b = some d → ∃ k, d = .bl k) : ∀ x y E z E', op2 f x y E = some (z, E') → ∃ k, z = .d (.bl k) := fun x y E z E' e => by
  obtain ⟨a, b, d, _, _, e3, rfl, _⟩ := op2_some e
  obtain ⟨k, rfl⟩ := h a b d e3
  exact ⟨k, rfl⟩
theorem intB_bl {f : Int → Int → Bool} : ∀ a b d, intF (fun i j => some (Dt.bl (f i j))) a b = some d → ∃ k, d = .bl k := fun a b d e => by
  obtain ⟨i, j, _, _, e⟩ := intF_some e
  cases e
  exact ⟨_, rfl⟩
theorem le_bl : ∀ x y E z E', op2 leF x y E = some (z, E') → ∃ k, z = .d (.bl k) := op2_bl intB_bl
theorem lt_bl : ∀ x y E z E', op2 ltF x y E = some (z, E') → ∃ k, z = .d (.bl k) := op2_bl intB_bl

/-! ### isinstance -/
def tyN : Dt → Option String
  | .non => some "NoneType"
  | .bl _ => some "bool"
  | .int _ => some "int"
  | .str _ => some "str"
  | .lst _ => some "list"
  | .tup _ => some "tuple"
  | _ => none
theorem tyN_ok {H : Hp} {d : Dt} {v : V} {n : String} (h : Rp K H d v) (e : tyN d = some n) : TyX K H v (.type n) := by
  cases d with
  | non =>
    cases e
    cases (show v = .non from h)
    exact .base .non
  | bl b =>
    cases e
    cases (show v = .bl b from h)
    exact .base (.bl b)
  | int b =>
    cases e
    cases (show v = .int b from h)
    exact .base (.int b)
  | str b =>
    cases e
    cases (show v = .str b from h)
    exact .base (.str b)
  | lst xs =>
    cases e
    obtain ⟨a, vs, rfl, h2, _⟩ := h
    exact .base (.lst h2)
  | tup xs =>
    cases e
    obtain ⟨a, vs, rfl, h2, _⟩ := h
    rcases h2 with (h2 | ⟨o, h2⟩) | ⟨o, its, n, h2, h3, _⟩
    · exact .base (.tup h2)
    · exact .fTuple h2
    · exact .kTuple h2 h3
  | dic _ _ => cases e
  | sq xs => cases e
  | obj _ _ _ => cases e
  | cls _ => cases e
  | exc _ _ _ => cases e
def isiF (n : String) : Dt → Option Dt := fun d => match tyN d with
  | some t => (kitB t n).map .bl
  | none => none
def isi2F (n1 n2 : String) : Dt → Option Dt := fun d => match tyN d with
  | some t => match kitB t n1, kitB t n2 with
    | some a, some b => some (.bl (a || b))
    | _, _ => none
  | none => none
def seeF (f : Dt → Option Dt) (x : Vl) : M Vl := fun E => match see E.ce x with
  | some a => (f a).map fun d => (.d d, E)
  | none => none
theorem seeF_some {f : Dt → Option Dt} {x z : Vl} {E E' : En} (h : seeF f x E = some (z, E')) : ∃ a d, see E.ce x = some a ∧ f a = some d ∧ z = .d d ∧ E' = E := by
  unfold seeF at h
  cases e1 : see E.ce x with
  | none =>
    rw [e1] at h
    cases h
  | some a =>
    rw [e1] at h
    cases q : f a with
    | none => simp [q] at h
    | some d =>
      simp only [q, Option.map_some, Option.some.injEq, Prod.mk.injEq] at h
      obtain ⟨rfl, rfl⟩ := h
      exact ⟨a, d, rfl, q, rfl, rfl⟩
theorem em_isi {ta : TE} {ma : M Vl} {n : String} (ha : EM K ta ma) : EM K (tCB (rIsi K) (tCons ta (tCons (tC (.ty n)) tNil))) (bindM ma (seeF (isiF n))) := fun {μ Hd H σ E r E'} R e Q q => by
  obtain ⟨x, E1, e1, e2⟩ := bindM_some e
  obtain ⟨d, z, e3, e4, rfl, rfl⟩ := seeF_some e2
  refine ha R e1 _ fun μ1 Hd1 H1 v g1 R1 r1 => ?_
  unfold isiF at e4
  cases e5 : tyN d with
  | none =>
    rw [e5] at e4
    cases e4
  | some t =>
    rw [e5] at e4
    have e4 : (kitB t n).map Dt.bl = some z := e4
    cases e6 : kitB t n with
    | none =>
      rw [e6] at e4
      cases e4
    | some b =>
      rw [e6] at e4
      cases e4
      exact ⟨v, .ty n, .type t, .type n, b, rfl, .ty n, tyN_ok (see_ok R1.wo r1 e3) e5, kit_ty e6, q _ _ _ _ g1 R1 rfl⟩
theorem em_isi2 {ta : TE} {ma : M Vl} {n1 n2 : String} (ha : EM K ta ma) : EM K (tCB (rIsiT K) (tCons ta (tCons (tTup (tCons (tC (.ty n1)) (tCons (tC (.ty n2)) tNil))) tNil))) (bindM ma (seeF (isi2F n1 n2))) := fun {μ Hd H σ E r E'} R e Q q => by
  obtain ⟨x, E1, e1, e2⟩ := bindM_some e
  obtain ⟨d, z, e3, e4, rfl, rfl⟩ := seeF_some e2
  refine ha R e1 _ fun μ1 Hd1 H1 v g1 R1 r1 => ?_
  unfold isi2F at e4
  cases e5 : tyN d with
  | none =>
    rw [e5] at e4
    cases e4
  | some t =>
    rw [e5] at e4
    have e4 : (match kitB t n1, kitB t n2 with
      | some a, some b => some (Dt.bl (a || b))
      | _, _ => none) = some z := e4
    split at e4
    · rename_i a b e6 e7
      cases e4
      refine ⟨by show 2 ≤ sizeLine; exact sz_of (by decide), fun p hp => ?_⟩
      obtain ⟨g2, R2⟩ := R1.newD (o := .tup [.ty n1, .ty n2]) hp
      refine ⟨v, p, [.ty n1, .ty n2], .type t, [.type n1, .type n2], a || b, rfl, upd_same, .cons (.ty n1) (.cons (.ty n2) .nil), tyN_ok (Rp.ex (Ex.new hp) _ _ (see_ok R1.wo r1 e3)) e5, ?_, q _ _ _ _ (g1.trans g2) R2 rfl⟩
      exact kitAny_cons (kit_ty e6) (fun ha => kitAny_cons (kit_ty e7) (fun hb => by rw [ha, hb]; exact kitAny_nil) (fun hb => by rw [ha, hb]; rfl)) (fun ha => by rw [ha]; rfl)
    · cases e4
end
section
variable {X : Cx} {a e : Expr} {es : List Expr} {ta te : TE} {ma m : M Vl} {tes : TA} {mes : M (List Vl)} {pos p p2 p3 : Pos}
theorem xisi {x : Str} {n : String} (hm : X.mg "isinstance" = none) (ha : Ex_ X a ta ma) (hmx : X.mg x = none) (hv : bootBuiltins x = some (.type n)) (hg : Gl X "isinstance" := by rfl) (hgx : Gl X x := by rfl) (hn : x ≠ "__name__" := by decide) (hdb : (x == ("__debug__" : Str)) = false := by decide) (hcd : (x == ("__classdict__" : Str)) = false := by decide)
    (h1 : starEach [a, .Name x p2] X.env = (false, eval a X.env) :: starEach [.Name x p2] X.env := by rfl) (h2 : starEach [.Name x p2] X.env = [(false, eval (.Name x p2) X.env)] := by rfl) (h3 : (backTo pos (starEach [.Name x p2] X.env)).any (·.1) = false := by rfl) :
    Ex_ X (.Call (.Name "isinstance" p) [a, .Name x p2] [] pos) (tCB (rIsi X.K) (tCons ta (tCons (tC (.ty n)) tNil))) (bindM ma (seeF (isiF n))) :=
  ⟨pe_callB call_isi hg hm (by decide +kernel) (pa_cons ha.pe (pa_cons (pe_bltn hgx hmx hv (v := .ty n) rfl hn hdb) pa_nil h2) h1) (by decide) (by decide) h1 h3, em_isi ha.em⟩
/-- a call of a def -/
theorem xcall {x : Str} {n k : Nat} {f : Addr} {fd : FuncData} {ps : List Str} {G : Fn} {CX : CXT} {E : XK} (F : FnOk X.prog X.w X.K X.mg X.base CX k f fd ps (spM X.K n G)) (hr : Room k X.A) (hm : X.mg x = some (.ref f)) (hk : PySem.W.keepIn X.K (.ref f) = true) (hb : Binds X.K fd ps [])
    (ha : Ax X (e :: es) tes mes) (hn : ∀ (E : En) (rs : List Vl) (E' : En), mes E = some (rs, E') → rs.length = n) (hx : Passes CX X E) (hg : Gl X x := by rfl) (hdb : (x == ("__debug__" : Str)) = false := by decide)
    (he : starEach (e :: es) X.env = (false, eval e X.env) :: starEach es X.env := by rfl) (hpl : (backTo pos (starEach es X.env)).any (·.1) = false := by rfl) :
    Ex_ X (.Call (.Name x p) (e :: es) [] pos) (tCall (spM X.K n G) [] E tes) (callM G mes) := ⟨pe_call F hr hg hm hk hb .nil hx ha.pa hdb he hpl, em_call hn ha.am⟩
theorem xcall0 {x : Str} {k : Nat} {f : Addr} {fd : FuncData} {G : Fn} {CX : CXT} {E : XK} (F : FnOk X.prog X.w X.K X.mg X.base CX k f fd [] (spM X.K 0 G)) (hr : Room k X.A) (hm : X.mg x = some (.ref f)) (hk : PySem.W.keepIn X.K (.ref f) = true) (hb : Binds X.K fd [] [])
    (hx : Passes CX X E) (hg : Gl X x := by rfl) (hdb : (x == ("__debug__" : Str)) = false := by decide) :
    Ex_ X (.Call (.Name x p) [] [] pos) (tCall (spM X.K 0 G) [] E tNil) (callM G (retM [])) := ⟨pe_call0 F hr hg hm hk hb .nil hx hdb, em_call (nil_len rfl) anil.am⟩
/-- o.m(e, ..), o a list -/
theorem xlm {o : Expr} {to : TE} {mo : M Vl} {name : Str} {id : String} {r : V → List V → Hp → VK → Prop} {f : Vl → List Vl → M Vl} {apos cpos : Pos} (slot : Slot "list" name id) (hty : typeOf (.builtin id) = pure (.type "method_descriptor")) (hm : MtR X id r) (hf : MM X.K "list" r f) (ho : Ex_ X o to mo) (ha : Ax X (e :: es) tes mes)
    (hbase : attributeBase o name X.env (eval o X.env) = eval o X.env := by rfl)
    (hfew : ((backTo cpos (starEach (e :: es) X.env)).all (fun x => !x.1) && (backToKw cpos (keywordEach [] X.env)).all (fun x => x.1.isSome)
      && decide ((e :: es).length + ([] : List Keyword).length + (if ([] : List Keyword).isEmpty then 0 else 1) < 30)) = true := by rfl)
    (hline : (apos.endLine == cpos.line) = true := by rfl) (hs : starEach (e :: es) X.env = (false, eval e X.env) :: starEach es X.env := by rfl) (hplain : (backTo cpos (starEach es X.env)).any (·.1) = false := by rfl) :
    Ex_ X (.Call (.Attribute o name apos) (e :: es) [] cpos) (tBM X.K "list" r to tes) (bmM "list" mo mes f) := ⟨pe_bm PySem.F.plainAttrs_list slot hty hm ho.pe ha.pa hbase hfew hline hs hplain, em_bm ho.em ha.am hf⟩
theorem xlm0 {o : Expr} {to : TE} {mo : M Vl} {name : Str} {id : String} {r : V → List V → Hp → VK → Prop} {f : Vl → List Vl → M Vl} {apos cpos : Pos} (slot : Slot "list" name id) (hty : typeOf (.builtin id) = pure (.type "method_descriptor")) (hm : MtR X id r) (hf : MM X.K "list" r f) (ho : Ex_ X o to mo)
    (hbase : attributeBase o name X.env (eval o X.env) = eval o X.env := by rfl) (hline : (apos.endLine == cpos.line) = true := by rfl) :
    Ex_ X (.Call (.Attribute o name apos) [] [] cpos) (tBM0 X.K "list" r to) (bmM "list" mo (retM []) f) := ⟨pe_bm0 PySem.F.plainAttrs_list slot hty hm ho.pe hbase hline, em_bm0 ho.em hf⟩
/-- -n, n written -/
def negM (m : M Vl) : M Vl := bindM m fun r => match r with
  | .d (.int i) => retM (.d (.int (-i)))
  | _ => failM
theorem xneg (ha : Ex_ X a ta ma) : Ex_ X (.UnaryOp .USub a pos) (tUn (rU fun i => .int (-i)) ta) (negM ma) := ⟨pe_un un_neg ha.pe, fun {μ Hd H σ E r E'} R q Q k => by
  obtain ⟨x, E1, e1, e2⟩ := bindM_some q
  split at e2
  · rename_i i
    cases e2
    exact ha.em R e1 _ fun μ1 Hd1 H1 v g1 R1 r1 => ⟨i, r1, k _ _ _ _ g1 R1 rfl⟩
  · cases e2⟩
theorem re_te {te' : TE} (h : Ex_ X e te m) (q : te = te') : Ex_ X e te' m := q ▸ h
theorem re_tt {ifs : List Expr} {tt tt' : TT} {mt : M Bool} (h : Px X ifs tt mt) (q : tt = tt') : Px X ifs tt' mt := q ▸ h
theorem body_ok {st : List Stmt} {ts : TS} {m : En → Option Rs} {n nl : Nat} {N : List Str} {vs : List V} {H : Hp} {Q : VK} {E : XK} (B : Bx X st ts m) (hN : N.length = n + nl) (h : spM X.K n (fnOf nl m) vs H Q E) :
    ∃ t, PSs X st t ∧ t { nx := fun _ H' => Q .non H', rt := Q } (L2.start N vs) H := ⟨ts, B.ps, run_fn B.sm hN h⟩
end
end Hk
/-! Hk7: reckoning with what a def does, from the left: one rule a piece. -/
namespace Hk
open PySem PySem.Spec PyProof.Rows L2 Evl
section
variable {α β : Type} {E E1 E2 E3 : En} {a : α} {b : β} {r x y z : Vl} {d e d1 d2 : Dt} {k : Bool} {R Q : Rs} {rs : List Vl}
theorem get_new {α : Type} (l : List α) (x : α) : (l ++ [x])[l.length]? = some x := by simp
theorem set_new {α : Type} (l : List α) (x y : α) : (l ++ [x]).set l.length y = l ++ [y] := by
  rw [List.set_append_right _ _ (Nat.le_refl _)]
  simp
theorem get_set {α : Type} {l : List α} {k : Nat} {x y : α} (h : l[k]? = some y) : (l.set k x)[k]? = some x := by
  rw [List.getElem?_set, if_pos rfl, if_pos (List.getElem?_eq_some_iff.mp h).1]
theorem zv_ret {a : α} : retM a E = some (a, E) := rfl
theorem zv_bind {m : M α} {f : α → M β} (h : m E = some (a, E1)) (g : f a E1 = some (b, E2)) : bindM m f E = some (b, E2) := by
  unfold bindM
  rw [h]
  exact g
theorem zv_var {i : Nat} {sl : List (Option Vl)} {ce : List Ce} (h : sl[i]? = some (some r)) : vM i ⟨sl, ce⟩ = some (r, ⟨sl, ce⟩) := by
  unfold vM
  rw [show (En.mk sl ce).sl = sl from rfl, h]
theorem zv_cons {m : M Vl} {ms : M (List Vl)} (h : m E = some (x, E1)) (g : ms E1 = some (rs, E2)) : consM m ms E = some (x :: rs, E2) := zv_bind h (zv_bind g zv_ret)
theorem zv_op2 {f : Dt → Dt → Option Dt} (h1 : see E.ce x = some d1) (h2 : see E.ce y = some d2) (h : f d1 d2 = some d) : op2 f x y E = some (.d d, E) := by
  unfold op2
  rw [h1, h2]
  show (f d1 d2).map _ = _
  rw [h]
  rfl
theorem zv_seeD {ce : List Ce} : see ce (.d d) = some d := rfl
theorem zv_seeX {ce : List Ce} {k : Nat} {c : Ce} (h : ce[k]? = some c) (hd : dataC c = some d) : see ce (.c k) = some d := by
  show (ce[k]?).bind dataC = _
  rw [h]
  exact hd
theorem zv_seeC {ce : List Ce} {k : Nat} {xs : List Dt} (h : ce[k]? = some (.lst xs)) : see ce (.c k) = some (.lst xs) := zv_seeX h rfl
theorem zv_fzD : fzM (.d d) E = some (d, E) := rfl
theorem zv_fzX {k : Nat} {c : Ce} {d : Dt} {sl : List (Option Vl)} {ce : List Ce} (h : ce[k]? = some c) (hd : dataC c = some d) : fzM (.c k) ⟨sl, ce⟩ = some (d, ⟨sl.map (Option.map (frzV k d)), ce.set k .dead⟩) := by
  show (match (ce[k]?).bind dataC with
    | some d => some (d, frz k d ⟨sl, ce⟩)
    | none => none) = _
  rw [h]
  show (match dataC c with
    | some d => some (d, frz k d ⟨sl, ce⟩)
    | none => none) = _
  rw [hd]
  rfl
theorem zv_fzC {k : Nat} {xs : List Dt} {sl : List (Option Vl)} {ce : List Ce} (h : ce[k]? = some (.lst xs)) : fzM (.c k) ⟨sl, ce⟩ = some (.lst xs, ⟨sl.map (Option.map (frzV k (.lst xs))), ce.set k .dead⟩) := zv_fzX h rfl
theorem zv_fzV {m : M Vl} (h : m E = some (x, E1)) (g : fzM x E1 = some (d, E2)) : fzV m E = some (.d d, E2) := zv_bind (zv_bind h g) zv_ret
theorem zv_ix (h1 : see E.ce x = some d1) (h2 : see E.ce y = some d2) (h : ixD d1 d2 = some d) : ixF x y E = some (.d d, E) := by
  unfold ixF
  rw [h1, h2]
  show (ixD d1 d2).map _ = _
  rw [h]
  rfl
theorem zv_fn1 {f : Dt → Option Dt} (h1 : see E.ce x = some d1) (h : f d1 = some d) : fn1 f [x] E = some (.d d, E) := by
  show (match see E.ce x with
    | some a => (f a).map fun d => (Vl.d d, E)
    | none => none) = _
  rw [h1]
  show (f d1).map _ = _
  rw [h]
  rfl
theorem zv_fn2 {f : Dt → Dt → Option Dt} (h : op2 f x y E = some (z, E1)) : fn2 f [x, y] E = some (z, E1) := h
theorem zv_see {f : Dt → Option Dt} (h1 : see E.ce x = some d1) (h : f d1 = some d) : seeF f x E = some (.d d, E) := by
  unfold seeF
  rw [h1]
  show (f d1).map _ = _
  rw [h]
  rfl
theorem zv_bool : boolM (.d (.bl k)) E = some (k, E) := rfl
theorem zv_tru (h1 : see E.ce x = some d) (h : truD d = some k) : truM x E = some (k, E) := by
  unfold truM
  rw [h1]
  show (truD d).map _ = _
  rw [h]
  rfl
theorem zv_fzA0 : fzA [] E = some ([], E) := rfl
theorem zv_fzA1 {ds : List Dt} (h : fzM x E = some (d, E1)) (g : fzA rs E1 = some (ds, E2)) : fzA (x :: rs) E = some (d :: ds, E2) := zv_bind h (zv_bind g zv_ret)
theorem zv_newL {xs : List Dt} {sl : List (Option Vl)} {ce : List Ce} : newL xs ⟨sl, ce⟩ = some (.c ce.length, ⟨sl, ce ++ [.lst xs]⟩) := rfl
theorem zv_tup {m : M (List Vl)} {ds : List Dt} (h : m E = some (rs, E1)) (hl : rs.length ≤ 100000) (g : fzA rs E1 = some (ds, E2)) : tupM m E = some (.d (.tup ds), E2) := zv_bind h (by rw [if_pos hl]; exact zv_bind g zv_ret)
theorem zv_lst {m : M (List Vl)} {ds : List Dt} (h : m E = some (rs, E1)) (hl : rs.length ≤ 100000) (g : fzA rs E1 = some (ds, E2)) (n : newL ds E2 = some (z, E3)) : lstM m E = some (z, E3) := zv_bind h (by rw [if_pos hl]; exact zv_bind g n)
theorem zv_andT {m n : M Bool} (h : m E = some (k, E1)) (hk : k = true) {b : Bool} (g : n E1 = some (b, E2)) : andM m n E = some (b, E2) := zv_bind h (by rw [if_pos hk]; exact g)
theorem zv_andF {m n : M Bool} (h : m E = some (k, E1)) (hk : k = false) : andM m n E = some (false, E1) := zv_bind h (by rw [hk]; rfl)
theorem zv_orF {m n : M Bool} (h : m E = some (k, E1)) (hk : k = false) {b : Bool} (g : n E1 = some (b, E2)) : orM m n E = some (b, E2) := zv_bind h (by rw [hk]; exact g)
theorem zv_orT {m n : M Bool} (h : m E = some (k, E1)) (hk : k = true) : orM m n E = some (true, E1) := zv_bind h (by rw [hk]; rfl)
theorem zv_not {m : M Bool} (h : m E = some (k, E1)) : notM m E = some (!k, E1) := zv_bind h zv_ret
theorem zv_ifT {t : M Bool} {m n : M α} (h : t E = some (k, E1)) (hk : k = true) (g : m E1 = some (a, E2)) : ifM t m n E = some (a, E2) := zv_bind h (by rw [if_pos hk]; exact g)
theorem zv_ifF {t : M Bool} {m n : M α} (h : t E = some (k, E1)) (hk : k = false) (g : n E1 = some (a, E2)) : ifM t m n E = some (a, E2) := zv_bind h (by rw [hk]; exact g)
theorem zv_notV {m : M Vl} (h : bindM m boolM E = some (k, E1)) : notV m E = some (.d (.bl (!k)), E1) := zv_bind h zv_ret
theorem zv_neg {m : M Vl} {i : Int} (h : m E = some (.d (.int i), E1)) : negM m E = some (.d (.int (-i)), E1) := zv_bind h zv_ret
theorem zv_part {m : M Vl} {i : Int} (h : m E = some (.d (.int i), E1)) : partM m E = some (some i, E1) := zv_bind h zv_ret
theorem zv_call {G : Fn} {m : M (List Vl)} {sl : List (Option Vl)} {ce ce' : List Ce} (h : m E = some (rs, ⟨sl, ce⟩)) (g : G rs ce = some (z, ce')) : callM G m E = some (z, ⟨sl, ce'⟩) := zv_bind h (by
  show (match G rs ce with
    | some (z, ce) => some (z, (⟨sl, ce⟩ : En))
    | none => none) = _
  rw [g])
theorem zv_addI {i j : Int} (h1 : see E.ce x = some (.int i)) (h2 : see E.ce y = some (.int j)) : addF x y E = some (.d (.int (i + j)), E) := by
  unfold addF
  rw [h1, h2]
theorem zv_addT {xs ys : List Dt} (h1 : see E.ce x = some (.tup xs)) (h2 : see E.ce y = some (.tup ys)) (h : xs.length + ys.length ≤ 100000) : addF x y E = some (.d (.tup (xs ++ ys)), E) := by
  unfold addF
  rw [h1, h2]
  show (if _ then _ else _) = _
  rw [if_pos h]
theorem zv_addL {xs ys : List Dt} (h1 : see E.ce x = some (.lst xs)) (h2 : see E.ce y = some (.lst ys)) (h : xs.length + ys.length ≤ 100000) (g : newL (xs ++ ys) E = some (z, E1)) : addF x y E = some (z, E1) := by
  unfold addF
  rw [h1, h2]
  show (if _ then _ else _) = _
  rw [if_pos h, g]
theorem zv_addS {s t : Str} (h1 : see E.ce x = some (.str s)) (h2 : see E.ce y = some (.str t)) (h : s.length + t.length ≤ sizeLine) : addF x y E = some (.d (.str (s ++ t)), E) := by
  unfold addF
  rw [h1, h2]
  show (if _ then _ else _) = _
  rw [if_pos h]
theorem zv_mulI {i j : Int} (h1 : see E.ce x = some (.int i)) (h2 : see E.ce y = some (.int j)) (h : CMul i j) : mulF x y E = some (.d (.int (i * j)), E) := by
  unfold mulF
  rw [h1, h2]
  show (if _ then _ else _) = _
  rw [if_pos h]
theorem zv_mulT {xs : List Dt} {j : Int} (h1 : see E.ce x = some (.tup xs)) (h2 : see E.ce y = some (.int j)) (h : -1000 ≤ j ∧ j ≤ 1000 ∧ xs.length ≤ 1000 ∧ xs ≠ []) : mulF x y E = some (.d (.tup (List.replicate j.toNat xs).flatten), E) := by
  unfold mulF
  rw [h1, h2]
  show (if _ then _ else _) = _
  rw [if_pos h]
theorem zv_mulL {xs : List Dt} {j : Int} (h1 : see E.ce x = some (.lst xs)) (h2 : see E.ce y = some (.int j)) (h : -1000 ≤ j ∧ j ≤ 1000 ∧ xs.length ≤ 1000) (g : newL (List.replicate j.toNat xs).flatten E = some (z, E1)) : mulF x y E = some (z, E1) := by
  unfold mulF
  rw [h1, h2]
  show (if _ then _ else _) = _
  rw [if_pos h, g]
theorem zv_slT {xs : List Dt} {lo hi : Option Int} (h : see E.ce x = some (.tup xs)) : slF x lo hi E = some (.d (.tup (cutD xs lo hi)), E) := by
  unfold slF
  rw [h]
theorem zv_slL {xs : List Dt} {lo hi : Option Int} (h : see E.ce x = some (.lst xs)) (g : newL (cutD xs lo hi) E = some (z, E1)) : slF x lo hi E = some (z, E1) := by
  unfold slF
  rw [h]
  exact g
theorem zv_slS {s : Str} {lo hi : Option Int} (h : see E.ce x = some (.str s)) (hz : s.length ≤ sizeLine) : slF x lo hi E = some (.d (.str (cutS s lo hi)), E) := by
  unfold slF
  rw [h]
  show (if _ then _ else _) = _
  rw [if_pos hz]
theorem zv_list {ds : List Dt} (h : see E.ce x = some d) (hd : itemsD d = some ds) (g : newL ds E = some (z, E1)) : listF [x] E = some (z, E1) := by
  show (match (see E.ce x).bind itemsD with
    | some ds => newL ds E
    | none => none) = _
  rw [h]
  show (match itemsD d with
    | some ds => newL ds E
    | none => none) = _
  rw [hd]
  exact g
theorem zv_tuple {ds : List Dt} (h : see E.ce x = some d) (hd : itemsD d = some ds) : tupleF [x] E = some (.d (.tup ds), E) := by
  show (match (see E.ce x).bind itemsD with
    | some ds => some (Vl.d (.tup ds), E)
    | none => none) = _
  rw [h]
  show (match itemsD d with
    | some ds => some (Vl.d (.tup ds), E)
    | none => none) = _
  rw [hd]
theorem zv_items {m : M Vl} {ds : List Dt} (h : m E = some (x, E1)) (g : fzM x E1 = some (d, E2)) (hd : itemsD d = some ds) : itemsM m E = some (ds, E2) := zv_bind (zv_bind h g) (by
  show (itemsD d).map _ = _
  rw [hd]
  rfl)
theorem zv_rng1 {m : M (List Vl)} {n : Int} (h : m E = some ([.d (.int n)], E1)) (hn : -(2 ^ 62) ≤ n ∧ n < 2 ^ 62) : rng1M m E = some (rngL 0 n.toNat, E1) := zv_bind h (by
  show (if _ then _ else _) = _
  rw [if_pos hn])
theorem zv_rng2 {m : M (List Vl)} {i j : Int} (h : m E = some ([.d (.int i), .d (.int j)], E1)) (hn : -(2 ^ 62) ≤ i ∧ i < 2 ^ 62 ∧ -(2 ^ 62) ≤ j ∧ j < 2 ^ 62) : rng2M m E = some (rngL i (j - i).toNat, E1) := zv_bind h (by
  show (if _ then _ else _) = _
  rw [if_pos hn])
/-- data -/
theorem zw_int {g : Int → Int → Option Dt} {i j : Int} (h : g i j = some d) : intF g (.int i) (.int j) = some d := h
theorem zw_lenL {xs : List Dt} : lenD (.lst xs) = some (.int (xs.length : Int)) := rfl
theorem zw_lenQ {xs : List Dt} : lenD (.sq xs) = some (.int (xs.length : Int)) := rfl
theorem zw_lenT {xs : List Dt} : lenD (.tup xs) = some (.int (xs.length : Int)) := rfl
theorem zw_eq (h : eqd d1 d2 = some k) : eqF d1 d2 = some (.bl k) := by
  unfold eqF
  rw [h]
  rfl
theorem zw_ne (h : eqd d1 d2 = some k) : neF d1 d2 = some (.bl (!k)) := by
  unfold neF
  rw [h]
  rfl
theorem zw_mod {i j : Int} (h : j ≠ 0) : modF (.int i) (.int j) = some (.int (i.fmod j)) := by
  show (if j ≠ 0 then _ else _) = _
  rw [if_pos h]
theorem zw_fdiv {i j : Int} (h : CDivN i j) : fdivF (.int i) (.int j) = some (.int (i.fdiv j)) := by
  show (if CDivN i j then _ else _) = _
  rw [if_pos h]
theorem zw_pow {i j : Int} (h : CPow i j) : powF (.int i) (.int j) = some (.int (i ^ j.toNat)) := by
  show (if CPow i j then _ else _) = _
  rw [if_pos h]
def pickM (k : Bool) (m n : M α) : M α := if k = true then m else n
def pickS (k : Bool) (m n : En → Option Rs) : En → Option Rs := if k = true then m else n
theorem zpk_T {m n : M α} (hk : k = true) (g : m E = some (a, E1)) : pickM k m n E = some (a, E1) := by
  unfold pickM
  rw [if_pos hk]
  exact g
theorem zpk_F {m n : M α} (hk : k = false) (g : n E = some (a, E1)) : pickM k m n E = some (a, E1) := by
  unfold pickM
  rw [hk]
  exact g
theorem zps_T {m n : En → Option Rs} (hk : k = true) (g : m E = some R) : pickS k m n E = some R := by
  unfold pickS
  rw [if_pos hk]
  exact g
theorem zps_F {m n : En → Option Rs} (hk : k = false) (g : n E = some R) : pickS k m n E = some R := by
  unfold pickS
  rw [hk]
  exact g
theorem zv_and {m n : M Bool} {b : Bool} (h : m E = some (k, E1)) (g : pickM k n (retM false) E1 = some (b, E2)) : andM m n E = some (b, E2) := zv_bind h g
theorem zv_or {m n : M Bool} {b : Bool} (h : m E = some (k, E1)) (g : pickM k (retM true) n E1 = some (b, E2)) : orM m n E = some (b, E2) := zv_bind h g
theorem zv_andV {m n : M Vl} (h : bindM m boolM E = some (k, E1)) (g : pickM k n (blM false) E1 = some (z, E2)) : andV m n E = some (z, E2) := zv_bind h g
theorem zv_orV {m n : M Vl} (h : bindM m boolM E = some (k, E1)) (g : pickM k (blM true) n E1 = some (z, E2)) : orV m n E = some (z, E2) := zv_bind h g
theorem zv_bl : blM k E = some (.d (.bl k), E) := rfl
theorem zv_if {t : M Bool} {m n : M α} (h : t E = some (k, E1)) (g : pickM k m n E1 = some (a, E2)) : ifM t m n E = some (a, E2) := zv_bind h g
theorem zk_if {t : M Bool} {m n : En → Option Rs} (h : t E = some (k, E1)) (g : pickS k m n E1 = some R) : ifS t m n E = some R := by
  unfold ifS
  rw [h]
  cases k with
  | true => exact g
  | false => exact g
/-! ### statements -/
def seqK (n : En → Option Rs) : Rs → Option Rs
  | .nx E1 => n E1
  | o => some o
theorem zk_nx {n : En → Option Rs} (h : n E = some R) : seqK n (.nx E) = some R := h
theorem zk_rt {n : En → Option Rs} : seqK n (.rt r E) = some (.rt r E) := rfl
theorem zk_bk {n : En → Option Rs} : seqK n (.bk E) = some (.bk E) := rfl
theorem zk_ct {n : En → Option Rs} : seqK n (.ct E) = some (.ct E) := rfl
theorem zk_seq {m n : En → Option Rs} (h : m E = some Q) (g : seqK n Q = some R) : seqS m n E = some R := by
  unfold seqS
  rw [h]
  cases Q with
  | nx E1 => exact g
  | rt r E1 => exact g
  | bk E1 => exact g
  | ct E1 => exact g
theorem zk_conv {m : En → Option Rs} {Q' : Rs} (h : m E = some Q') (e : Q' = Q) : m E = some Q := by rw [h, e]
theorem zk_nil : nilS E = some (.nx E) := rfl
theorem zk_set {i : Nat} {m : M Vl} {sl : List (Option Vl)} {ce : List Ce} (h : m E = some (r, ⟨sl, ce⟩)) : setS i m E = some (.nx ⟨sl.set i (some r), ce⟩) := by
  unfold setS
  rw [h]
  rfl
theorem zk_set2 {i j : Nat} {m : M (List Vl)} {sl : List (Option Vl)} {ce : List Ce} (h : m E = some ([x, y], ⟨sl, ce⟩)) : set2S i j m E = some (.nx ⟨(sl.set i (some x)).set j (some y), ce⟩) := by
  unfold set2S
  rw [h]
  rfl
theorem zk_drop {m : M Vl} (h : m E = some (r, E1)) : dropS m E = some (.nx E1) := by
  unfold dropS
  rw [h]
theorem zk_ret {m : M Vl} (h : m E = some (r, E1)) : retS m E = some (.rt r E1) := by
  unfold retS
  rw [h]
theorem zk_ifT {t : M Bool} {m n : En → Option Rs} (h : t E = some (k, E1)) (hk : k = true) (g : m E1 = some R) : ifS t m n E = some R := by
  unfold ifS
  rw [h]
  show (if k = true then m E1 else n E1) = _
  rw [if_pos hk]
  exact g
theorem zk_ifF {t : M Bool} {m n : En → Option Rs} (h : t E = some (k, E1)) (hk : k = false) (g : n E1 = some R) : ifS t m n E = some R := by
  unfold ifS
  rw [h]
  show (if k = true then m E1 else n E1) = _
  rw [hk]
  exact g
theorem zk_aug {i : Nat} {f : Int → Int → Int} {m : M Vl} {p q : Int} {sl : List (Option Vl)} {ce : List Ce} (h0 : E.sl[i]? = some (some (.d (.int p)))) (h : m E = some (.d (.int q), ⟨sl, ce⟩)) : augS i f m E = some (.nx ⟨sl.set i (some (.d (.int (f p q)))), ce⟩) := by
  unfold augS
  rw [h0, h]
  rfl
theorem zk_for {i : M (List Dt)} {g : Vl → En → Option En} {m : En → Option Rs} {ds : List Dt} (h : i E = some (ds, E1)) (q : forL g m ds E1 = some R) : forS i g m E = some R := by
  unfold forS
  rw [h]
  exact q
theorem zk_whF {t : M Bool} {m : En → Option Rs} {n : Nat} {sl : En} (h : t E = some (k, E1)) (hk : k = false) (e : E1 = sl) : whileS t m (n + 1) E = some (.nx sl) := by
  subst hk e
  unfold whileS
  rw [h]
theorem zk_whT {t : M Bool} {m : En → Option Rs} {n : Nat} (h : t E = some (k, E1)) (hk : k = true) (g : m E1 = some (.nx E2)) (q : whileS t m n E2 = some R) : whileS t m (n + 1) E = some R := by
  subst hk
  unfold whileS
  rw [h]
  show (match m E1 with
      | some (.nx E2) => whileS t m n E2
      | some (.ct E2) => whileS t m n E2
      | some (.bk E2) => some (.nx E2)
      | some (.rt r E2) => some (.rt r E2)
      | none => none) = _
  rw [g]
  exact q
theorem zk_setI {m mo mi : M Vl} {n : Nat} {j : Int} {xs : List Dt} {c : Nat} {sl : List (Option Vl)} {ce : List Ce} (h : m E = some (.d d, E1)) (ho : mo E1 = some (.c c, E2)) (hi : mi E2 = some (.d (.int j), ⟨sl, ce⟩)) (hc : ce[c]? = some (.lst xs)) (hj : ixN xs.length j = some n) :
    setIS m mo mi E = some (.nx ⟨sl, ce.set c (.lst (xs.set n d))⟩) := by
  unfold setIS
  rw [zv_bind h (zv_bind ho (zv_bind hi (zv_bind (E1 := ⟨sl, ce⟩) (zv_fzD (d := d)) (show onC _ (.c c) ⟨sl, ce⟩ = some (.d .non, ⟨sl, ce.set c (.lst (xs.set n d))⟩) from by
    show (match ce[c]? with
      | some (.lst xs) => match (ixN xs.length j).map fun n => (Dt.non, xs.set n d) with
        | some (d, ys) => some (Vl.d d, (⟨sl, ce.set c (.lst ys)⟩ : En))
        | none => none
      | _ => none) = _
    rw [hc]
    simp only [hj, Option.map_some]))))]
/-! ### a whole def -/
theorem zf_rt {nl : Nat} {m : En → Option Rs} {ce ce' : List Ce} (h : m ⟨rs.map some ++ List.replicate nl none, ce⟩ = some (.rt r E)) (g : trimC ce.length r E.ce = some (z, ce')) : fnOf nl m rs ce = some (z, ce') := by
  unfold fnOf
  rw [h]
  exact g
theorem zf_nx {nl : Nat} {m : En → Option Rs} {ce ce' : List Ce} (h : m ⟨rs.map some ++ List.replicate nl none, ce⟩ = some (.nx E)) (g : trimC ce.length (.d .non) E.ce = some (z, ce')) : fnOf nl m rs ce = some (z, ce') := by
  unfold fnOf
  rw [h]
  exact g
theorem trim_d {n : Nat} {ce ce' : List Ce} (h : ce.take n = ce') : trimC n (.d d) ce = some (.d d, ce') := by
  subst h
  rfl
theorem trim_new {ce : List Ce} {c : Ce} {n : Nat} (h : ce.length = n) : trimC n (.c n) (ce ++ [c]) = some (.c n, ce ++ [c]) := by
  unfold trimC
  subst h
  show (if ce.length < ce.length then _ else _) = _
  rw [if_neg (Nat.lt_irrefl _), get_new, List.take_left']
  rfl
/-! ### loops and comprehensions by what holds between two turns -/
def turnC (own : List Nat) (k : Nat) (g : Vl → En → Option En) (t : M Bool) (m : M Vl) (d : Dt) (E : En) : Option En := match g (.d d) (wipeE own E) with
    | some E1 => match t E1 with
      | some (true, E2) => match bindM m fzM E2 with
        | some (x, E4) => match E4.ce[k]? with
          | some (.lst acc) => if acc.length < 100000 then some ⟨E4.sl, E4.ce.set k (.lst (acc ++ [x]))⟩ else none
          | _ => none
        | none => none
      | some (false, E2) => some E2
      | none => none
    | none => none
theorem compL_cons {own : List Nat} {k : Nat} {g : Vl → En → Option En} {t : M Bool} {m : M Vl} {d : Dt} {ds : List Dt} {E : En} : compL own k g t m (d :: ds) E = match turnC own k g t m d E with
    | some E1 => compL own k g t m ds E1
    | none => none := by
  unfold turnC
  conv => lhs; unfold compL
  cases h0 : g (.d d) (wipeE own E) with
  | none => rfl
  | some E1 =>
    simp only
    cases h1 : t E1 with
    | none => rfl
    | some p =>
      obtain ⟨b, E2⟩ := p
      cases b with
      | false => rfl
      | true =>
        simp only
        cases h : bindM m fzM E2 with
        | none => rfl
        | some p =>
          obtain ⟨x, E4⟩ := p
          simp only
          cases h2 : E4.ce[k]? with
          | none => rfl
          | some c =>
            cases c with
            | dead => rfl
            | pin o => rfl
            | ins C ns ds => rfl
            | dic ks ds => rfl
            | dit ks ds => rfl
            | lkd ks ds => rfl
            | lst acc =>
              by_cases hz : acc.length < 100000
              · simp only [if_pos hz]
              · simp only [if_neg hz]
theorem comp_inv {own : List Nat} {k : Nat} {g : Vl → En → Option En} {t : M Bool} {m : M Vl} (P : Nat → En → Prop) : ∀ (ds : List Dt) (i0 : Nat) (E : En), P i0 E →
    (∀ i d E, ds[i]? = some d → P (i0 + i) E → ∃ E1, turnC own k g t m d E = some E1 ∧ P (i0 + i + 1) E1) → ∃ E2, compL own k g t m ds E = some E2 ∧ P (i0 + ds.length) E2
  | [], i0, E, h0, _ => ⟨E, rfl, h0⟩
  | d :: ds, i0, E, h0, hs => by
    obtain ⟨E1, e1, p1⟩ := hs 0 d E rfl h0
    obtain ⟨E2, e2, p2⟩ := comp_inv P ds (i0 + 1) E1 p1 fun i d E hd hp => by
      have e : i0 + 1 + i = i0 + (i + 1) := by omega
      rw [e] at hp ⊢
      exact hs (i + 1) d E hd hp
    refine ⟨E2, by rw [compL_cons, e1]; exact e2, ?_⟩
    have e : i0 + (d :: ds).length = i0 + 1 + ds.length := by rw [List.length_cons]; omega
    rw [e]
    exact p2
theorem zt_yes {own : List Nat} {c : Nat} {g : Vl → En → Option En} {t : M Bool} {m : M Vl} {d : Dt} {E E1 E2 E3 : En} {acc : List Dt} {x : Dt} {r : Vl} {sl : List (Option Vl)} {ce : List Ce} (hg : g (.d d) (wipeE own E) = some E1) (ht : t E1 = some (true, E2)) (hm : m E2 = some (r, E3)) (hf : fzM r E3 = some (x, ⟨sl, ce⟩))
    (hc : ce[c]? = some (.lst acc)) (hl : acc.length < 100000) : turnC own c g t m d E = some ⟨sl, ce.set c (.lst (acc ++ [x]))⟩ := by
  unfold turnC
  rw [hg]
  show (match t E1 with
      | some (true, E2) => _
      | some (false, E2) => _
      | none => none) = _
  rw [ht]
  show (match bindM m fzM E2 with
          | some (x, E4) => _
          | none => none) = _
  rw [zv_bind hm hf]
  show (match ce[c]? with
          | some (.lst acc) => if acc.length < 100000 then some (⟨sl, ce.set c (.lst (acc ++ [x]))⟩ : En) else none
          | _ => none) = _
  rw [hc]
  show (if _ then _ else _) = _
  rw [if_pos hl]
theorem zt_no {own : List Nat} {c : Nat} {g : Vl → En → Option En} {t : M Bool} {m : M Vl} {d : Dt} {E E1 E2 : En} (hg : g (.d d) (wipeE own E) = some E1) (ht : t E1 = some (false, E2)) : turnC own c g t m d E = some E2 := by
  unfold turnC
  rw [hg]
  show (match t E1 with
      | some (true, E2) => _
      | some (false, E2) => _
      | none => none) = _
  rw [ht]
theorem zv_comp {own : List Nat} {i : M (List Dt)} {g : Vl → En → Option En} {t : M Bool} {m : M Vl} {ds : List Dt} {E E2 : En} {sl : List (Option Vl)} {ce : List Ce} (h : i E = some (ds, ⟨sl, ce⟩)) (hc : compL own ce.length g t m ds ⟨sl, ce ++ [.lst []]⟩ = some E2) :
    compM own i g t m E = some (.c ce.length, ⟨bring sl E2.sl own, E2.ce⟩) := by
  unfold compM
  rw [h]
  show (match compL own ce.length g t m ds ⟨sl, ce ++ [.lst []]⟩ with
    | some E2 => some (Vl.c ce.length, (⟨bring sl E2.sl own, E2.ce⟩ : En))
    | none => none) = _
  rw [hc]
/-- which turns give, and what -/
def givenD (n : Nat) (b : Nat → Bool) (f : Nat → Dt) : List Dt := ((List.range n).filter b).map f
theorem givenD_yes {n : Nat} {b : Nat → Bool} {f : Nat → Dt} (h : b n = true) : givenD (n + 1) b f = givenD n b f ++ [f n] := by
  unfold givenD
  rw [List.range_succ, List.filter_append, List.map_append, List.filter_cons, if_pos h] <;> rfl
theorem givenD_no {n : Nat} {b : Nat → Bool} {f : Nat → Dt} (h : b n = false) : givenD (n + 1) b f = givenD n b f := by
  unfold givenD
  rw [List.range_succ, List.filter_append, List.map_append, List.filter_cons, if_neg (by rw [h]; decide)]
  show _ ++ [] = _
  rw [List.append_nil]
theorem givenD_len (n : Nat) (b : Nat → Bool) (f : Nat → Dt) : (givenD n b f).length ≤ n := by
  unfold givenD
  rw [List.length_map]
  have h := List.length_filter_le b (List.range n)
  rw [List.length_range] at h
  exact h
theorem givenD_all {n : Nat} {f : Nat → Dt} : givenD n (fun _ => true) f = (List.range n).map f := by
  unfold givenD
  rw [List.filter_eq_self.mpr (fun _ _ => rfl)]
theorem get_mid {α : Type} (l : List α) (x : α) (r : List α) : (l ++ [x] ++ r)[l.length]? = some x := by simp
theorem set_mid {α : Type} (l : List α) (x y : α) (r : List α) : (l ++ [x] ++ r).set l.length y = l ++ [y] ++ r := by
  rw [List.set_append_left _ _ (by simp), set_new]
theorem comp_gen {v : Nat} {mi : M (List Dt)} {t : M Bool} {m : M Vl} {ds : List Dt} {E : En} {sl : List (Option Vl)} {ce : List Ce} (b : Nat → Bool) (f : Nat → Dt) (hi : mi E = some (ds, ⟨sl, ce⟩)) (hv : v < sl.length) (hn : ds.length < 100000)
    (hs : ∀ (i : Nat) (d : Dt) (c : Ce) (gs : List Ce), ds[i]? = some d → ∃ gs', t ⟨sl.set v (some (.d d)), ce ++ [c] ++ gs⟩ = some (b i, ⟨sl.set v (some (.d d)), ce ++ [c] ++ gs'⟩) ∧ (b i = true → ∃ gs'', m ⟨sl.set v (some (.d d)), ce ++ [c] ++ gs'⟩ = some (.d (f i), ⟨sl.set v (some (.d d)), ce ++ [c] ++ gs''⟩))) :
    ∃ gs, compM [v] mi (nameG v) t m E = some (.c ce.length, ⟨sl, ce ++ [.lst (givenD ds.length b f)] ++ gs⟩) := by
  obtain ⟨E2, ec, z, gs, e⟩ := comp_inv (own := [v]) (k := ce.length) (g := nameG v) (t := t) (m := m) (fun i E => ∃ (z : Option Vl) (gs : List Ce), E = ⟨sl.set v z, ce ++ [.lst (givenD i b f)] ++ gs⟩) ds 0 ⟨sl, ce ++ [.lst []]⟩
    ⟨sl[v]'hv, [], by rw [List.append_nil, List.set_getElem_self]; rfl⟩ (fun i d E hd hp => by
      obtain ⟨z, gs, rfl⟩ := hp
      rw [Nat.zero_add]
      obtain ⟨gs', ht, hm⟩ := hs i d (.lst (givenD i b f)) gs hd
      have hg : nameG v (.d d) (wipeE [v] ⟨sl.set v z, ce ++ [.lst (givenD i b f)] ++ gs⟩) = some ⟨sl.set v (some (.d d)), ce ++ [.lst (givenD i b f)] ++ gs⟩ := by
        show some (En.mk (((sl.set v z).set v none).set v (some (.d d))) _) = _
        rw [List.set_set, List.set_set]
        rfl
      cases hb : b i with
      | true =>
        rw [hb] at ht
        obtain ⟨gs'', hm⟩ := hm hb
        have hl := givenD_len i b f
        have hi2 : i < ds.length := (List.getElem?_eq_some_iff.mp hd).1
        refine ⟨_, zt_yes hg ht hm zv_fzD (get_mid _ _ _) (by omega), some (.d d), gs'', ?_⟩
        rw [set_mid, givenD_yes hb]
      | false =>
        rw [hb] at ht
        exact ⟨_, zt_no hg ht, some (.d d), gs', by rw [givenD_no hb]⟩)
  rw [Nat.zero_add] at e
  refine ⟨gs, ?_⟩
  rw [zv_comp hi ec, e]
  have hb : bring sl (sl.set v z) [v] = sl := by
    show (sl.set v z).set v (sl[v]?.getD none) = sl
    rw [List.set_set, List.getElem?_eq_getElem hv]
    exact List.set_getElem_self hv
  rw [hb]
/-- a loop whose turns go on -/
theorem for_inv {g : Vl → En → Option En} {m : En → Option Rs} (P : Nat → En → Prop) : ∀ (ds : List Dt) (i0 : Nat) (E : En), P i0 E →
    (∀ i d E, ds[i]? = some d → P (i0 + i) E → ∃ E1 E2, g (.d d) E = some E1 ∧ m E1 = some (.nx E2) ∧ P (i0 + i + 1) E2) → ∃ E2, forL g m ds E = some (.nx E2) ∧ P (i0 + ds.length) E2
  | [], i0, E, h0, _ => ⟨E, rfl, h0⟩
  | d :: ds, i0, E, h0, hs => by
    obtain ⟨E1, E2, e1, e2, p1⟩ := hs 0 d E rfl h0
    obtain ⟨E3, e3, p2⟩ := for_inv P ds (i0 + 1) E2 p1 fun i d E hd hp => by
      have e : i0 + 1 + i = i0 + (i + 1) := by omega
      rw [e] at hp ⊢
      exact hs (i + 1) d E hd hp
    refine ⟨E3, ?_, ?_⟩
    · unfold forL
      rw [e1]
      show (match m E1 with
        | some (.nx E2) => forL g m ds E2
        | some (.ct E2) => forL g m ds E2
        | some (.bk E2) => some (.nx E2)
        | some (.rt r E2) => some (.rt r E2)
        | none => none) = _
      rw [e2]
      exact e3
    · have e : i0 + (d :: ds).length = i0 + 1 + ds.length := by rw [List.length_cons]; omega
      rw [e]
      exact p2
theorem rng_len (lo : Int) (n : Nat) : (rngL lo n).length = n := by simp [rngL]
theorem rng_at {lo : Int} {n i : Nat} {d : Dt} (h : (rngL lo n)[i]? = some d) : i < n ∧ d = .int (lo + (i : Int)) := by
  have hi : i < n := by
    have := (List.getElem?_eq_some_iff.mp h).1
    rw [rng_len] at this
    exact this
  refine ⟨hi, ?_⟩
  unfold rngL at h
  rw [List.getElem?_map, List.getElem?_range hi] at h
  exact (Option.some.inj h).symm
theorem toPA_ints : ∀ bs : List Int, toPA (bs.map Dt.int) = some (bs.map PyData.int)
  | [] => rfl
  | b :: bs => by
    show (match toP (.int b), toPA (bs.map Dt.int) with
      | some p, some ps => some (p :: ps)
      | _, _ => none) = _
    rw [toPA_ints bs]
    rfl
theorem lay_ints : ∀ bs : List Int, PyData.canLayAll0 (bs.map PyData.int) = true
  | [] => by simp [PyData.canLayAll0]
  | b :: bs => by simp [PyData.canLayAll0, PyData.canLay0, lay_ints bs]
theorem dep_ints : ∀ bs : List Int, PyData.depthAll (bs.map PyData.int) ≤ 1
  | [] => by simp [PyData.depthAll]
  | b :: bs => by
    have := dep_ints bs
    simp only [List.map_cons, PyData.depthAll, PyData.depth]
    omega
theorem eqv_ints : ∀ bs cs : List Int, PyData.eqvAll (bs.map PyData.int) (cs.map PyData.int) = decide (bs = cs)
  | [], [] => by simp [PyData.eqvAll]
  | [], c :: cs => by simp [PyData.eqvAll]
  | b :: bs, [] => by simp [PyData.eqvAll]
  | b :: bs, c :: cs => by
    simp only [List.map_cons, PyData.eqvAll, PyData.eqv, eqv_ints bs cs]
    by_cases h1 : b = c <;> by_cases h2 : bs = cs <;> simp [h1, h2]
theorem sh_tup {ps : List PyData} (h : PyData.canLayAll0 ps = true) (hd : PyData.depthAll ps ≤ 60) : SeqAt.shaped (.tuple ps) = true := by
  show (PyData.canLay0 (.tuple ps) && decide (PyData.depth (.tuple ps) ≤ 64)) = true
  rw [Bool.and_eq_true]
  refine ⟨by simp only [PyData.canLay0]; exact h, decide_eq_true ?_⟩
  simp only [PyData.depth]
  omega
theorem sh_lst {ps : List PyData} (h : PyData.canLayAll0 ps = true) (hd : PyData.depthAll ps ≤ 60) : SeqAt.shaped (.list ps) = true := by
  show (PyData.canLay0 (.list ps) && decide (PyData.depth (.list ps) ≤ 64)) = true
  rw [Bool.and_eq_true]
  refine ⟨by simp only [PyData.canLay0]; exact h, decide_eq_true ?_⟩
  simp only [PyData.depth]
  omega
theorem zq_intsL {bs cs : List Int} : eqd (.lst (bs.map Dt.int)) (.lst (cs.map Dt.int)) = some (decide (bs = cs)) := by
  unfold eqd
  have e1 : toP (.lst (bs.map Dt.int)) = some (.list (bs.map PyData.int)) := by
    rw [toP, toPA_ints]
    rfl
  have e2 : toP (.lst (cs.map Dt.int)) = some (.list (cs.map PyData.int)) := by
    rw [toP, toPA_ints]
    rfl
  rw [e1, e2]
  have s1 := sh_lst (lay_ints bs) (by have := dep_ints bs; omega)
  have s2 := sh_lst (lay_ints cs) (by have := dep_ints cs; omega)
  show (if _ then _ else _) = _
  rw [if_pos ⟨s1, s2⟩]
  simp only [PyData.eqv, eqv_ints]
theorem cut_ev {β : Type} {P : Prop} (x : Option β) {r : β} (h : x = some r) (k : x = some r → P) : P := k h
theorem zw_abs {i : Int} : absD (.int i) = some (.int (if i < 0 then -i else i)) := rfl
theorem zw_intI {i : Int} : intD (.int i) = some (.int i) := rfl
theorem zw_intB {b : Bool} : intD (.bl b) = some (.int (if b then 1 else 0)) := rfl
theorem zq_int {i j : Int} : eqd (.int i) (.int j) = some (i == j) := rfl
theorem zq_bl {i j : Bool} : eqd (.bl i) (.bl j) = some (i == j) := rfl
theorem toPA_bls : ∀ bs : List Bool, toPA (bs.map Dt.bl) = some (bs.map PyData.bool)
  | [] => rfl
  | b :: bs => by
    show (match toP (.bl b), toPA (bs.map Dt.bl) with
      | some p, some ps => some (p :: ps)
      | _, _ => none) = _
    rw [toPA_bls bs]
    rfl
theorem lay_bls : ∀ bs : List Bool, PyData.canLayAll0 (bs.map PyData.bool) = true
  | [] => by simp [PyData.canLayAll0]
  | b :: bs => by simp [PyData.canLayAll0, PyData.canLay0, lay_bls bs]
theorem dep_bls : ∀ bs : List Bool, PyData.depthAll (bs.map PyData.bool) ≤ 1
  | [] => by simp [PyData.depthAll]
  | b :: bs => by
    have := dep_bls bs
    simp only [List.map_cons, PyData.depthAll, PyData.depth]
    omega
theorem eqv_bls : ∀ bs cs : List Bool, PyData.eqvAll (bs.map PyData.bool) (cs.map PyData.bool) = decide (bs = cs)
  | [], [] => by simp [PyData.eqvAll]
  | [], c :: cs => by simp [PyData.eqvAll]
  | b :: bs, [] => by simp [PyData.eqvAll]
  | b :: bs, c :: cs => by
    simp only [List.map_cons, PyData.eqvAll, PyData.eqv, eqv_bls bs cs]
    by_cases h1 : b = c <;> by_cases h2 : bs = cs <;> simp [h1, h2]
theorem zq_blsT {bs cs : List Bool} : eqd (.tup (bs.map Dt.bl)) (.tup (cs.map Dt.bl)) = some (decide (bs = cs)) := by
  unfold eqd
  have e1 : toP (.tup (bs.map Dt.bl)) = some (.tuple (bs.map PyData.bool)) := by
    rw [toP, toPA_bls]
    rfl
  have e2 : toP (.tup (cs.map Dt.bl)) = some (.tuple (cs.map PyData.bool)) := by
    rw [toP, toPA_bls]
    rfl
  rw [e1, e2]
  have s1 := sh_tup (lay_bls bs) (by have := dep_bls bs; omega)
  have s2 := sh_tup (lay_bls cs) (by have := dep_bls cs; omega)
  show (if _ then _ else _) = _
  rw [if_pos ⟨s1, s2⟩]
  simp only [PyData.eqv, eqv_bls]
theorem zq_blsL {bs cs : List Bool} : eqd (.lst (bs.map Dt.bl)) (.lst (cs.map Dt.bl)) = some (decide (bs = cs)) := by
  unfold eqd
  have e1 : toP (.lst (bs.map Dt.bl)) = some (.list (bs.map PyData.bool)) := by
    rw [toP, toPA_bls]
    rfl
  have e2 : toP (.lst (cs.map Dt.bl)) = some (.list (cs.map PyData.bool)) := by
    rw [toP, toPA_bls]
    rfl
  rw [e1, e2]
  have s1 := sh_lst (lay_bls bs) (by have := dep_bls bs; omega)
  have s2 := sh_lst (lay_bls cs) (by have := dep_bls cs; omega)
  show (if _ then _ else _) = _
  rw [if_pos ⟨s1, s2⟩]
  simp only [PyData.eqv, eqv_bls]
end
end Hk
/-! Hk8: a law's own promise. -/
namespace Hk
open PySem PySem.Spec PyProof.Rows L2 Evl
def spLaw (K : PySem.W.Frag) : Sp := fun vs H Q _ => ∃ (a : Addr) (ns : List Int), vs = [.ref a] ∧ SqL K H a (ns.map V.int) ∧ ns.length ≤ 63 ∧ ∀ H', Q (.bl true) H'
theorem rpA_ints {K : PySem.W.Frag} {H : Hp} : ∀ ns : List Int, RpA K H (ns.map Dt.int) (ns.map V.int)
  | [] => rfl
  | n :: ns => ⟨.int n, ns.map V.int, rfl, rfl, rpA_ints ns⟩
theorem start_of {K : PySem.W.Frag} {H : Hp} {a : Addr} {xs : List V} (h : SqL K H a xs) : ∃ Hd, ExS Hd H ∧ SqL K Hd a xs := by
  have one : ∀ {u : HO}, H a = some u → strip u = u → ExS (upd (fun _ => none) a u) H := fun {u} e hs b w q => by
    by_cases hb : b = a
    · subst hb
      rw [upd_same] at q
      cases q
      rw [hs]
      exact e
    · rw [upd_ne hb] at q
      cases q
  rcases h with (h | ⟨o, h⟩) | h
  · exact ⟨upd (fun _ => none) a (.lst xs), one h rfl, .inl (.inl upd_same)⟩
  · exact ⟨upd (fun _ => none) a (.frz o (.lst xs)), one h rfl, .inl (.inr ⟨o, upd_same⟩)⟩
  · exact ⟨fun _ => none, (fun b w q => nomatch q), Or.inr h⟩
theorem law_of {K : PySem.W.Frag} {G : Fn} (hG : ∀ ns : List Int, ns.length ≤ 63 → G [.d (.sq (ns.map .int))] [] = some (.d (.bl true), [])) : ∀ vs H Q E, spLaw K vs H Q E → spM K 1 G vs H Q E := fun vs H Q E h => by
  obtain ⟨a, ns, rfl, hS, hl, k⟩ := h
  obtain ⟨Hd, x, hS2⟩ := start_of hS
  refine ⟨rfl, [], Hd, [], [.d (.sq (ns.map .int))], .d (.bl true), [], ⟨x, rfl, fun k a ks ds h => by simp at h, fun k c a h => by simp at h, fun j k a c e h => by simp at h⟩, .cons ⟨a, ns.map V.int, rfl, hS2, rpA_ints ns⟩ .nil, hG ns hl, fun μ' Hd' H' v g w r => ?_⟩
  cases (show v = .bl true from r)
  exact k H'
end Hk
/-! Hk9: instances of own classes: made, their fields, methods, operators. -/
namespace Hk
open PySem PySem.Spec PyProof.Rows L2 Evl

/-! ### fields -/
def look (f : Str) : List Str → List Dt → Option Dt
  | n :: ns, d :: ds => if f = n then some d else look f ns ds
  | _, _ => none
def putN (f : Str) : List Str → List Str
  | [] => [f]
  | g :: r => if g = f then g :: r else g :: putN f r
def putD (f : Str) (d : Dt) : List Str → List Dt → List Dt
  | [], _ => [d]
  | g :: r, x :: xs => if g = f then d :: xs else x :: putD f d r xs
  | _ :: _, [] => []
section
variable {K : PySem.W.Frag} {H Hd : Hp} {μ : List Addr}
theorem look_ok {f : Str} : ∀ {fs : List (Str × V)} {ds : List Dt} {d : Dt}, RpA K H ds (fs.map (·.2)) → look f (fs.map (·.1)) ds = some d → ∃ v, fs.lookup f = some v ∧ Rp K H d v
  | [], ds, d, _, e => by
    cases ds <;> cases e
  | (g, x) :: fs, [], d, h, e => by cases e
  | (g, x) :: fs, y :: ds, d, h, e => by
    obtain ⟨x', r, e0, h2, h3⟩ := h
    cases e0
    have e : (if f = g then some y else look f (fs.map (·.1)) ds) = some d := e
    by_cases hf : f = g
    · rw [if_pos hf] at e
      cases e
      exact ⟨x, by simp only [List.lookup, beq_iff_eq.mpr hf], h2⟩
    · rw [if_neg hf] at e
      obtain ⟨v, h4, h5⟩ := look_ok h3 e
      exact ⟨v, by
        have hb : (f == g) = false := by simpa using hf
        simp only [List.lookup, hb]
        exact h4, h5⟩
theorem look_none {f : Str} : ∀ {fs : List (Str × V)} {ds : List Dt}, RpA K H ds (fs.map (·.2)) → look f (fs.map (·.1)) ds = none → fs.lookup f = none
  | [], ds, _, e => rfl
  | (g, x) :: fs, [], h, e => by
    have := h.len
    simp at this
  | (g, x) :: fs, y :: ds, h, e => by
    obtain ⟨x', r, e0, h2, h3⟩ := h
    cases e0
    have e : (if f = g then some y else look f (fs.map (·.1)) ds) = none := e
    by_cases hf : f = g
    · rw [if_pos hf] at e
      cases e
    · rw [if_neg hf] at e
      have hb : (f == g) = false := by simpa using hf
      simp only [List.lookup, hb]
      exact look_none h3 e
theorem putF_ok {f : Str} {d : Dt} {v : V} (hv : Rp K H d v) : ∀ {fs : List (Str × V)} {ds : List Dt}, RpA K H ds (fs.map (·.2)) → (putF f v fs).map (·.1) = putN f (fs.map (·.1)) ∧ RpA K H (putD f d (fs.map (·.1)) ds) ((putF f v fs).map (·.2))
  | [], ds, _ => ⟨rfl, v, [], rfl, hv, rfl⟩
  | (g, x) :: fs, [], h => by
    have := h.len
    simp at this
  | (g, x) :: fs, y :: ds, h => by
    obtain ⟨x', r, e0, h2, h3⟩ := h
    cases e0
    by_cases hf : g = f
    · have e1 : putF f v ((g, x) :: fs) = (g, v) :: fs := if_pos hf
      have e2 : putN f (((g, x) :: fs).map (·.1)) = g :: fs.map (·.1) := if_pos hf
      have e3 : putD f d (((g, x) :: fs).map (·.1)) (y :: ds) = d :: ds := if_pos hf
      rw [e1, e2, e3]
      exact ⟨rfl, v, _, rfl, hv, h3⟩
    · have e1 : putF f v ((g, x) :: fs) = (g, x) :: putF f v fs := if_neg hf
      have e2 : putN f (((g, x) :: fs).map (·.1)) = g :: putN f (fs.map (·.1)) := if_neg hf
      have e3 : putD f d (((g, x) :: fs).map (·.1)) (y :: ds) = y :: putD f d (fs.map (·.1)) ds := if_neg hf
      rw [e1, e2, e3]
      obtain ⟨i1, i2⟩ := putF_ok hv h3
      exact ⟨by rw [List.map_cons, i1], x, _, rfl, h2, i2⟩
/-- an instance that is seen: its fields are data -/
theorem see_obj {ce : List Ce} {r : Vl} {v : V} {C : Str} {ns : List Str} {ds : List Dt} (w : Wo K μ Hd H ce) (hv : Rv K μ Hd r v) (h : see ce r = some (.obj C ns ds)) : ∃ a dx fs, v = .ref a ∧ H a = some (.ins (clA K C) dx fs) ∧ fs.map (·.1) = ns ∧ RpA K Hd ds (fs.map (·.2)) := by
  cases r with
  | d d' =>
    have e : d' = .obj C ns ds := Option.some.inj h
    subst e
    obtain ⟨a, dx, fs, h1, h2, h3, h4⟩ := hv
    exact ⟨a, dx, fs, h1, w.ex a _ h2, h3, h4⟩
  | c k =>
    obtain ⟨c, e1, e3⟩ := seeC_some h
    obtain ⟨a, e2, rfl⟩ := hv
    obtain ⟨h1, o, h2, h3⟩ := w.at_ k c a e1 e2 (dataC_live e3)
    cases c with
    | ins C' ns' xs =>
      cases e3
      obtain ⟨dx, fs, rfl, h3, h4⟩ := h3
      exact ⟨a, dx, fs, rfl, h2, h3, h4⟩
    | _ => cases e3
  | t rs => cases h
def fldD (C f : Str) : Dt → Option Dt
  | .obj C' ns ds => if C' = C then look f ns ds else none
  | _ => none
theorem fldD_some {C f : Str} {x d : Dt} (h : fldD C f x = some d) : ∃ ns ds, x = .obj C ns ds ∧ look f ns ds = some d := by
  cases x with
  | obj C' ns ds =>
    by_cases hc : C' = C
    · subst hc
      have h : (if C' = C' then look f ns ds else none) = some d := h
      rw [if_pos rfl] at h
      exact ⟨ns, ds, rfl, h⟩
    · have h : (if C' = C then look f ns ds else none) = some d := h
      rw [if_neg hc] at h
      cases h
  | _ => cases h
def fldM (C f : Str) (m : M Vl) : M Vl := bindM m (seeF (fldD C f))
theorem em_fld {te : TE} {m : M Vl} {C f : Str} (c : Cls K (clA K C)) (n : NoAttr K (clA K C) f) (h : EM K te m) : EM K (tFld K te f) (fldM C f m) := fun {μ Hd H σ E r E'} R e Q q => by
  obtain ⟨x, E1, e1, e2⟩ := bindM_some e
  obtain ⟨y, d, e3, e4, rfl, rfl⟩ := seeF_some e2
  obtain ⟨ns, ds, rfl, e5⟩ := fldD_some e4
  refine h R e1 _ fun μ1 Hd1 H1 v g1 R1 r1 => ?_
  obtain ⟨a, dx, fs, rfl, h2, rfl, h4⟩ := see_obj R1.wo r1 e3
  obtain ⟨u, h5, h6⟩ := look_ok h4 e5
  exact ⟨a, _, dx, fs, u, rfl, h2, c, n, h5, q μ1 Hd1 H1 u g1 R1 h6⟩
/-- o.f = value -/
def setFS (C f : Str) (mv mo : M Vl) : En → Option Rs := fun E => match bindM mv fzM E with
  | some (d, E1) => match mo E1 with
    | some (.c k, E2) => match E2.ce[k]? with
      | some (.ins C' ns ds) => if C' = C ∧ ns.length < 1000 then some (.nx ⟨E2.sl, E2.ce.set k (.ins C (putN f ns) (putD f d ns ds))⟩) else none
      | _ => none
    | _ => none
  | none => none
theorem sm_fld {tv to : TE} {mv mo : M Vl} {C f : Str} (c : Cls K (clA K C)) (n : NoAttr K (clA K C) f) (hv : EM K tv mv) (ho : EM K to mo) : SM K (sFld K to tv f) (setFS C f mv mo) := fun {μ Hd H σ E R} r e D q => by
  unfold setFS at e
  split at e
  · rename_i d E1 e1
    split at e
    · rename_i k E2 e2
      split at e
      · rename_i C' ns ds e3
        split at e
        · rename_i hc
          cases e
          obtain ⟨rfl, hl⟩ := hc
          obtain ⟨x, E0, e4, e5⟩ := bindM_some e1
          refine hv r e4 _ fun μ1 Hd1 H1 v g1 R1 r1 => ?_
          obtain ⟨Hd2, g2, R2, p2⟩ := fzM_ok R1 r1 e5
          refine ho R2 e2 _ fun μ3 Hd3 H3 u g3 R3 r3 => ?_
          obtain ⟨a, ha, rfl⟩ := r3
          obtain ⟨h1, o, h2, dx, fs, rfl, h3, h4⟩ := R3.wo.at_ k _ a e3 ha rfl
          subst h3
          obtain ⟨k1, k2⟩ := putF_ok (f := f) (Rp.ex g3.ex _ _ p2) h4
          refine ⟨a, _, dx, fs, rfl, h2, c, n, by simpa using hl, ?_⟩
          exact q μ3 Hd3 _ σ ((g1.trans g2).trans g3) (R3.setX e3 rfl ha ⟨dx, _, rfl, k1, k2⟩)
        · cases e
      · cases e
    · cases e
  · cases e
/-! ### C(..) -/
def makeM (C : Str) (G : Fn) (m : M (List Vl)) : M Vl := bindM m fun rs => fun E => match G (.c E.ce.length :: rs) (E.ce ++ [.ins C [] []]) with
  | some (.d .non, ce) => some (.c E.ce.length, ⟨E.sl, ce⟩)
  | _ => none
theorem em_make {C : Str} {G : Fn} {n : Nat} {ta : TA} {ma : M (List Vl)} {E0 : XK} (hn : ∀ E rs E', ma E = some (rs, E') → rs.length = n) (h : AM K ta ma) : EM K (tMake (clA K C) (spM K (n + 1) G) [] E0 ta) (makeM C G ma) := fun {μ Hd H σ E r E'} R q Q k => by
  obtain ⟨rs, E1, e1, e2⟩ := bindM_some q
  split at e2
  · rename_i ce e3
    cases e2
    refine h R e1 _ fun μ1 Hd1 H1 vs g1 R1 r1 x dx hx hdx hne => ?_
    rw [List.append_nil]
    obtain ⟨g2, R2⟩ := R1.newD (o := .own x) hdx
    have hx2 : (upd H1 dx (.own x)) x = none := by
      rw [upd_ne (fun e => hne e.symm)]
      exact hx
    obtain ⟨g3, R3, r3⟩ := R2.newX (c := .ins C [] []) (o := .ins (clA K C) dx []) hx2 ⟨dx, [], rfl, rfl, rfl⟩
    refine ⟨by rw [List.length_cons, r1.len, hn _ _ _ e1], _, _, _, _, _, _, R3.wo, .cons r3 ((r1.gr g2).gr g3), e3, fun μ4 Hd4 H4 v g4 w4 r4 => ⟨r4, ?_⟩⟩
    obtain ⟨a, ha, ea⟩ := r3
    cases ea
    exact k μ4 Hd4 H4 _ (((g1.trans g2).trans g3).trans g4) ⟨w4, ((R1.sl.gr g2).gr g3).gr g4⟩ ⟨_, g4.pre _ _ ha, rfl⟩
  · cases e2
/-! ### o.m(..) -/
def methM (C m : Str) (G : Fn) (mo : M Vl) (ms : M (List Vl)) : M Vl := bindM mo fun x => fun E => match see E.ce x with
  | some (.obj C' ns ds) => if C' = C ∧ (look m ns ds).isNone = true then (bindM ms fun rs => fun E2 => match G (x :: rs) E2.ce with
    | some (z, ce) => some (z, (⟨E2.sl, ce⟩ : En))
    | none => none) E else none
  | _ => none
theorem em_meth {C m : Str} {G : Fn} {n : Nat} {to : TE} {mo : M Vl} {ta : TA} {ma : M (List Vl)} {E0 : XK} (hn : ∀ E rs E', ma E = some (rs, E') → rs.length = n) (ho : EM K to mo) (h : AM K ta ma) : EM K (tMeth (clA K C) m (spM K (n + 1) G) [] E0 to ta) (methM C m G mo ma) := fun {μ Hd H σ E r E'} R q Q k => by
  obtain ⟨x, E1, e1, e2⟩ := bindM_some q
  split at e2
  · rename_i C' ns ds e3
    split at e2
    · rename_i hc
      obtain ⟨rfl, hm⟩ := hc
      obtain ⟨rs, E2, e4, e5⟩ := bindM_some e2
      split at e5
      · rename_i z ce e6
        cases e5
        refine ho R e1 _ fun μ1 Hd1 H1 v g1 R1 r1 => ?_
        obtain ⟨a, dx, fs, rfl, h2, rfl, h4⟩ := see_obj R1.wo r1 e3
        refine ⟨a, dx, fs, rfl, h2, look_none h4 (Option.isNone_iff_eq_none.mp hm), ?_⟩
        refine h R1 e4 _ fun μ2 Hd2 H2 vs g2 R2 r2 => ?_
        rw [List.append_nil]
        exact ⟨by rw [List.length_cons, r2.len, hn _ _ _ e4], μ2, Hd2, E2.ce, _, r, ce, R2.wo, .cons (Rv.gr g2 r1) r2, e6, fun μ3 Hd3 H3 v g3 w3 r3 => k μ3 Hd3 H3 v ((g1.trans g2).trans g3) ⟨w3, R2.sl.gr g3⟩ r3⟩
      · cases e5
    · cases e2
  · cases e2
/-! ### operators of an own class -/
def rM1 (C : Addr) (sp : Sp) (E : XK) : V → Hp → VK → Prop := fun x H Q => ∃ a dx fs, x = .ref a ∧ H a = some (.ins C dx fs) ∧ sp [x] H Q E
def rM2 (C : Addr) (sp : Sp) (E : XK) : R2 := fun x y H Q => ∃ a dx fs b dy gs, x = .ref a ∧ y = .ref b ∧ H a = some (.ins C dx fs) ∧ H b = some (.ins C dy gs) ∧ sp [x, y] H Q E
def ownF1 (C : Str) (G : Fn) (x : Vl) : M Vl := fun E => match see E.ce x with
  | some (.obj C' _ _) => if C' = C then match G [x] E.ce with
    | some (z, ce) => some (z, ⟨E.sl, ce⟩)
    | none => none else none
  | _ => none
def ownF2 (C : Str) (G : Fn) (x y : Vl) : M Vl := fun E => match see E.ce x, see E.ce y with
  | some (.obj C' _ _), some (.obj C2 _ _) => if C' = C ∧ C2 = C then match G [x, y] E.ce with
    | some (z, ce) => some (z, ⟨E.sl, ce⟩)
    | none => none else none
  | _, _ => none
theorem um_own {C : Str} {G : Fn} {E0 : XK} : UM K (rM1 (clA K C) (spM K 1 G) E0) (ownF1 C G) := fun {μ Hd H σ E x vx z E'} R hv e Q q => by
  unfold ownF1 at e
  split at e
  · rename_i C' ns ds e1
    split at e
    · rename_i hc
      subst hc
      split at e
      · rename_i z ce e2
        cases e
        obtain ⟨a, dx, fs, rfl, h2, h3, h4⟩ := see_obj R.wo hv e1
        exact ⟨a, dx, fs, rfl, h2, rfl, μ, Hd, E.ce, [x], _, ce, R.wo, .cons hv .nil, e2, fun μ1 Hd1 H1 v g1 w1 r1 => q μ1 Hd1 H1 v g1 ⟨w1, R.sl.gr g1⟩ r1⟩
      · cases e
    · cases e
  · cases e
theorem om_own {C : Str} {G : Fn} {E0 : XK} : OM K (rM2 (clA K C) (spM K 2 G) E0) (ownF2 C G) := fun {μ Hd H σ E x y vx vy z E'} R hx hy e Q q => by
  unfold ownF2 at e
  split at e
  · rename_i C1 n1 d1 C2 n2 d2 e1 e3
    split at e
    · rename_i hc
      obtain ⟨rfl, rfl⟩ := hc
      split at e
      · rename_i z ce e2
        cases e
        obtain ⟨a, dx, fs, rfl, h2, h3, h4⟩ := see_obj R.wo hx e1
        obtain ⟨b, dy, gs, rfl, k2, k3, k4⟩ := see_obj R.wo hy e3
        exact ⟨a, dx, fs, b, dy, gs, rfl, rfl, h2, k2, rfl, μ, Hd, E.ce, [x, y], _, ce, R.wo, .cons hx (.cons hy .nil), e2, fun μ1 Hd1 H1 v g1 w1 r1 => q μ1 Hd1 H1 v g1 ⟨w1, R.sl.gr g1⟩ r1⟩
      · cases e
    · cases e
  · cases e
end
section
variable {X : Cx} {CX : CXT} {k : Nat} {C f : Addr} {fd : FuncData} {ps : List Str} {sp : Sp} {E : XK}
theorem cmpBack_of {pins : List (Addr × Obj)} {σ : L2.St} {Q : VK} {u : Value} {s : Shared} (h : EP X pins σ Q u s) : PySem.W.CmpBack (EP X pins σ Q) u s := by
  cases u <;> first | exact h | skip
  obtain ⟨v, H', I, r, q⟩ := h
  cases v with
  | int i =>
    obtain ⟨t, e⟩ := r
    cases e
  | str i =>
    obtain ⟨t, e⟩ := r
    cases e
  | byt i =>
    obtain ⟨t, e⟩ := r
    cases e
  | flt i =>
    obtain ⟨t, e⟩ := r
    cases e
  | _ => cases r
theorem inst_at {pins : List (Addr × Obj)} {σ : L2.St} {H : Hp} {s : Shared} {a dx : Addr} {fs : List (Str × V)} (I : Inv X pins σ H s) (e : H a = some (.ins C dx fs)) : ∃ od, PySem.W.InstAt s.heap a (PySem.W.instObj C dx) C (some od) := by
  obtain ⟨mA, J, _⟩ := ins_get I.hok e
  obtain ⟨od, J, _⟩ := J.look
  exact ⟨od, J⟩
section
variable (F : FnOk X.prog X.w X.K X.mg X.base CX k f fd ps sp) (hr : Room k X.A) (hb : Binds X.K fd ps []) (hx : Passes CX X E)
include F hr hb hx
theorem un_inv_own (hm : Meth X.K C "__invert__" f) (hf : PySem.W.isFn X.K (.ref f) = true) : UnR X (unaryOp .Invert) (rM1 C sp E) := by
  rintro pins s σ H x v Q I rx ⟨a, dx, fs, rfl, ha, h⟩
  cases rx
  obtain ⟨od, J⟩ := inst_at I ha
  obtain ⟨m, hF⟩ := I.fr
  exact PySem.W.ksp_inv hF I.ok.mod.kin J hm.at_ hf (L2.run_fn (us := [.ref a]) (vs := [.ref a]) F hr hb .nil hx I (.cons rfl .nil) h)
theorem un_pos_own (hm : Meth X.K C "__pos__" f) (hf : PySem.W.isFn X.K (.ref f) = true) : UnR X (unaryOp .UAdd) (rM1 C sp E) := by
  rintro pins s σ H x v Q I rx ⟨a, dx, fs, rfl, ha, h⟩
  cases rx
  obtain ⟨od, J⟩ := inst_at I ha
  obtain ⟨m, hF⟩ := I.fr
  exact PySem.W.ksp_pos hF I.ok.mod.kin J hm.at_ hf (L2.run_fn (us := [.ref a]) (vs := [.ref a]) F hr hb .nil hx I (.cons rfl .nil) h)
theorem op_own {op : Operator} (hs : PySem.W.selfFirst X.K C = true) (hm : PySem.W.findIn X.K (.ref C) (PySem.dunder op.info.2) = some (some (.ref f))) (hf : PySem.W.isFn X.K (.ref f) = true) : OpR X (binaryOp op) (rM2 C sp E) := by
  rintro pins s σ H x y v u Q I rx ry ⟨a, dx, fs, b, dy, gs, rfl, rfl, ha, hb2, h⟩
  cases rx
  cases ry
  obtain ⟨od, J⟩ := inst_at I ha
  obtain ⟨od2, J2⟩ := inst_at I hb2
  obtain ⟨m, hF⟩ := I.fr
  exact PySem.W.binop_K hF I.ok.mod.kin J J2.type hs hm hf (wpAny_mono (L2.run_fn (us := [.ref a, .ref b]) (vs := [.ref a, .ref b]) F hr hb .nil hx I (.cons rfl (.cons rfl .nil)) h) (fun u s' q => cmpBack_of q) fun _ _ z => z)
theorem eq_own (hm : Meth X.K C "__eq__" f) (hf : PySem.W.isFn X.K (.ref f) = true) : OpR X (compareOp .Eq) (rM2 C sp E) := by
  rintro pins s σ H x y v u Q I rx ry ⟨a, dx, fs, b, dy, gs, rfl, rfl, ha, hb2, h⟩
  cases rx
  cases ry
  obtain ⟨od, J⟩ := inst_at I ha
  obtain ⟨od2, J2⟩ := inst_at I hb2
  obtain ⟨m, hF⟩ := I.fr
  exact PySem.W.cmp_K (op := .Eq) hr.units0 hF I.ok.mod.kin J J2.type (by simp [PySem.W.notFirst]) hm.at_ hf (wpAny_mono (L2.run_fn (us := [.ref a, .ref b]) (vs := [.ref a, .ref b]) F hr hb .nil hx I (.cons rfl (.cons rfl .nil)) h) (fun u s' q => cmpBack_of q) fun _ _ z => z)
end
end
end Hk
/-! Hk10: the rules of objects with their syntax; written constants; targets; texts. -/
namespace Hk
open PySem PySem.Spec PyProof.Rows L2 Evl

/-- what the text says of an own class -/
structure OwnC (K : PySem.W.Frag) (C : Addr) : Prop where
  cl : Cls K C
  ha : PySem.W.findIn K (.ref C) "__class__" = some (some (.builtin "object.__class__"))
  hn : PySem.W.specialIn K (.builtin "object.__class__") "__get__" = some (some (.builtin "getset_descriptor.__get__"))
  htk : PySem.W.takesIn K (.builtin "object.__class__") = some true
  hm : PySem.W.mroIn K C (.type "object") = some true
  sf : PySem.W.selfFirst K C = true
section
variable {X : Cx} {a b c e o value : Expr} {ta tb te to tv : TE} {ma mb m mo mv : M Vl} {es : List Expr} {tes : TA} {mes : M (List Vl)} {pos pos' p p2 p3 apos : Pos} {C f x : Str} {n k : Nat} {fa : Addr} {fd : FuncData} {ps : List Str} {G : Fn} {CX : CXT} {E : XK}
theorem xfld (c : OwnC X.K (clA X.K C)) (n : NoAttr X.K (clA X.K C) f) (h : Ex_ X e te m) (hb : attributeBase e f X.env (eval e X.env) = eval e X.env := by rfl) : Ex_ X (.Attribute e f pos) (tFld X.K te f) (fldM C f m) := ⟨pe_fld h.pe hb, em_fld c.cl n h.em⟩
theorem ssetF (c : OwnC X.K (clA X.K C)) (n : NoAttr X.K (clA X.K C) f) (hv : Ex_ X value tv mv) (ho : Ex_ X o to mo) (hs : swapsWith value (some (.Attribute o f pos')) pos.line X.env = pure false := by rfl) : Sx X (.Assign [.Attribute o f pos'] value pos) (sFld X.K to tv f) (setFS C f mv mo) := ⟨ps_fld ho.pe hv.pe hs, sm_fld c.cl n hv.em ho.em⟩
theorem xmake (M : Mk X.K (clA X.K x) fa) (F : FnOk X.prog X.w X.K X.mg X.base CX k fa fd ps (spM X.K (n + 1) G)) (hr : Room (k + 1) X.A) (hm : X.mg x = some (.ref (clA X.K x))) (hb : Binds X.K fd ps [])
    (ha : Ax X (e :: es) tes mes) (hn : ∀ (E : En) (rs : List Vl) (E' : En), mes E = some (rs, E') → rs.length = n) (hx : Passes CX X E) (hg : Gl X x := by rfl) (hdb : (x == ("__debug__" : Str)) = false := by decide)
    (he : starEach (e :: es) X.env = (false, eval e X.env) :: starEach es X.env := by rfl) (hpl : (backTo pos (starEach es X.env)).any (·.1) = false := by rfl) :
    Ex_ X (.Call (.Name x p) (e :: es) [] pos) (tMake (clA X.K x) (spM X.K (n + 1) G) [] E tes) (makeM x G mes) := ⟨pe_make M F hr hg hm hb .nil hx ha.pa hdb he hpl, em_make hn ha.am⟩
theorem xmeth {m : Str} {pl : Sem Bool} (c : OwnC X.K (clA X.K C)) (hm : Meth X.K (clA X.K C) m fa) (F : FnOk X.prog X.w X.K X.mg X.base CX k fa fd ps (spM X.K (n + 1) G)) (hr : Room k X.A) (hb : Binds X.K fd ps []) (ho : Ex_ X o to mo) (ha : Ax X (e :: es) tes mes)
    (hn : ∀ (E : En) (rs : List Vl) (E' : En), mes E = some (rs, E') → rs.length = n) (hx : Passes CX X E)
    (hst : starEach (e :: es) X.env = (false, eval e X.env) :: starEach es X.env := by rfl) (hpl : (backTo pos (starEach es X.env)).any (·.1) = false := by rfl)
    (ht : eval (.Call (.Attribute o m apos) (e :: es) [] pos) X.env = (do
      let ov ← eval o X.env
      standAt apos.atName
      let (f, first) ← holding [ov] (getMethod ov m pl)
      callWith pos f first (backTo pos (starEach (e :: es) X.env)) (backToKw pos (keywordEach [] X.env))) := by rfl) :
    Ex_ X (.Call (.Attribute o m apos) (e :: es) [] pos) (tMeth (clA X.K C) m (spM X.K (n + 1) G) [] E to tes) (methM C m G mo mes) := ⟨pe_meth ho.pe c.cl hm F hr hb .nil hx ha.pa hst hpl ht, em_meth hn ho.em ha.am⟩
theorem xmeth0 {m : Str} {pl : Sem Bool} (c : OwnC X.K (clA X.K C)) (hm : Meth X.K (clA X.K C) m fa) (F : FnOk X.prog X.w X.K X.mg X.base CX k fa fd ps (spM X.K 1 G)) (hr : Room k X.A) (hb : Binds X.K fd ps []) (ho : Ex_ X o to mo) (hx : Passes CX X E)
    (ht : eval (.Call (.Attribute o m apos) [] [] pos) X.env = (do
      let ov ← eval o X.env
      standAt apos.atName
      let (f, first) ← holding [ov] (getMethod ov m pl)
      callWith pos f first (backTo pos (starEach [] X.env)) (backToKw pos (keywordEach [] X.env))) := by rfl) :
    Ex_ X (.Call (.Attribute o m apos) [] [] pos) (tMeth (clA X.K C) m (spM X.K 1 G) [] E to tNil) (methM C m G mo (retM [])) := ⟨pe_meth0 ho.pe c.cl hm F hr hb .nil hx ht, em_meth (n := 0) (nil_len rfl) ho.em anil.am⟩
theorem em_un {r : V → Hp → VK → Prop} {g : Vl → M Vl} {K : PySem.W.Frag} (hu : UM K r g) (ha : EM K ta ma) : EM K (tUn r ta) (bindM ma g) := fun {μ Hd H σ E z E'} R e Q q => by
  obtain ⟨v, E1, e1, e2⟩ := bindM_some e
  refine ha R e1 _ fun μ1 Hd1 H1 vx g1 R1 r1 => ?_
  exact hu R1 r1 e2 Q fun μ2 Hd2 H2 v g2 R2 r2 => q μ2 Hd2 H2 v (g1.trans g2) R2 r2
theorem isFn_of {m : Str} (hm : Meth X.K (clA X.K C) m fa) : PySem.W.isFn X.K (.ref fa) = true := hm.fn
theorem xinv (hm : Meth X.K (clA X.K C) "__invert__" fa) (F : FnOk X.prog X.w X.K X.mg X.base CX k fa fd ps (spM X.K 1 G)) (hr : Room k X.A) (hb : Binds X.K fd ps []) (ha : Ex_ X a ta ma) (hx : Passes CX X E) :
    Ex_ X (.UnaryOp .Invert a pos) (tUn (rM1 (clA X.K C) (spM X.K 1 G) E) ta) (bindM ma (ownF1 C G)) := ⟨pe_un (un_inv_own F hr hb hx hm hm.fn) ha.pe, em_un um_own ha.em⟩
theorem xpos (hm : Meth X.K (clA X.K C) "__pos__" fa) (F : FnOk X.prog X.w X.K X.mg X.base CX k fa fd ps (spM X.K 1 G)) (hr : Room k X.A) (hb : Binds X.K fd ps []) (ha : Ex_ X a ta ma) (hx : Passes CX X E) :
    Ex_ X (.UnaryOp .UAdd a pos) (tUn (rM1 (clA X.K C) (spM X.K 1 G) E) ta) (bindM ma (ownF1 C G)) := ⟨pe_un (un_pos_own F hr hb hx hm hm.fn) ha.pe, em_un um_own ha.em⟩
theorem xown {op : Operator} {m : Str} (c : OwnC X.K (clA X.K C)) (hm : Meth X.K (clA X.K C) m fa) (F : FnOk X.prog X.w X.K X.mg X.base CX k fa fd ps (spM X.K 2 G)) (hr : Room k X.A) (hb : Binds X.K fd ps []) (ha : Ex_ X a ta ma) (hb2 : Ex_ X b tb mb) (hx : Passes CX X E) (ho : m = PySem.dunder op.info.2 := by rfl) :
    Ex_ X (.BinOp a op b pos) (tOp (rM2 (clA X.K C) (spM X.K 2 G) E) ta tb) (bindM ma fun x => bindM mb (ownF2 C G x)) := ⟨pe_op (op_own F hr hb hx c.sf (ho ▸ hm.at_) hm.fn) ha.pe hb2.pe, em_op om_own ha.em hb2.em⟩
/-- == of two of the class -/
theorem teqO (hm : Meth X.K (clA X.K C) "__eq__" fa) (F : FnOk X.prog X.w X.K X.mg X.base CX k fa fd ps (spM X.K 2 G)) (hr : Room k X.A) (hb : Binds X.K fd ps []) (ha : Ex_ X a ta ma) (hb2 : Ex_ X b tb mb) (hx : Passes CX X E) (hk : behindInMarks .Eq b = false := by rfl) :
    Tx X (.Compare a [.Eq] [b] pos) (tTest (tOp (rM2 (clA X.K C) (spM X.K 2 G) E) ta tb)) (bindM (bindM ma fun x => bindM mb (ownF2 C G x)) boolM) := tcmp (eq_own F hr hb hx hm hm.fn) om_own ha hb2 hk
/-! ### len by the own method -/
def rLenO (C : Addr) (sp : Sp) (E : XK) : List V → Hp → VK → Prop := fun xs H Q => ∃ a dx fs, xs = [.ref a] ∧ H a = some (.ins C dx fs) ∧ sp [.ref a] H (fun v H' => ∃ n : Int, v = .int n ∧ 0 ≤ n ∧ n < 2 ^ 63 ∧ Q (.int n) H') E
theorem call_lenO {C : Addr} {sp : Sp} (hm : Meth X.K C "__len__" fa) (F : FnOk X.prog X.w X.K X.mg X.base CX k fa fd ps sp) (hr : Room (k + 1) X.A) (hb : Binds X.K fd ps []) (hx : Passes CX X E) : CallR X (.builtin "len") (rLenO C sp E) := by
  rintro pins s σ H xs us Q I r ⟨a, dx, fs, rfl, ha, h⟩
  obtain ⟨u, rfl, ru⟩ := vals1 r
  cases (show u = Value.ref a from ru)
  obtain ⟨od, J⟩ := inst_at I ha
  obtain ⟨m, hF⟩ := I.fr
  refine PySem.W.len_K hF I.ok.mod.kin J hm.at_ hm.fn ?_
  have hl := F.len _ _ _ _ h
  have e0 : Env0 X.prog X.w X.K X.mg X.base X.A.in1 X.stack s H := I.env0.in1
  refine wpAny_call (codeAny_mono (F.run X.A.in1 X.stack s H ⟨[.ref a], []⟩ [.ref a] [.ref a] _ E hr.in1 e0 (by
    have := hb s [.ref a] I.kIn (by simpa using hl)
    simpa using this) (.cons rfl .nil) h) fun r s' hq => ?_)
  cases r with
  | error e => exact hx pins σ H s e s' I hq
  | ok fl =>
    cases fl with
    | ret w =>
      obtain ⟨z, H', I', rz, n, rfl, h1, h2, q⟩ := I.after hq
      obtain ⟨t, e⟩ := rz
      subst e
      exact ⟨⟨h1, h2⟩, .int n, H', I'.tok _, ⟨_, rfl⟩, q⟩
    | next => exact False.elim hq
    | brk => exact False.elim hq
    | cont => exact False.elim hq
def lenOF (C : Str) (G : Fn) : List Vl → M Vl := fun xs => match xs with
  | [x] => bindM (ownF1 C G x) fun r => match r with
    | .d (.int n) => if 0 ≤ n ∧ n < 2 ^ 63 then retM (.d (.int n)) else failM
    | _ => failM
  | _ => failM
theorem cm_lenO {K : PySem.W.Frag} {C : Str} {E0 : XK} : CM K (rLenO (clA K C) (spM K 1 G) E0) (lenOF C G) := fun {μ Hd H σ E xs vs z E'} R hxs e Q q => by
  unfold lenOF at e
  split at e
  · rename_i x
    obtain ⟨r, E1, e1, e2⟩ := bindM_some e
    split at e2
    · rename_i n
      split at e2
      · rename_i hn
        cases e2
        obtain ⟨v, rfl, hv⟩ := hxs.one
        unfold ownF1 at e1
        split at e1
        · rename_i C' ns ds e3
          split at e1
          · rename_i hc
            subst hc
            split at e1
            · rename_i z ce e4
              cases e1
              obtain ⟨a, dx, fs, rfl, h2, h3, h4⟩ := see_obj R.wo hv e3
              exact ⟨a, dx, fs, rfl, h2, rfl, μ, Hd, E.ce, [x], _, ce, R.wo, .cons hv .nil, e4, fun μ1 Hd1 H1 v g1 w1 r1 => ⟨n, r1, hn.1, hn.2, q μ1 Hd1 H1 _ g1 ⟨w1, R.sl.gr g1⟩ rfl⟩⟩
            · cases e1
          · cases e1
        · cases e1
      · cases e2
    · cases e2
  · cases e
theorem xlenO (hm : Meth X.K (clA X.K C) "__len__" fa) (F : FnOk X.prog X.w X.K X.mg X.base CX k fa fd ps (spM X.K 1 G)) (hr : Room (k + 1) X.A) (hb : Binds X.K fd ps []) (hl : X.mg "len" = none) (ha : Ax X (e :: es) tes mes) (hx : Passes CX X E) (hg : Gl X "len" := by rfl)
    (he : starEach (e :: es) X.env = (false, eval e X.env) :: starEach es X.env := by rfl) (hpl : (backTo pos (starEach es X.env)).any (·.1) = false := by rfl) :
    Ex_ X (.Call (.Name "len" p) (e :: es) [] pos) (tCB (rLenO (clA X.K C) (spM X.K 1 G) E) tes) (bindM mes (lenOF C G)) := xblt (call_lenO hm F hr hb hx) cm_lenO hl PySem.boot_len ha hg (by decide) (by decide) he hpl
/-! ### isinstance of an own class -/
def isiOF (C : Str) : Dt → Option Dt
  | .obj C' _ _ => if C' = C then some (.bl true) else none
  | _ => none
theorem em_isiO {K : PySem.W.Frag} {C : Str} (c : OwnC K (clA K C)) (ha : EM K ta ma) : EM K (tCB (rIsi K) (tCons ta (tCons (tC (.ref (clA K C))) tNil))) (bindM ma (seeF (isiOF C))) := fun {μ Hd H σ E r E'} R e Q q => by
  obtain ⟨x, E1, e1, e2⟩ := bindM_some e
  obtain ⟨d, z, e3, e4, rfl, rfl⟩ := seeF_some e2
  refine ha R e1 _ fun μ1 Hd1 H1 v g1 R1 r1 => ?_
  cases d with
  | obj C' ns ds =>
    have e4 : (if C' = C then some (Dt.bl true) else none) = some z := e4
    by_cases hc : C' = C
    · subst hc
      rw [if_pos rfl] at e4
      cases e4
      obtain ⟨a, dx, fs, rfl, h2, h3, h4⟩ := see_obj R1.wo r1 e3
      exact ⟨.ref a, .ref (clA K C'), .ref (clA K C'), .ref (clA K C'), true, rfl, .own _, .base (.ins h2 c.cl c.ha c.hn c.htk c.hm), by simp [PySem.W.kitOne], q _ _ _ _ g1 R1 rfl⟩
    · rw [if_neg hc] at e4
      cases e4
  | _ => cases e4
theorem xisO (hm : X.mg "isinstance" = none) (c : OwnC X.K (clA X.K x)) (ha : Ex_ X a ta ma) (hmx : X.mg x = some (.ref (clA X.K x))) (hg : Gl X "isinstance" := by rfl) (hgx : Gl X x := by rfl) (hdb : (x == ("__debug__" : Str)) = false := by decide)
    (h1 : starEach [a, .Name x p2] X.env = (false, eval a X.env) :: starEach [.Name x p2] X.env := by rfl) (h2 : starEach [.Name x p2] X.env = [(false, eval (.Name x p2) X.env)] := by rfl) (h3 : (backTo pos (starEach [.Name x p2] X.env)).any (·.1) = false := by rfl) :
    Ex_ X (.Call (.Name "isinstance" p) [a, .Name x p2] [] pos) (tCB (rIsi X.K) (tCons ta (tCons (tC (.ref (clA X.K x))) tNil))) (bindM ma (seeF (isiOF x))) :=
  ⟨pe_callB call_isi hg hm (by decide +kernel) (pa_cons ha.pe (pa_cons (pe_glob hgx hmx (v := .ref (clA X.K x)) rfl hdb) pa_nil h2) h1) (by decide) (by decide) h1 h3, em_isiO c ha.em⟩
theorem xisi2 {x y : Str} {n1 n2 : String} {pt : Pos} {kt : _} (hm : X.mg "isinstance" = none) (ha : Ex_ X a ta ma) (hmx : X.mg x = none) (hmy : X.mg y = none) (hv : bootBuiltins x = some (.type n1)) (hw : bootBuiltins y = some (.type n2)) (hg : Gl X "isinstance" := by rfl) (hgx : Gl X x := by rfl) (hgy : Gl X y := by rfl)
    (hn : x ≠ "__name__" := by decide) (hdb : (x == ("__debug__" : Str)) = false := by decide) (hn2 : y ≠ "__name__" := by decide) (hdb2 : (y == ("__debug__" : Str)) = false := by decide)
    (h1 : starEach [a, .Tuple [.Name x p2, .Name y p3] kt pt] X.env = (false, eval a X.env) :: starEach [.Tuple [.Name x p2, .Name y p3] kt pt] X.env := by rfl)
    (h2 : starEach [.Tuple [.Name x p2, .Name y p3] kt pt] X.env = [(false, eval (.Tuple [.Name x p2, .Name y p3] kt pt) X.env)] := by rfl)
    (h4 : starEach [.Name x p2, .Name y p3] X.env = (false, eval (.Name x p2) X.env) :: starEach [.Name y p3] X.env := by rfl) (h5 : starEach [.Name y p3] X.env = [(false, eval (.Name y p3) X.env)] := by rfl)
    (h3 : (backTo pos (starEach [.Tuple [.Name x p2, .Name y p3] kt pt] X.env)).any (·.1) = false := by rfl) :
    Ex_ X (.Call (.Name "isinstance" p) [a, .Tuple [.Name x p2, .Name y p3] kt pt] [] pos) (tCB (rIsiT X.K) (tCons ta (tCons (tTup (tCons (tC (.ty n1)) (tCons (tC (.ty n2)) tNil))) tNil))) (bindM ma (seeF (isi2F n1 n2))) :=
  ⟨pe_callB call_isiT hg hm (by decide +kernel) (pa_cons ha.pe (pa_cons (pe_tup (pa_cons (pe_bltn hgx hmx hv (v := .ty n1) rfl hn hdb) (pa_cons (pe_bltn hgy hmy hw (v := .ty n2) rfl hn2 hdb2) pa_nil h5) h4)) pa_nil h2) h1) (by decide) (by decide) h1 h3, em_isi2 ha.em⟩
/-! ### written constants -/
theorem xgint {i : Int} {x : Str} {u : Value} (hm : X.mg x = some u) (hr : RelV (.int i) u) (hg : Gl X x := by rfl) (hdb : (x == ("__debug__" : Str)) = false := by decide) : Ex_ X (.Name x pos) (tC (.int i)) (retM (.d (.int i))) := ⟨pe_glob hg hm hr hdb, em_c (d := .int i) fun _ => (rfl : V.int i = .int i)⟩
/-- a written thing that is data in any heap -/
theorem xgdat {d : Dt} {x : Str} {ad : Addr} (hm : X.mg x = some (.ref ad)) (hr : ∀ H, Rp X.K H d (.ref ad)) (hg : Gl X x := by rfl) (hdb : (x == ("__debug__" : Str)) = false := by decide) : Ex_ X (.Name x pos) (tC (.ref ad)) (retM (.d d)) := ⟨pe_glob hg hm (v := .ref ad) rfl hdb, em_c hr⟩
/-- a written dict with text keys: what stands at some keys -/
def look2 (z : Str) : List (Str × Dt) → Option Dt
  | [] => none
  | (k, d) :: r => if z = k then some d else look2 z r
structure WDic (K : PySem.W.Frag) (w : World) (d : Addr) (tb : List (Str × Dt)) : Prop where
  at_ : ∃ es n, KDict K w d es n
  tab : ∀ (z : Str) (v : Dt), look2 z tb = some v → ∃ u y, PySem.W.nsIn K d z = some (some u) ∧ RelV y u ∧ ∀ H, Rp K H v y
def ixDM (tb : List (Str × Dt)) (mb : M Vl) : M Vl := bindM mb fun y => match y with
  | .d (.str z) => fun E => (look2 z tb).map fun d => (.d d, E)
  | _ => failM
theorem em_ixD {K : PySem.W.Frag} {w : World} {d : Addr} {tb0 : List (Str × Dt)} (D : WDic K w d tb0) (hb : EM K tb mb) : EM K (tOp (rIxD K w) (tC (.ref d)) tb) (ixDM tb0 mb) := fun {μ Hd H σ E r E'} R e Q q => by
  obtain ⟨y, E1, e1, e2⟩ := bindM_some e
  split at e2
  · rename_i z
    cases e3 : look2 z tb0 with
    | none =>
      rw [e3] at e2
      cases e2
    | some v =>
      rw [e3] at e2
      cases e2
      refine hb R e1 _ fun μ1 Hd1 H1 vy g1 R1 r1 => ?_
      cases (show vy = .str z from r1)
      obtain ⟨es, n, kd⟩ := D.at_
      obtain ⟨u, y, h1, h2, h3⟩ := D.tab z v e3
      exact ⟨d, z, y, rfl, rfl, ⟨es, n, u, kd.at_, kd.lit, h1, h2⟩, q μ1 Hd1 H1 y g1 R1 (h3 Hd1)⟩
  · cases e2
theorem xixD {x : Str} {d : Addr} {tb0 : List (Str × Dt)} (D : WDic X.K X.w d tb0) (hm : X.mg x = some (.ref d)) (hb : Ex_ X b tb mb) (hs : PlainIx b := by intro _ _; rfl) (hg : Gl X x := by rfl) (hdb : (x == ("__debug__" : Str)) = false := by decide) :
    Ex_ X (.Subscript (.Name x p) b pos) (tOp (rIxD X.K X.w) (tC (.ref d)) tb) (ixDM tb0 mb) := ⟨pe_ix ix_kdict (pe_glob hg hm (v := .ref d) rfl hdb) hb.pe hs, em_ixD D hb.em⟩
def inDM (neg : Bool) (tb : List (Str × Dt)) (ma : M Vl) : M Vl := bindM ma fun y => match y with
  | .d (.str z) => fun E => (look2 z tb).map fun _ => (.d (.bl (!neg)), E)
  | _ => failM
theorem inDM_some {neg : Bool} {tb : List (Str × Dt)} {ma : M Vl} {E E' : En} {r : Vl} (e : inDM neg tb ma E = some (r, E')) : ∃ z v, ma E = some (.d (.str z), E') ∧ look2 z tb = some v ∧ r = .d (.bl (!neg)) := by
  obtain ⟨y, E1, e1, e2⟩ := bindM_some e
  split at e2
  · rename_i z
    cases e3 : look2 z tb with
    | none =>
      rw [e3] at e2
      cases e2
    | some v =>
      rw [e3] at e2
      cases e2
      exact ⟨z, v, e1, e3, rfl⟩
  · cases e2
theorem tinD {x : Str} {d : Addr} {tb0 : List (Str × Dt)} (D : WDic X.K X.w d tb0) (hm : X.mg x = some (.ref d)) (ha : Ex_ X a ta ma) (hk : behindInMarks .In (.Name x p) = false := by rfl) (hg : Gl X x := by rfl) (hdb : (x == ("__debug__" : Str)) = false := by decide) :
    Tx X (.Compare a [.In] [.Name x p] pos) (tTest (tOp (fun x y H Q => ∃ (z : Str) (r : Option Value), x = .str z ∧ y = .ref d ∧ PySem.W.nsIn X.K d z = some r ∧ Q (.bl r.isSome) H) ta (tC (.ref d)))) (bindM (inDM false tb0 ma) boolM) :=
  ⟨pt_cmpR (by
    obtain ⟨es, n, kd⟩ := D.at_
    exact op_in_kd kd) ha.pe (pe_glob hg hm (v := .ref d) rfl hdb) hk, tm_test fun {μ Hd H σ E r E'} R e Q q => by
    obtain ⟨z, v, e1, e2, rfl⟩ := inDM_some e
    refine ha.em R e1 _ fun μ1 Hd1 H1 vy g1 R1 r1 => ?_
    obtain ⟨u, y, h1, h2, h3⟩ := D.tab z v e2
    exact ⟨z, some u, r1, rfl, h1, q μ1 Hd1 H1 _ g1 R1 rfl⟩⟩
theorem tninD {x : Str} {d : Addr} {tb0 : List (Str × Dt)} (D : WDic X.K X.w d tb0) (hm : X.mg x = some (.ref d)) (ha : Ex_ X a ta ma) (hk : behindInMarks .NotIn (.Name x p) = false := by rfl) (hg : Gl X x := by rfl) (hdb : (x == ("__debug__" : Str)) = false := by decide) :
    Tx X (.Compare a [.NotIn] [.Name x p] pos) (tTest (tOp (fun x y H Q => ∃ (z : Str) (r : Option Value), x = .str z ∧ y = .ref d ∧ PySem.W.nsIn X.K d z = some r ∧ Q (.bl (!r.isSome)) H) ta (tC (.ref d)))) (bindM (inDM true tb0 ma) boolM) :=
  ⟨pt_cmpR (by
    obtain ⟨es, n, kd⟩ := D.at_
    exact op_notIn_kd kd) ha.pe (pe_glob hg hm (v := .ref d) rfl hdb) hk, tm_test fun {μ Hd H σ E r E'} R e Q q => by
    obtain ⟨z, v, e1, e2, rfl⟩ := inDM_some e
    refine ha.em R e1 _ fun μ1 Hd1 H1 vy g1 R1 r1 => ?_
    obtain ⟨u, y, h1, h2, h3⟩ := D.tab z v e2
    exact ⟨z, some u, r1, rfl, h1, q μ1 Hd1 H1 _ g1 R1 rfl⟩⟩
/-! ### a, b, c = value -/
structure Gsx (X : Cx) (es : List Expr) (t : TGs) (gs : List (Vl → En → Option En)) : Prop where
  pg : PGs X es t
  gm : GsM X.K t gs
theorem gsnil : Gsx X [] gNil [] := ⟨pgs_nil, gsm_nil⟩
theorem gscons {t : TG} {u : TGs} {g : Vl → En → Option En} {gs : List (Vl → En → Option En)} (h1 : Gx X e t g) (h2 : Gsx X es u gs) (hs : (assignEach (e :: es) X.env).map (·.2) = assign e X.env :: (assignEach es X.env).map (·.2) := by rfl) : Gsx X (e :: es) (gCons t u) (g :: gs) := ⟨pgs_cons h1.pg h2.pg hs, gsm_cons h1.gm h2.gm⟩
theorem gtupX {t : TGs} {gs : List (Vl → En → Option En)} {n k : Nat} (hc : X.calm = true) (h : Gsx X es t gs) (hl : gs.length = n) (hn : (assignEach es X.env).length = n := by rfl) (hst : (assignEach es X.env).findIdx? (·.1) = none := by rfl) : Gx X (.Tuple es k pos) (gTup X.K n t) (tupG gs) := ⟨pg_tup hc h.pg hn hst, gm_tup hl h.gm⟩
def asgS (m : M Vl) (g : Vl → En → Option En) : En → Option Rs := fun E => match m E with
  | some (r, E1) => match g r E1 with
    | some E2 => some (.nx E2)
    | none => none
  | none => none
theorem sasg {tg : Expr} {g : TG} {gm : Vl → En → Option En} (h : Ex_ X e te m) (hg : Gx X tg g gm) (hs : swapsWithSole [tg] e pos.line X.env = pure false := by rfl) (hw : swappedStores [tg] e X.env = pure none := by rfl)
    (h1 : (assignEach [tg] X.env).map (·.2) = [assign tg X.env] := by rfl) : Sx X (.Assign [tg] e pos) (tAsg te g) (asgS m gm) := ⟨ps_asg h.pe hg.pg hs hw h1, fun {μ Hd H σ E R} r q D d => by
  unfold asgS at q
  split at q
  · rename_i v E1 e1
    split at q
    · rename_i E2 e2
      cases q
      exact h.em r e1 _ fun μ1 Hd1 H1 x g1 R1 r1 => hg.gm R1 r1 e2 _ fun μ2 Hd2 H2 σ2 g2 R2 => d μ2 Hd2 H2 σ2 (g1.trans g2) R2
    · cases q
  · cases q⟩
/-! ### iterating a text -/
def chrs (s : Str) : List Dt := s.cps.toList.map fun c => .str ⟨#[c]⟩
def strM (m : M Vl) : M (List Dt) := bindM m fun r => match r with
  | .d (.str s) => retM (chrs s)
  | _ => failM
theorem serves_s {K : PySem.W.Frag} {Hd : Hp} (s : Str) : Serves (Its s) K Hd (chrs s) := fun Hd1 H1 i e1 e2 => by
  have hl : (chrs s).length = s.cps.size := by simp [chrs]
  refine ⟨fun h => by rw [hl] at h; exact h, fun d hd => ?_⟩
  have hi : i < s.cps.size := by
    have := (List.getElem?_eq_some_iff.mp hd).1
    omega
  refine ⟨hi, fun x H' ⟨q1, q2⟩ => ⟨Hd1, .inl ⟨q1, rfl⟩, ?_⟩⟩
  obtain ⟨c, hc, rfl⟩ := q2
  have e : d = .str ⟨#[c]⟩ := by
    unfold chrs at hd
    rw [List.getElem?_map, Array.getElem?_toList, hc] at hd
    exact (Option.some.inj hd).symm
  subst e
  exact rfl
theorem istr {tg iter : Expr} (h : Ex_ X iter te m) : Ix_ X tg iter (iStr te) (strM m) := ⟨pi_str h.pe, fun {μ Hd H σ E ds E'} R e Q q => by
  obtain ⟨r, E1, e1, e2⟩ := bindM_some e
  split at e2
  · rename_i s
    cases e2
    exact h.em R e1 _ fun μ1 Hd1 H1 v g1 R1 r1 => ⟨s, r1, q μ1 Hd1 H1 _ g1 R1 (serves_s s)⟩
  · cases e2⟩
/-! ### range(i, j, -1) -/
def rngD (hi : Int) (n : Nat) : List Dt := (List.range n).map fun (i : Nat) => .int (hi + (i : Nat) * (-1))
theorem serves_rd {K : PySem.W.Frag} {Hd : Hp} (lo : Int) (n : Nat) : Serves (Itc lo (-1) n) K Hd (rngD lo n) := fun Hd1 H1 i e1 e2 => by
  have hl : (rngD lo n).length = n := by simp [rngD]
  refine ⟨fun h => by rw [hl] at h; exact h, fun d hd => ?_⟩
  have hi : i < n := by
    have := (List.getElem?_eq_some_iff.mp hd).1
    omega
  refine ⟨hi, fun x H' ⟨q1, q2⟩ => ⟨Hd1, .inl ⟨q1, rfl⟩, ?_⟩⟩
  have e : d = .int (lo + (i : Nat) * (-1)) := by
    unfold rngD at hd
    rw [List.getElem?_map, List.getElem?_range hi] at hd
    exact (Option.some.inj hd).symm
  subst e q2
  exact rfl
def rng3M (m : M (List Vl)) : M (List Dt) := bindM m fun rs => match rs with
  | [.d (.int i), .d (.int j), .d (.int c)] => fun E => if -(2 ^ 62) ≤ i ∧ i < 2 ^ 62 ∧ -(2 ^ 62) ≤ j ∧ j < 2 ^ 62 ∧ c = -1 then some (rngD i (i - j).toNat, E) else none
  | _ => failM
theorem irng3 {tg : Expr} (hm : X.mg "range" = none) (ha : Ax X [a, b, c] tes mes) (hg : Gl X "range" := by rfl) (hs : starEach [a, b, c] X.env = (false, eval a X.env) :: starEach [b, c] X.env := by rfl) (hpl : (backTo pos (starEach [b, c] X.env)).any (·.1) = false := by rfl) :
    Ix_ X tg (.Call (.Name "range" p) [a, b, c] [] pos) (iRng3 tes) (rng3M mes) := ⟨pi_range3 hg hm ha.pa hs hpl, fun {μ Hd H σ E ds E'} R e Q q => by
  obtain ⟨rs, E1, e1, e2⟩ := bindM_some e
  split at e2
  · rename_i i j k
    split at e2
    · rename_i hn
      cases e2
      obtain ⟨n1, n2, n3, n4, rfl⟩ := hn
      refine ha.am R e1 _ fun μ1 Hd1 H1 vs g1 R1 r1 => ?_
      cases r1 with
      | cons p1 t =>
        cases t with
        | cons p2 t2 =>
          cases t2 with
          | cons p3 t3 =>
            cases t3
            cases (show _ = V.int i from p1)
            cases (show _ = V.int j from p2)
            cases (show _ = V.int (-1) from p3)
            exact ⟨i, j, -1, _, rfl, RgC.neg n1 n2 n3 n4, q μ1 Hd1 H1 _ g1 R1 (serves_rd i (i - j).toNat)⟩
    · cases e2
  · cases e2⟩
/-! ### xs[::-1] -/
theorem RpA.rev {K : PySem.W.Frag} {H : Hp} : ∀ {ds : List Dt} {vs : List V}, RpA K H ds vs → RpA K H ds.reverse vs.reverse
  | [], vs, h => by
    rw [show vs = [] from h]
    exact (rfl : ([] : List V) = [])
  | d :: ds, vs, h => by
    obtain ⟨y, r, rfl, h2, h3⟩ := h
    rw [List.reverse_cons, List.reverse_cons]
    exact (RpA.rev h3).app (.one h2)
def revM (m : M Vl) : M Vl := bindM m fun x => fun E => match see E.ce x with
  | some (.lst ds) => newL ds.reverse E
  | some (.sq ds) => newL ds.reverse E
  | _ => none
theorem xrev {kk : Nat} {p1 p2 p3 : Pos} (h : Ex_ X e te m) : Ex_ X (.Subscript e (.Slice none none (some (.UnaryOp .USub (.Constant (.int 1) kk p1) p2)) p3) pos) (tRevL X.K te) (revM m) := ⟨pe_revL h.pe, fun {μ Hd H σ E r E'} R e Q q => by
  obtain ⟨x, E1, e1, e2⟩ := bindM_some e
  split at e2
  · rename_i ds e3
    refine h.em R e1 _ fun μ1 Hd1 H1 v g1 R1 r1 => ?_
    obtain ⟨a, vs, rfl, h2, h3⟩ := see_lst R1.wo r1 e3
    refine ⟨a, vs, rfl, sq_of h2, fun p hp => ?_⟩
    obtain ⟨g2, R2, r2⟩ := newL_ok R1 h3.rev e2 hp
    exact q _ _ _ _ (g1.trans g2) R2 r2
  · rename_i ds e3
    refine h.em R e1 _ fun μ1 Hd1 H1 v g1 R1 r1 => ?_
    obtain ⟨a, vs, rfl, h2, h3⟩ := see_sq R1.wo r1 e3
    refine ⟨a, vs, rfl, h2, fun p hp => ?_⟩
    obtain ⟨g2, R2, r2⟩ := newL_ok R1 h3.rev e2 hp
    exact q _ _ _ _ (g1.trans g2) R2 r2
  · cases e2⟩
end
/-! ### texts compared -/
section
variable {K : PySem.W.Frag}
def leSF : Dt → Dt → Option Dt
  | .str i, .str j => some (.bl (!decide (j.cps.toList < i.cps.toList)))
  | _, _ => none
def rLeS : R2 := fun x y H Q => ∃ i j, x = .str i ∧ y = .str j ∧ Q (.bl (!decide (j.cps.toList < i.cps.toList))) H
theorem op_leS {X : Cx} : OpR X (compareOp .LtE) rLeS := op_le_str
theorem om_leS : OM K rLeS (op2 leSF) := om_op2 fun H a b d vx vy ha hb e Q q => by
  unfold leSF at e
  split at e
  · rename_i i j
    cases e
    exact ⟨i, j, ha, hb, q _ fun _ => rfl⟩
  · cases e
theorem leS_bl : ∀ x y E z E', op2 leSF x y E = some (z, E') → ∃ k, z = .d (.bl k) := op2_bl fun a b d e => by
  unfold leSF at e
  split at e
  · cases e
    exact ⟨_, rfl⟩
  · cases e
end
end Hk
namespace Hk
open PySem PySem.Spec PyProof.Rows L2 Evl
section
variable {X : Cx} {a b c : Expr} {ta tb tc : TE} {ma mb mc : M Vl} {pos : Pos}
theorem xchain {op op' : CmpOp} {r r' : R2} {f g : Vl → Vl → M Vl} (ho : OpR X (compareOp op) r) (ho' : OpR X (compareOp op') r') (hf : OM X.K r f) (hg : OM X.K r' g) (hgb : ∀ x y E z E', g x y E = some (z, E') → ∃ k, z = .d (.bl k)) (ha : Ex_ X a ta ma) (hb : Ex_ X b tb mb) (hc : Ex_ X c tc mc)
    (hm : lastMarks [op, op'] [b, c] = false := by with_unfolding_all rfl) : Ex_ X (.Compare a [op, op'] [b, c] pos) (tChain r r' ta tb tc) (chainV f g ma mb mc) := ⟨pe_chain ho ho' ha.pe hb.pe hc.pe hm, em_chain hf hg hgb ha.em hb.em hc.em⟩
end
end Hk
theorem L2.Room.monoR {j b n : Nat} {A : PySem.Around} (r : L2.Room (b + n) A) (h : j ≤ b) : L2.Room j A := r.mono (Nat.le_trans h (Nat.le_add_right b n))
/-! Hk11: evaluation: objects, methods of lists, tables, targets, texts. -/
namespace Hk
open PySem PySem.Spec PyProof.Rows L2 Evl
section
variable {E E1 E2 E3 : En} {x y z r : Vl} {d d1 d2 : Dt} {rs : List Vl} {k : Bool}
theorem zv_app {mo : M Vl} {ma : M (List Vl)} {c : Nat} {acc : List Dt} {sl sl2 : List (Option Vl)} {ce ce2 ce3 : List Ce} (ho : mo E = some (.c c, ⟨sl, ce⟩)) (hs : see ce (.c c) = some (.lst acc)) (ha : ma ⟨sl, ce⟩ = some ([r], ⟨sl2, ce2⟩)) (hf : fzM r ⟨sl2, ce2⟩ = some (d, ⟨sl, ce3⟩)) {acc2 : List Dt} (h3 : ce3[c]? = some (.lst acc2)) (hl : acc2.length < 100000) :
    bmM "list" mo ma appF E = some (.d .non, ⟨sl, ce3.set c (.lst (acc2 ++ [d]))⟩) := by
  refine zv_bind ho ?_
  show (match see ce (.c c) with
    | some d => if tyB "list" d = true then (bindM ma fun xs => appF (.c c) xs) ⟨sl, ce⟩ else none
    | none => none) = _
  rw [hs]
  refine zv_bind (m := ma) ha (zv_bind (m := fzM r) hf ?_)
  show (match ce3[c]? with
    | some (.lst xs) => match (if xs.length < 100000 then some (Dt.non, xs ++ [d]) else none) with
      | some (d, ys) => some (Vl.d d, (⟨sl, ce3.set c (.lst ys)⟩ : En))
      | none => none
    | _ => none) = _
  rw [h3]
  simp only [if_pos hl]
theorem zv_pop {mo : M Vl} {c : Nat} {acc : List Dt} {sl : List (Option Vl)} {ce : List Ce} (ho : mo E = some (.c c, ⟨sl, ce⟩)) (h3 : ce[c]? = some (.lst (acc ++ [d]))) :
    bmM "list" mo (retM []) popF E = some (.d d, ⟨sl, ce.set c (.lst acc)⟩) := by
  refine zv_bind ho ?_
  have hs : see ce (.c c) = some (.lst (acc ++ [d])) := zv_seeC h3
  show (match see ce (.c c) with
    | some d => if tyB "list" d = true then (bindM (retM []) fun xs => popF (.c c) xs) ⟨sl, ce⟩ else none
    | none => none) = _
  rw [hs]
  show (bindM (retM []) fun xs => popF (.c c) xs) ⟨sl, ce⟩ = _
  refine zv_bind zv_ret ?_
  show (match ce[c]? with
    | some (.lst acc) => match (match acc[acc.length - 1]? with
      | some d => some (d, acc.dropLast)
      | none => none) with
      | some (d, ys) => some (Vl.d d, (⟨sl, ce.set c (.lst ys)⟩ : En))
      | none => none
    | _ => none) = _
  rw [h3]
  simp
theorem zv_fld {C f : Str} {m : M Vl} {ns : List Str} {ds : List Dt} (h : m E = some (x, E1)) (hs : see E1.ce x = some (.obj C ns ds)) (hl : look f ns ds = some d) : fldM C f m E = some (.d d, E1) := zv_bind h (zv_see hs (by
  show (if C = C then look f ns ds else none) = some d
  rw [if_pos rfl, hl]))
theorem zk_setF {C f : Str} {mv mo : M Vl} {c : Nat} {ns : List Str} {ds : List Dt} {sl : List (Option Vl)} {ce : List Ce} (h : mv E = some (x, E1)) (hf : fzM x E1 = some (d, E2)) (ho : mo E2 = some (.c c, ⟨sl, ce⟩)) (hc : ce[c]? = some (.ins C ns ds)) (hl : ns.length < 1000) :
    setFS C f mv mo E = some (.nx ⟨sl, ce.set c (.ins C (putN f ns) (putD f d ns ds))⟩) := by
  unfold setFS
  rw [zv_bind h hf]
  simp only [ho, hc]
  rw [if_pos ⟨trivial, hl⟩]
theorem zv_make {C : Str} {G : Fn} {m : M (List Vl)} {sl : List (Option Vl)} {ce ce' : List Ce} (h : m E = some (rs, ⟨sl, ce⟩)) (g : G (.c ce.length :: rs) (ce ++ [.ins C [] []]) = some (.d .non, ce')) : makeM C G m E = some (.c ce.length, ⟨sl, ce'⟩) := zv_bind h (by
  simp only [g])
theorem zv_meth {C m : Str} {G : Fn} {mo : M Vl} {ms : M (List Vl)} {ns : List Str} {ds : List Dt} {sl : List (Option Vl)} {ce ce' : List Ce} (ho : mo E = some (x, E1)) (hs : see E1.ce x = some (.obj C ns ds)) (hl : look m ns ds = none) (ha : ms E1 = some (rs, ⟨sl, ce⟩)) (g : G (x :: rs) ce = some (z, ce')) :
    methM C m G mo ms E = some (z, ⟨sl, ce'⟩) := zv_bind ho (by
  simp only [hs]
  rw [if_pos ⟨trivial, by rw [hl]; rfl⟩]
  exact zv_bind ha (by simp only [g]))
theorem zv_own1 {C : Str} {G : Fn} {ns : List Str} {ds : List Dt} {sl : List (Option Vl)} {ce ce' : List Ce} (hs : see ce x = some (.obj C ns ds)) (g : G [x] ce = some (z, ce')) : ownF1 C G x ⟨sl, ce⟩ = some (z, ⟨sl, ce'⟩) := by
  unfold ownF1
  simp only [hs]
  rw [if_pos trivial, g]
theorem zv_own2 {C : Str} {G : Fn} {ns ns2 : List Str} {ds ds2 : List Dt} {sl : List (Option Vl)} {ce ce' : List Ce} (hs : see ce x = some (.obj C ns ds)) (hs2 : see ce y = some (.obj C ns2 ds2)) (g : G [x, y] ce = some (z, ce')) : ownF2 C G x y ⟨sl, ce⟩ = some (z, ⟨sl, ce'⟩) := by
  unfold ownF2
  simp only [hs, hs2]
  rw [if_pos ⟨trivial, trivial⟩, g]
theorem zv_lenO {C : Str} {G : Fn} {n : Int} (h : ownF1 C G x E = some (.d (.int n), E1)) (hn : 0 ≤ n ∧ n < 2 ^ 63) : lenOF C G [x] E = some (.d (.int n), E1) := zv_bind h (by
  show (if 0 ≤ n ∧ n < 2 ^ 63 then (retM (Vl.d (.int n)) : M Vl) else failM) E1 = _
  rw [if_pos hn]
  rfl)
theorem zw_isO {C : Str} {ns : List Str} {ds : List Dt} : isiOF C (.obj C ns ds) = some (.bl true) := by
  show (if C = C then some (Dt.bl true) else none) = _
  rw [if_pos rfl]
theorem zv_ixD {tb : List (Str × Dt)} {m : M Vl} {s : Str} (h : m E = some (.d (.str s), E1)) (hl : look2 s tb = some d) : ixDM tb m E = some (.d d, E1) := zv_bind h (by
  show (look2 s tb).map _ = _
  rw [hl]
  rfl)
theorem zv_inD {tb : List (Str × Dt)} {neg : Bool} {m : M Vl} {s : Str} (h : m E = some (.d (.str s), E1)) (hl : look2 s tb = some d) : inDM neg tb m E = some (.d (.bl (!neg)), E1) := zv_bind h (by
  show (look2 s tb).map _ = _
  rw [hl]
  rfl)
theorem zk_asg {m : M Vl} {g : Vl → En → Option En} (h : m E = some (r, E1)) (hg : g r E1 = some E2) : asgS m g E = some (.nx E2) := by
  unfold asgS
  rw [h]
  simp only [hg]
theorem zg_tup3 {i j k : Nat} {a b c : Dt} {sl : List (Option Vl)} {ce : List Ce} : tupG [nameG i, nameG j, nameG k] (.d (.tup [a, b, c])) ⟨sl, ce⟩ = some ⟨((sl.set i (some (.d a))).set j (some (.d b))).set k (some (.d c)), ce⟩ := rfl
theorem zg_name {i : Nat} {r : Vl} {sl : List (Option Vl)} {ce : List Ce} : nameG i r ⟨sl, ce⟩ = some ⟨sl.set i (some r), ce⟩ := rfl
theorem fl_nil {g : Vl → En → Option En} {m : En → Option Rs} {E : En} : forL g m [] E = some (.nx E) := rfl
theorem fl_cons {g : Vl → En → Option En} {m : En → Option Rs} {d : Dt} {ds : List Dt} {E E1 E2 : En} {R : Rs} (h1 : g (.d d) E = some E1) (h2 : m E1 = some (.nx E2)) (h3 : forL g m ds E2 = some R) : forL g m (d :: ds) E = some R := by
  unfold forL
  rw [h1]
  show (match m E1 with
    | some (.nx E2) => forL g m ds E2
    | some (.ct E2) => forL g m ds E2
    | some (.bk E2) => some (.nx E2)
    | some (.rt r E2) => some (.rt r E2)
    | none => none) = _
  rw [h2]
  exact h3
theorem zv_str {m : M Vl} {s : Str} (h : m E = some (.d (.str s), E1)) : strM m E = some (chrs s, E1) := zv_bind h zv_ret
theorem zv_rng3 {m : M (List Vl)} {i : Int} (h : m E = some ([.d (.int i), .d (.int 0), .d (.int (-1))], E1)) (hi : 0 ≤ i ∧ i < 2 ^ 62) : rng3M m E = some (rngD i i.toNat, E1) := zv_bind h (by
  show (if _ then _ else _) = _
  rw [if_pos ⟨by omega, hi.2, by omega, by omega, rfl⟩, Int.sub_zero])
theorem zv_rev {m : M Vl} {ds : List Dt} {sl : List (Option Vl)} {ce : List Ce} (h : m E = some (x, ⟨sl, ce⟩)) (hs : see ce x = some (.lst ds)) : revM m E = some (.c ce.length, ⟨sl, ce ++ [.lst ds.reverse]⟩) := zv_bind h (by
  simp only [hs]
  rfl)
theorem zv_chain {f g : Vl → Vl → M Vl} {ma mb mc : M Vl} {b1 : Bool} (ha : ma E = some (x, E1)) (hb : mb E1 = some (y, E2)) (hf : f x y E2 = some (.d (.bl b1), E3)) {E4 : En} (hr : pickM b1 (bindM mc (g y)) (blM false) E3 = some (z, E4)) : chainV f g ma mb mc E = some (z, E4) := zv_bind ha (zv_bind hb (zv_bind (zv_bind hf zv_bool) hr))
theorem get_L {ce L : List Ce} {i : Nat} {c : Ce} (h : L[i]? = some c) : (ce ++ L)[ce.length + i]? = some c := by
  rw [List.getElem?_append_right (by omega), Nat.add_sub_cancel_left]
  exact h
theorem set_L {ce L : List Ce} {i : Nat} {c : Ce} : (ce ++ L).set (ce.length + i) c = ce ++ L.set i c := by
  rw [List.set_append_right _ _ (by omega), Nat.add_sub_cancel_left]
theorem zv_appL {mo : M Vl} {ma : M (List Vl)} {i : Nat} {acc : List Dt} {sl : List (Option Vl)} {ce L L' : List Ce} (ho : mo E = some (.c (ce.length + i), ⟨sl, ce ++ L⟩)) (ha : ma ⟨sl, ce ++ L⟩ = some ([.d d], ⟨sl, ce ++ L⟩)) (h : L[i]? = some (.lst acc)) (hl : acc.length < 100000) (hL : L.set i (.lst (acc ++ [d])) = L') :
    bmM "list" mo ma appF E = some (.d .non, ⟨sl, ce ++ L'⟩) := by
  rw [zv_app ho (zv_seeC (get_L h)) ha zv_fzD (get_L h) hl, set_L, hL]
theorem zv_popL {mo : M Vl} {i : Nat} {acc : List Dt} {sl : List (Option Vl)} {ce L L' : List Ce} (ho : mo E = some (.c (ce.length + i), ⟨sl, ce ++ L⟩)) (h : L[i]? = some (.lst (acc ++ [d]))) (hL : L.set i (.lst acc) = L') :
    bmM "list" mo (retM []) popF E = some (.d d, ⟨sl, ce ++ L'⟩) := by
  rw [zv_pop ho (get_L h), set_L, hL]
theorem zq_str {s t : Str} (hs : PyData.strOk s = true) (ht : PyData.strOk t = true) : eqd (.str s) (.str t) = some (decide (s = t)) := by
  show (if SeqAt.shaped (.str s) = true ∧ SeqAt.shaped (.str t) = true then some (PyData.eqv (.str s) (.str t)) else none) = _
  have h : ∀ s, PyData.strOk s = true → SeqAt.shaped (.str s) = true := fun s h => by simp [SeqAt.shaped, PyData.canLay0, PyData.depth, h]
  rw [if_pos ⟨h s hs, h t ht⟩]
  simp only [PyData.eqv]
  by_cases e : s = t
  · subst e
    simp
  · rw [decide_eq_false e]
    simpa using e
end
/-! ### written things: made from the text's facts -/
theorem kt_strs {K : PySem.W.Frag} {a : Addr} {dd : Option Addr} {n : Nat} {sl : Array (Option Value)} (ps : List (Str × Tok)) (l : K.lookup a = some ⟨.type "tuple", dd, .seq (ps.map fun p => Value.str p.1 p.2).toArray n, sl⟩) (hz : ps.length ≤ sizeLine := by decide) : ∀ H, Rp K H (.tup (ps.map fun p => .str p.1)) (.ref a) := fun H => by
  have hv : ∀ ps : List (Str × Tok), Vals (ps.map fun p => V.str p.1) (ps.map fun p => Value.str p.1 p.2) := fun ps => by
    induction ps with
    | nil => exact .nil
    | cons p ps ih => exact .cons ⟨_, rfl⟩ ih
  have hr : ∀ ps : List (Str × Tok), RpA K H (ps.map fun p => Dt.str p.1) (ps.map fun p => V.str p.1) := fun ps => by
    induction ps with
    | nil => exact (rfl : ([] : List V) = [])
    | cons p ps ih => exact ⟨_, _, rfl, rfl, ih⟩
  exact ⟨a, ps.map fun p => V.str p.1, rfl, .inr ⟨_, _, _, l, rfl, rfl, by simpa using hz, by simpa using hv ps⟩, hr ps⟩
theorem wdic_mk {K : PySem.W.Frag} {w : World} {d : Addr} {tb : List (Str × Dt)} (h : ∃ es n, KDict K w d es n) (g : ∀ p ∈ tb, ∃ u y, PySem.W.nsIn K d p.1 = some (some u) ∧ RelV y u ∧ ∀ H, Rp K H p.2 y) : WDic K w d tb := by
  refine ⟨h, fun z v e => ?_⟩
  have hm : (z, v) ∈ tb := by
    clear g
    induction tb with
    | nil => cases e
    | cons p r ih =>
      obtain ⟨k, x⟩ := p
      have e : (if z = k then some x else look2 z r) = some v := e
      by_cases hz : z = k
      · rw [if_pos hz] at e
        cases e
        rw [hz]
        exact List.mem_cons_self
      · rw [if_neg hz] at e
        exact List.mem_cons_of_mem _ (ih e)
  exact g _ hm
end Hk
/-! Hk12: f-strings, texts searched and parted, the end of a list stored, classes as values. -/
namespace Hk
open PySem PySem.Spec PyProof.Rows L2 Evl
section
variable {X : Cx} {a b c e o value : Expr} {ta tb te to tv : TE} {ma mb m mo mv : M Vl} {es : List Expr} {tes : TA} {mes : M (List Vl)} {pos pos' p p2 p3 apos cpos : Pos} {C f x : Str} {n k : Nat} {fa : Addr} {fd : FuncData} {ps : List Str} {G : Fn} {CX : CXT} {E : XK}
/-! ### f-strings -/
def jsM : List (M Vl) → Str → M Vl
  | [], acc => retM (.d (.str acc))
  | m :: ms, acc => bindM m fun r => match r with
    | .d (.str y) => if (acc ++ y).length ≤ sizeLine then jsM ms (acc ++ y) else failM
    | _ => failM
inductive Jx (X : Cx) : List Expr → List TE → List (M Vl) → Prop
  | nil : Jx X [] [] []
  | cons {e : Expr} {t : TE} {m : M Vl} {es : List Expr} {ts : List TE} {ms : List (M Vl)} (h : Ex_ X e t m) (r : Jx X es ts ms) : Jx X (e :: es) (t :: ts) (m :: ms)
theorem Jx.pj {es : List Expr} {ts : List TE} {ms : List (M Vl)} (h : Jx X es ts ms) : PJ X es ts := by
  induction h with
  | nil => exact .nil
  | cons h r ih => exact .cons h.pe ih
theorem Jx.em {es : List Expr} {ts : List TE} {ms : List (M Vl)} (h : Jx X es ts ms) : ∀ (acc : Str) {μ : List Addr} {Hd H : Hp} {σ : L2.St} {E E' : En} {r : Vl}, Rl X.K μ Hd H σ E → jsM ms acc E = some (r, E') → ∀ Q : VK,
    (∀ μ' Hd' H' v, Gr μ Hd μ' Hd' → Rl X.K μ' Hd' H' σ E' → Rv X.K μ' Hd' r v → Q v H') → tJs ts acc σ H fun out H1 => Q (.str out) H1 := by
  induction h with
  | nil =>
    intro acc μ Hd H σ E E' r R e Q q
    cases e
    exact q μ Hd H _ (Gr.refl μ Hd) R rfl
  | cons h r ih =>
    intro acc μ Hd H σ E E' z R e Q q
    obtain ⟨v, E1, e1, e2⟩ := bindM_some e
    refine h.em R e1 _ fun μ1 Hd1 H1 vx g1 R1 r1 => ?_
    split at e2
    · rename_i y
      split at e2
      · rename_i hz
        exact ⟨y, r1, hz, ih _ R1 e2 Q fun μ2 Hd2 H2 v g2 R2 r2 => q μ2 Hd2 H2 v (g1.trans g2) R2 r2⟩
      · cases e2
    · cases e2
theorem xjs {v1 v2 : Expr} {rest : List Expr} {ts : List TE} {ms : List (M Vl)} (h : Jx X (v1 :: v2 :: rest) ts ms) : Ex_ X (.JoinedStr (v1 :: v2 :: rest) pos) (fun σ H Q => tJs ts Str.empty σ H fun out H1 => Q (.str out) H1) (jsM ms Str.empty) :=
  ⟨pe_joined h.pj, fun R e Q q => h.em _ R e Q q⟩
/-- a text in an f-string -/
def fmtM (m : M Vl) : M Vl := bindM m fun r => match r with
  | .d (.str y) => if y.length ≤ sizeLine then retM (.d (.str y)) else failM
  | _ => failM
theorem xfmt (h : Ex_ X e te m) : Ex_ X (.FormattedValue e (-1) none pos) (tFmt te) (fmtM m) := ⟨pe_fmt h.pe, fun {μ Hd H σ E r E'} R q Q k => by
  obtain ⟨x, E1, e1, e2⟩ := bindM_some q
  refine h.em R e1 _ fun μ1 Hd1 H1 vx g1 R1 r1 => ?_
  split at e2
  · rename_i y
    split at e2
    · rename_i hz
      cases e2
      exact .inl ⟨y, r1, hz, k μ1 Hd1 H1 _ g1 R1 rfl⟩
    · cases e2
  · cases e2⟩
/-! ### one sign in a text -/
def sgnF : Dt → Dt → Option Dt
  | .str i, .str j => match i.cps.toList with
    | [c] => some (.bl (decide (c ∈ j.cps.toList)))
    | _ => none
  | _, _ => none
abbrev rSgn : R2 := fun x y H Q => ∃ (c : Nat) (z : Str), x = .str ⟨#[c]⟩ ∧ y = .str z ∧ Q (.bl (decide (c ∈ z.cps.toList))) H
theorem om_sgn {K : PySem.W.Frag} : OM K rSgn (op2 sgnF) := om_op2 fun H a b d vx vy ha hb e Q q => by
  unfold sgnF at e
  split at e
  · rename_i i j
    split at e
    · rename_i c hc
      cases e
      have hi : i = ⟨#[c]⟩ := by
        cases i with
        | mk s =>
          have hs : s.toList = [c] := hc
          have : s = #[c] := by
            apply Array.toList_inj.mp
            rw [hs]
          rw [this]
      subst hi
      exact ⟨c, j, ha, hb, q _ fun _ => rfl⟩
    · cases e
  · cases e
/-! ### text.split(sep) -/
def splF : Vl → List Vl → M Vl := fun x xs => match x, xs with
  | .d (.str a), [.d (.str b)] => if (b.length == 0) = false ∧ a.length + 2 ≤ sizeLine then newL ((Txt.split a b).map Dt.str) else failM
  | _, _ => failM
abbrev rSpl : V → List V → Hp → VK → Prop := fun x xs H Q => ∃ a b, x = .str a ∧ xs = [.str b] ∧ (b.length == 0) = false ∧ a.length + 2 ≤ sizeLine ∧ rNewStrs (Txt.split a b) H Q
theorem rp_strs {K : PySem.W.Frag} {H : Hp} : ∀ l : List Str, RpA K H (l.map Dt.str) (l.map V.str)
  | [] => (rfl : ([] : List V) = [])
  | s :: l => ⟨.str s, l.map V.str, rfl, rfl, rp_strs l⟩
theorem mm_split {K : PySem.W.Frag} : MM K "str" rSpl splF := fun {μ Hd H σ E x vx xs vs z E'} R hx hxs e Q q => by
  unfold splF at e
  split at e
  · rename_i a b
    split at e
    · rename_i hz
      obtain ⟨v, rfl, hv⟩ := hxs.one
      refine ⟨a, b, hx, by rw [show v = .str b from hv], hz.1, hz.2, fun p hp => ?_⟩
      obtain ⟨g2, R2, r2⟩ := newL_ok R (rp_strs (Txt.split a b)) e hp
      exact q _ _ _ _ g2 R2 r2
    · cases e
  · cases e
theorem xspl {o : Expr} {to : TE} {mo : M Vl} (ho : Ex_ X o to mo) (ha : Ax X (e :: es) tes mes)
    (hbase : attributeBase o "split" X.env (eval o X.env) = eval o X.env := by rfl)
    (hfew : ((backTo cpos (starEach (e :: es) X.env)).all (fun x => !x.1) && (backToKw cpos (keywordEach [] X.env)).all (fun x => x.1.isSome)
      && decide ((e :: es).length + ([] : List Keyword).length + (if ([] : List Keyword).isEmpty then 0 else 1) < 30)) = true := by rfl)
    (hline : (apos.endLine == cpos.line) = true := by rfl) (hs : starEach (e :: es) X.env = (false, eval e X.env) :: starEach es X.env := by rfl) (hplain : (backTo cpos (starEach es X.env)).any (·.1) = false := by rfl) :
    Ex_ X (.Call (.Attribute o "split" apos) (e :: es) [] cpos) (tBM X.K "str" rSpl to tes) (bmM "str" mo mes splF) := ⟨pe_bm PySem.F.plainAttrs_str PySem.F.slot_str_split PySem.F.type_str_split mt_split ho.pe ha.pa hbase hfew hline hs hplain, em_bm ho.em ha.am mm_split⟩
end
end Hk
/-! Hk13: the end of a list stored. -/
namespace Hk
open PySem PySem.Spec PyProof.Rows L2 Evl
section
variable {P0 : Program} {w0 : World} {A0 : Around} {E0 : Value → Shared → Prop} {s0 : Shared}
set_option maxRecDepth 100000 in
theorem put_part {l b sl : Addr} {us ws : Array Value} {n n2 : Nat} {v1 v2 : Value} {lo hi : Option Int} {a c : Nat} {Q : Unit → Shared → Prop}
    (hl : s0.heap.get? l = some { cls := .type "list", data := .seq us n }) (hb : s0.heap.get? b = some { cls := .type "list", data := .seq ws n2 }) (dif : l ≠ b)
    (hsl : s0.heap.IsSliceOf sl v1 v2 .none) (p1 : IsPart v1 lo) (p2 : IsPart v2 hi) (hbd : sliceBounds lo hi none us.size = ((a : Int), (c : Int), 1)) (hac : a ≤ c)
    (hz : us.size + ws.size ≤ sizeLine) (hq : Q () { s0 with heap := s0.heap.update l (Obj.mapSeq fun q => q.extract 0 a ++ ws ++ q.extract c q.size) }) : wpAny (model P0 w0) A0 (setItem (.ref l) (.ref sl) (.ref b)) Q E0 s0 := by
  have g1 : s0.heap.IsList l us := PySem.IsL.isList hl
  have g2 : s0.heap.IsList b ws := PySem.IsL.isList hb
  obtain ⟨ob, hob, hcl, hda⟩ := id hsl
  have ty : s0.TypeIs (.ref sl) "slice" := ⟨ob, hob, hcl⟩
  have st0 : ¬ ((rawPart none == rawInt 0) = true) := Bool.false_ne_true
  have off : Builtin.List.listSameRef (.ref l) (.ref b) = false := by
    unfold Builtin.List.listSameRef
    exact beq_eq_false_iff_ne.mpr dif
  have mx : (max (a : Int) (c : Int)).toNat = c := by omega
  have hsz : ((fun q : Array Value => q.extract 0 a ++ ws ++ q.extract c q.size) us).size ≤ sizeLine + 1 := by
    simp only [Array.size_append, Array.size_extract]
    omega
  unfold setItem
  try with_reducible refine wpAny_holding ?_
  first | refine wpAny_bind (wpAny_pure ?_) | skip
  refine wpAny_bind (wpAny_sequenceKey g1.typeIs (by decide) ?_)
  refine wpAny_bind (wpAny_callSpecial?_slot (name := Str.ofString "__setitem__") g1.typeIs slot_list_setitem (wpAny_call_entry slot_list_setitem g1.typeIs entry_list_setitem ?_ (args_list_setitem _ _ _)))
  show wpAny (model P0 w0) _ (Builtin.List.listSubscript? (.ref sl) >>= _) _ _ s0
  refine wpAny_bind ?_
  unfold Builtin.List.listSubscript?
  refine wpAny_bind (wpAny_specialOf ty slice_no_index ?_)
  simp only [Option.isNone_none, if_true]
  refine wpAny_pure ?_
  show wpAny (model P0 w0) _ (typeOf (.ref sl) >>= _) _ _ s0
  refine wpAny_bind (wpAny_typeOf ty ?_)
  first
    | rw [if_neg (by decide)]
    | refine PySem.W.KFB.if_not (by decide) ?_
  rw [listSliceParts_eq]
  refine wpAny_bind (wpAny_bind (wpAny_field hob hda (x := .none) rfl (wpAny_bind (wpAny_listPart .none ?_))))
  rw [if_neg st0]
  refine wpAny_bind (wpAny_field hob hda (x := v1) rfl (wpAny_bind (wpAny_listPart p1 ?_)))
  refine wpAny_bind (wpAny_field hob hda (x := v2) rfl (wpAny_bind (wpAny_listPart p2 (wpAny_pure ?_))))
  first
    | simp only [off, Bool.false_eq_true, if_false]
    | refine PySem.W.KFB.if_not off ?_
    | (dsimp only; rw [if_neg (by rw [off]; exact Bool.false_ne_true)])
  refine wpAny_bind (m := Builtin.List.listAllItems (.ref b) "must assign iterable to extended slice") ?_
  unfold Builtin.List.listAllItems
  refine wpAny_bind (wpAny_typeOf g2.typeIs ?_)
  first
    | refine PySem.W.KFB.if_so (by decide) ?_
    | rw [if_pos (by decide)]
    | simp only [beq_self_eq_true, Bool.true_or, if_true]
  unfold Builtin.List.listItems
  refine wpAny_bind (wpAny_seqItems hb rfl (wpAny_pure ?_))
  refine wpAny_bind (wpAny_bind (wpAny_seqItems hl rfl (wpAny_pure ?_)))
  refine wpAny_bind (wpAny_of_eq ((sliceIndices_raw lo hi none us.size (by simp)).trans (congrArg (pure : Int × Int × Int → Sem (Int × Int × Int)) hbd)) ?_)
  show wpAny (model P0 w0) _ (if ((1 : Int) == 1) = true then _ else _) _ _ s0
  rw [if_pos (by decide)]
  refine wpAny_bind (wpAny_rule ?_)
  first
    | simp only [notLongL hz, Bool.false_eq_true, if_false]
    | refine PySem.W.KFB.if_not (notLongL hz) ?_
  first | refine wpAny_bind (wpAny_pure ?_) | skip
  show wpAny (model P0 w0) _ (updateSeq l (fun q => q.extract 0 ((a : Int)).toNat ++ ws ++ q.extract (max (a : Int) (c : Int)).toNat q.size) >>= _) _ _ s0
  rw [mx, Int.toNat_natCast]
  refine wpAny_bind (wpAny_updateSeq (hz := Nat.le_trans (Nat.le_add_right _ _) hz) (_hz' := hsz) hl rfl ?_)
  refine wpAny_bind (wpAny_letGo ?_)
  first
    | exact wpAny_bind (wpAny_pure (wpAny_pure ⟨.none, rfl, wpAny_pure hq⟩))
    | exact wpAny_pure ⟨.none, rfl, wpAny_pure hq⟩
end
theorem end_bounds {m n : Nat} (h1 : 1 ≤ m) (h2 : m ≤ n) : sliceBounds (some (-(m : Int))) none none n = (((n - m : Nat) : Int), (n : Int), 1) := by
  simp only [sliceBounds, Option.getD_none]
  have c1 : (-(m : Int)) < 0 := by omega
  simp only [c1, if_true, show (1 : Int) > 0 by decide]
  congr 1
  omega
section
variable {X : Cx}
theorem put_end {pins : List (Addr × Obj)} {s : Shared} {σ : L2.St} {H : Hp} {l b sl : Addr} {xs ys : List V} {m : Nat} {v1 v2 : Value} {Q : Unit → Shared → Prop} (I : Inv X pins σ H s) (hH : H l = some (.lst xs)) (hB : H b = some (.lst ys)) (dif : l ≠ b)
    (hsl : s.heap.IsSliceOf sl v1 v2 .none) (p1 : IsPart v1 (some (-(m : Int)))) (p2 : IsPart v2 none) (h1 : 1 ≤ m) (h2 : m ≤ xs.length) (hz : xs.length + ys.length ≤ sizeLine)
    (hq : ∀ s', Inv X pins σ (upd H l (.lst (xs.take (xs.length - m) ++ ys))) s' → Q () s') : wpAny (model X.prog X.w) X.A (setItem (.ref l) (.ref sl) (.ref b)) Q X.xe s := by
  obtain ⟨z, its, n, r, hl, e⟩ := I.lstM hH
  obtain ⟨z2, its2, n2, r2, hl2, e2⟩ := I.lstM hB
  refine put_part (lo := some (-(m : Int))) (hi := none) (a := its.length - m) (c := its.length) e e2 dif hsl p1 p2 ?_ (by omega) (by rw [List.size_toArray, List.size_toArray]; omega) (hq _ ?_)
  · rw [List.size_toArray]
    exact end_bounds h1 (by omega)
  · refine I.lset (its' := its.take (its.length - m) ++ its2 ++ its.drop its.length) (t' := s.toks) hH e ?_ ?_ ?_
    · exact splice_eq its its2 _ _
    · have ed : its.drop its.length = [] := List.drop_length
      rw [ed, List.append_nil, ← hl]
      exact (r.take _).append r2
    · rw [List.length_append, List.length_take]
      omega
/-! ### o[-m:] = e -/
def gEnd (to : TE) (m : Nat) : TG := fun v σ H Q => to σ H fun x H1 => ∃ (a b : Addr) (xs ys : List V), x = .ref a ∧ v = .ref b ∧ H1 a = some (.lst xs) ∧ H1 b = some (.lst ys) ∧ a ≠ b ∧ 1 ≤ m ∧ m ≤ xs.length ∧ xs.length + ys.length ≤ sizeLine ∧
  Q σ (upd H1 a (.lst (xs.take (xs.length - m) ++ ys)))
variable {o e lo : Expr} {to te : TE} {mo me : M Vl} {p2 p3 pos : Pos} {m : Nat}
theorem pg_end (ho : PE X o to) (hm : PO X (some lo) (fun σ H Q => Q (some (-(m : Int))) H))
    (ha : ∀ v, assign (.Subscript o (.Slice (some lo) none none p3) pos) X.env v = (do
      let ov ← holding [v] (eval o X.env)
      let iv ← holding [v, ov] (eval (.Slice (some lo) none none p3) X.env)
      standAt pos
      holding [v, ov, iv] (setItem ov iv v)
      release [iv, v, ov] []) := by intro _; rfl) : PG X (.Subscript o (.Slice (some lo) none none p3) pos) (gEnd to m) := by
  refine ⟨fun pins s σ H v u Q I r h => ?_⟩
  rw [ha]
  refine wpAny_bind (wpAny_holding (thn (ho.run pins s σ H _ I h) fun ov s1 ⟨x, H1, I1, r1, q1⟩ => ?_))
  obtain ⟨a, b, xs, ys, rfl, rfl, hH, hB, dif, h1, h2, hz, q⟩ := q1
  cases r1
  cases r
  refine wpAny_bind (wpAny_holding (wpAny_Slice (thn (hm.run pins s1 σ H1 (fun l H' => l = some (-(m : Int)) ∧ H' = H1) I1 ⟨rfl, rfl⟩) fun vl s2 ⟨l, H2, I2, pl, el, eh⟩ => ?_)))
  subst el eh
  refine thn (po_none.run pins s2 σ H2 (fun l H' => l = none ∧ H' = H2) I2 ⟨rfl, rfl⟩) fun vu s3 ⟨l2, H3, I3, pu, el2, eh2⟩ => ?_
  subst el2 eh2
  rw [evalPart_none]
  refine wpAny_pure ?_
  have I4 : Inv X pins σ H3 { s3 with heap := s3.heap.push { cls := .type "slice", data := .fields #[vl, vu, .none] } } := I3.kept (t' := s3.toks) fun _ _ w => Heap.get?_push_of_some _ w
  refine wpAny_bind (wpAny_standAt (wpAny_bind (wpAny_holding (put_end I4 hH hB dif (Heap.IsSliceOf.new ..) pl pu h1 h2 hz fun s5 I5 => ?_))))
  exact wpAny_release ⟨σ, _, I5, q⟩
/-- the end of a cell's list stored, a new list's items -/
def setES (mv mo : M Vl) (m : Nat) : En → Option Rs := fun E => match (bindM mv fun r => bindM mo fun q => retM (r, q)) E with
  | some ((.c j, .c k), E2) => match E2.ce[j]?, E2.ce[k]? with
    | some (.lst ds), some (.lst xs) => if j ≠ k ∧ 1 ≤ m ∧ m ≤ xs.length ∧ xs.length + ds.length ≤ 100000 then some (.nx ⟨E2.sl, E2.ce.set k (.lst (xs.take (xs.length - m) ++ ds))⟩) else none
    | _, _ => none
  | _ => none
theorem ssetE {i : Int} {kk : Nat} {p1 pz : Pos} (h : Ex_ X e te me) (ho : Ex_ X o to mo) (hi : i = (m : Int) := by rfl)
    (hs : swapsWithSole [.Subscript o (.Slice (some (.UnaryOp .USub (.Constant (.int i) kk p1) p2)) none none p3) pz] e pos.line X.env = pure false := by rfl)
    (hw : swappedStores [.Subscript o (.Slice (some (.UnaryOp .USub (.Constant (.int i) kk p1) p2)) none none p3) pz] e X.env = pure none := by rfl)
    (h1 : (assignEach [.Subscript o (.Slice (some (.UnaryOp .USub (.Constant (.int i) kk p1) p2)) none none p3) pz] X.env).map (·.2) = [assign (.Subscript o (.Slice (some (.UnaryOp .USub (.Constant (.int i) kk p1) p2)) none none p3) pz) X.env] := by rfl)
    (ha : ∀ v, assign (.Subscript o (.Slice (some (.UnaryOp .USub (.Constant (.int i) kk p1) p2)) none none p3) pz) X.env v = (do
      let ov ← holding [v] (eval o X.env)
      let iv ← holding [v, ov] (eval (.Slice (some (.UnaryOp .USub (.Constant (.int i) kk p1) p2)) none none p3) X.env)
      standAt pz
      holding [v, ov, iv] (setItem ov iv v)
      release [iv, v, ov] []) := by intro _; rfl) :
    Sx X (.Assign [.Subscript o (.Slice (some (.UnaryOp .USub (.Constant (.int i) kk p1) p2)) none none p3) pz] e pos) (tAsg te (gEnd to m)) (setES me mo m) := by
  have hm : PO X (some (.UnaryOp .USub (.Constant (.int i) kk p1) p2)) (fun σ H Q => Q (some (-(m : Int))) H) := by
    refine ⟨fun pins s σ H Q I q => ?_⟩
    subst hi
    refine (po_some (pe_un un_neg (pe_int (X := X) (i := (m : Int))))).run pins s σ H Q I ?_
    exact ⟨m, rfl, -(m : Int), rfl, q⟩
  refine ⟨ps_asg h.pe (pg_end ho.pe hm ha) hs hw h1, fun {μ Hd H σ E R} r q D d => ?_⟩
  unfold setES at q
  split at q
  · rename_i j k E2 e1
    obtain ⟨x, E1, e2, e3⟩ := bindM_some e1
    obtain ⟨y, E3, e4, e5⟩ := bindM_some e3
    cases e5
    split at q
    · rename_i ds xs d1 d2
      split at q
      · rename_i hc
        cases q
        refine h.em r e2 _ fun μ1 Hd1 H1 v g1 R1 r1 => ?_
        refine ho.em R1 e4 _ fun μ2 Hd2 H2 w g2 R2 r2 => ?_
        obtain ⟨b, hb, rfl⟩ := Rv.gr g2 r1
        obtain ⟨a, hk, rfl⟩ := r2
        obtain ⟨c1, us, c2, c3⟩ := R2.wo.lst d2 hk
        obtain ⟨c4, ws, c5, c6⟩ := R2.wo.lst d1 hb
        have dif : a ≠ b := fun z => by
          subst z
          exact hc.1 (R2.wo.inj j k a _ _ hb hk d1 d2 rfl rfl)
        refine ⟨a, b, us, ws, rfl, rfl, c2, c5, dif, hc.2.1, by rw [c3.len]; exact hc.2.2.1, by rw [c3.len, c6.len]; exact sz_of hc.2.2.2, ?_⟩
        refine d μ2 Hd2 _ _ (g1.trans g2) (R2.setC d2 hk ?_)
        rw [c3.len]
        exact (c3.take _).app c6
      · cases q
    · cases q
  · cases q
end
end Hk
/-! Hk14: dicts; classes in slots, class methods; keys that are not in a written dict. -/
namespace Hk
open PySem PySem.Spec PyProof.Rows L2 Evl
/-! ### keys -/
def kGet (k : Key) : List Key → List Dt → Option Dt
  | j :: ks, d :: ds => if j = k then some d else kGet k ks ds
  | _, _ => none
def kHas (k : Key) (ks : List Key) : Bool := ks.any fun j => decide (j = k)
def kPutN (k : Key) (ks : List Key) : List Key := if kHas k ks = true then ks else ks ++ [k]
def kRep (k : Key) (d : Dt) : List Key → List Dt → List Dt
  | j :: ks, e :: ds => (if j = k then d else e) :: kRep k d ks ds
  | _, _ => []
def kPutD (k : Key) (d : Dt) (ks : List Key) (ds : List Dt) : List Dt := if kHas k ks = true then kRep k d ks ds else ds ++ [d]
section
variable {K : PySem.W.Frag} {H Hd : Hp}
theorem kGet_ok {k : Key} : ∀ {kvs : List (Key × V)} {ds : List Dt} {d : Dt}, RpA K H ds (kvs.map (·.2)) → kGet k (kvs.map (·.1)) ds = some d → ∃ v, valV kvs k = some v ∧ Rp K H d v
  | [], ds, d, _, e => by
    cases ds <;> cases e
  | (j, x) :: kvs, [], d, h, e => by cases e
  | (j, x) :: kvs, y :: ds, d, h, e => by
    obtain ⟨x', r, e0, h2, h3⟩ := h
    cases e0
    have e : (if j = k then some y else kGet k (kvs.map (·.1)) ds) = some d := e
    by_cases hj : j = k
    · rw [if_pos hj] at e
      cases e
      exact ⟨x, by unfold valV; simp [hj], h2⟩
    · rw [if_neg hj] at e
      obtain ⟨v, h4, h5⟩ := kGet_ok h3 e
      refine ⟨v, ?_, h5⟩
      rw [← h4]
      unfold valV
      simp [hj]
theorem kGet_no {k : Key} : ∀ {kvs : List (Key × V)} {ds : List Dt}, RpA K H ds (kvs.map (·.2)) → kGet k (kvs.map (·.1)) ds = none → valV kvs k = none
  | [], ds, _, e => rfl
  | (j, x) :: kvs, [], h, e => by
    have := h.len
    simp at this
  | (j, x) :: kvs, y :: ds, h, e => by
    obtain ⟨x', r, e0, h2, h3⟩ := h
    cases e0
    have e : (if j = k then some y else kGet k (kvs.map (·.1)) ds) = none := e
    by_cases hj : j = k
    · rw [if_pos hj] at e
      cases e
    · rw [if_neg hj] at e
      rw [← kGet_no h3 e]
      unfold valV
      simp [hj]
theorem kRep_ok {k : Key} {d : Dt} {v : V} (hv : Rp K H d v) : ∀ {kvs : List (Key × V)} {ds : List Dt}, RpA K H ds (kvs.map (·.2)) → RpA K H (kRep k d (kvs.map (·.1)) ds) ((kvs.map fun kv => if kv.1 = k then (kv.1, v) else kv).map (·.2))
  | [], ds, h => by
    cases ds <;> exact (rfl : ([] : List V) = [])
  | (j, x) :: kvs, [], h => by
    have := h.len
    simp at this
  | (j, x) :: kvs, y :: ds, h => by
    obtain ⟨x', r, e0, h2, h3⟩ := h
    cases e0
    have ih := kRep_ok hv h3 (k := k)
    by_cases hj : j = k
    · refine ⟨v, _, ?_, ?_, ih⟩
      · simp [hj]
      · show Rp K H (if j = k then d else y) v
        rw [if_pos hj]
        exact hv
    · refine ⟨x, _, ?_, ?_, ih⟩
      · simp [hj]
      · show Rp K H (if j = k then d else y) x
        rw [if_neg hj]
        exact h2
theorem any_has {k : Key} : ∀ kvs : List (Key × V), (kvs.any fun kv => decide (kv.1 = k)) = kHas k (kvs.map (·.1)) := fun kvs => by
  unfold kHas
  rw [List.any_map]
  rfl
theorem kPut_ok {k : Key} {d : Dt} {v : V} (hv : Rp K H d v) {kvs : List (Key × V)} {ds : List Dt} (h : RpA K H ds (kvs.map (·.2))) : (putK kvs k v).map (·.1) = kPutN k (kvs.map (·.1)) ∧ RpA K H (kPutD k d (kvs.map (·.1)) ds) ((putK kvs k v).map (·.2)) := by
  unfold putK kPutN kPutD
  rw [any_has]
  by_cases hm : kHas k (kvs.map (·.1)) = true
  · rw [if_pos hm, if_pos hm, if_pos hm]
    refine ⟨?_, kRep_ok hv h⟩
    rw [List.map_map]
    apply List.map_congr_left
    intro p _
    show (if p.1 = k then (p.1, v) else p).1 = p.1
    by_cases hp : p.1 = k
    · rw [if_pos hp]
    · rw [if_neg hp]
  · rw [if_neg hm, if_neg hm, if_neg hm]
    refine ⟨by simp, ?_⟩
    rw [List.map_append]
    exact h.app (RpA.one hv)
end
/-! ### {k: e, ..} -/
def keyV : Vl → Option Key
  | .d (.str s) => some (.inr s)
  | .d (.int i) => some (.inl i)
  | _ => none
theorem keyV_ok {K : PySem.W.Frag} {μ : List Addr} {Hd : Hp} {r : Vl} {v : V} {k : Key} (h : Rv K μ Hd r v) (e : keyV r = some k) : v = kV k := by
  cases r with
  | c j => cases e
  | t rs => cases e
  | d d =>
    cases d <;> first | (cases e; exact h) | cases e
def prsM : List (M Vl × M Vl) → M (List (Vl × Vl))
  | [] => retM []
  | (mk, mv) :: r => bindM mk fun x => bindM mv fun y => bindM (prsM r) fun xs => retM ((x, y) :: xs)
def keysV : List (Vl × Vl) → Option (List Key)
  | [] => some []
  | (x, _) :: r => match keyV x, keysV r with
    | some k, some ks => some (k :: ks)
    | _, _ => none
/-- many stores one behind the other -/
def mrgN : List Key → List Key → List Key
  | acc, [] => acc
  | acc, k :: r => mrgN (kPutN k acc) r
def mrgD : List Key → List Dt → List Key → List Dt → List Dt
  | ks, ds, k :: r, d :: es => mrgD (kPutN k ks) (kPutD k d ks ds) r es
  | _, ds, _, _ => ds
theorem mrg_ok {K : PySem.W.Frag} {H : Hp} : ∀ {more : List (Key × V)} {es : List Dt} {kvs : List (Key × V)} {ds : List Dt}, RpA K H es (more.map (·.2)) → RpA K H ds (kvs.map (·.2)) →
    (mergeK kvs more).map (·.1) = mrgN (kvs.map (·.1)) (more.map (·.1)) ∧ RpA K H (mrgD (kvs.map (·.1)) ds (more.map (·.1)) es) ((mergeK kvs more).map (·.2))
  | [], es, kvs, ds, h, g => by
    cases es with
    | nil => exact ⟨rfl, g⟩
    | cons e es =>
      obtain ⟨x, r, e0, _, _⟩ := h
      cases e0
  | (k, x) :: more, [], kvs, ds, h, g => by cases h
  | (k, x) :: more, e :: es, kvs, ds, h, g => by
    obtain ⟨x', r, e0, h2, h3⟩ := h
    cases e0
    obtain ⟨p1, p2⟩ := kPut_ok (k := k) h2 g
    obtain ⟨q1, q2⟩ := mrg_ok (kvs := putK kvs k x) h3 p2
    rw [p1] at q1 q2
    exact ⟨q1, q2⟩
def dspM (n : Nat) (ps : List (M Vl × M Vl)) : M Vl := fun E => match prsM ps ⟨E.sl, E.ce ++ [.dic [] []]⟩ with
  | some (xs, E1) => match keysV xs, fzA (xs.map (·.2)) E1 with
    | some ks, some (ds, E2) => match E2.ce[E.ce.length]? with
      | some (.dic [] []) => some (.c E.ce.length, ⟨E2.sl, E2.ce.set E.ce.length (.dic (mrgN [] ks) (mrgD [] [] ks ds))⟩)
      | _ => none
    | _, _ => none
  | none => none
/-- the parts -/
inductive Dpx (X : Cx) : List (Option Expr) → List Expr → List (TE × TE) → List (M Vl × M Vl) → Prop
  | nil : Dpx X [] [] [] []
  | cons {k v : Expr} {tk tv : TE} {mk mv : M Vl} {ks : List (Option Expr)} {vs : List Expr} {ts : List (TE × TE)} {ms : List (M Vl × M Vl)} (hk : Ex_ X k tk mk) (hv : Ex_ X v tv mv) (r : Dpx X ks vs ts ms) : Dpx X (some k :: ks) (v :: vs) ((tk, tv) :: ts) ((mk, mv) :: ms)
theorem Dpx.pp {X : Cx} {pos : Pos} {ks : List (Option Expr)} {vs : List Expr} {ts : List (TE × TE)} {ms : List (M Vl × M Vl)} (h : Dpx X ks vs ts ms) : PPs X pos ks vs ts := by
  induction h with
  | nil => exact pps_nil
  | cons hk hv r ih => exact pps_cons hk.pe hv.pe ih
theorem Dpx.len {X : Cx} {ks : List (Option Expr)} {vs : List Expr} {ts : List (TE × TE)} {ms : List (M Vl × M Vl)} (h : Dpx X ks vs ts ms) : ∀ {E E' : En} {xs : List (Vl × Vl)}, prsM ms E = some (xs, E') → xs.length = ms.length := by
  induction h with
  | nil =>
    intro E E' xs e
    cases e
    rfl
  | cons hk hv r ih =>
    intro E E' xs e
    obtain ⟨x, E1, e1, e2⟩ := bindM_some e
    obtain ⟨y, E2, e3, e4⟩ := bindM_some e2
    obtain ⟨zs, E3, e5, e6⟩ := bindM_some e4
    cases e6
    rw [List.length_cons, List.length_cons, ih e5]
theorem Dpx.em {X : Cx} {ks : List (Option Expr)} {vs : List Expr} {ts : List (TE × TE)} {ms : List (M Vl × M Vl)} (h : Dpx X ks vs ts ms) : ∀ {μ : List Addr} {Hd H : Hp} {σ : L2.St} {E E' : En} {xs : List (Vl × Vl)}, Rl X.K μ Hd H σ E → prsM ms E = some (xs, E') → ∀ Q : List (V × V) → Hp → Prop,
    (∀ μ' Hd' H' us ws, Gr μ Hd μ' Hd' → Rl X.K μ' Hd' H' σ E' → RvA X.K μ' Hd' (xs.map (·.1)) us → RvA X.K μ' Hd' (xs.map (·.2)) ws → us.length = ws.length → Q (us.zip ws) H') → tPairs ts σ H Q := by
  induction h with
  | nil =>
    intro μ Hd H σ E E' xs R e Q q
    cases e
    exact q μ Hd H [] [] (Gr.refl μ Hd) R .nil .nil rfl
  | cons hk hv r ih =>
    intro μ Hd H σ E E' xs R e Q q
    obtain ⟨x, E1, e1, e2⟩ := bindM_some e
    obtain ⟨y, E2, e3, e4⟩ := bindM_some e2
    obtain ⟨zs, E3, e5, e6⟩ := bindM_some e4
    cases e6
    refine hk.em R e1 _ fun μ1 Hd1 H1 u g1 R1 r1 => ?_
    refine hv.em R1 e3 _ fun μ2 Hd2 H2 w g2 R2 r2 => ?_
    refine ih R2 e5 _ fun μ3 Hd3 H3 us ws g3 R3 r3 r4 hl => ?_
    refine q μ3 Hd3 H3 (u :: us) (w :: ws) (g1.trans (g2.trans g3)) R3 (.cons (Rv.gr (g2.trans g3) r1) r3) (.cons (Rv.gr g3 r2) r4) (by rw [List.length_cons, List.length_cons, hl])
theorem keys_ok {K : PySem.W.Frag} {μ : List Addr} {Hd : Hp} : ∀ {xs : List (Vl × Vl)} {us : List V} {ks : List Key}, RvA K μ Hd (xs.map (·.1)) us → keysV xs = some ks → us = ks.map kV
  | [], us, ks, h, e => by
    cases h
    cases e
    rfl
  | (x, y) :: xs, us, ks, h, e => by
    cases h with
    | cons h1 h2 =>
      unfold keysV at e
      split at e
      · rename_i k ks' e1 e2
        cases e
        rw [List.map_cons, keyV_ok h1 e1, keys_ok h2 e2]
      · cases e
theorem zip_kV : ∀ (kk : List Key) (ws : List V), (kk.map kV).zip ws = (kk.zip ws).map (fun kv => (kV kv.1, kv.2))
  | [], ws => by simp
  | k :: kk, [] => by simp
  | k :: kk, w :: ws => by
    simp only [List.map_cons, List.zip_cons_cons]
    rw [zip_kV kk ws]
theorem xdsp {X : Cx} {pos : Pos} {ks : List (Option Expr)} {vs : List Expr} {ts : List (TE × TE)} {ms : List (M Vl × M Vl)} (h : Dpx X ks vs ts ms) (hall : ks.all (·.isSome) = true := by rfl) (hl : ks.length = vs.length := by rfl) (h0 : ks ≠ [] := by intro z; cases z) (h15 : ks.length ≤ 15 := by decide) (hm : ms.length ≤ 15 := by decide) :
    Ex_ X (.Dict ks vs pos) (tDisp ts) (dspM ms.length ms) := ⟨pe_disp h.pp hall hl h0 h15, fun {μ Hd H σ E z E'} R e Q q => by
  unfold dspM at e
  split at e
  · rename_i xs E1 e1
    split at e
    · rename_i kk ds E2 e2 e3
      split at e
      · rename_i e4
        cases e
        intro p hp
        obtain ⟨g0, R0, r0⟩ := R.newX (c := .dic [] []) (o := .dK []) hp ⟨[], rfl, rfl, (rfl : ([] : List V) = [])⟩
        refine h.em R0 e1 _ fun μ1 Hd1 H1 us ws g1 R1 r1 r2 hlen => ?_
        have ek := keys_ok r1 e2
        subst ek
        obtain ⟨Hd2, g2, R2, r3⟩ := fzA_ok R1 r2 e3
        obtain ⟨a, h1, h2⟩ := Rv.gr (g1.trans g2) r0
        cases h2
        obtain ⟨k1, o, k2, k3⟩ := R2.wo.at_ _ _ _ e4 h1 rfl
        obtain ⟨kvs, rfl, k4, k5⟩ := k3
        have kn : kvs = [] := by
          cases kvs with
          | nil => rfl
          | cons q r => cases k4
        subst kn
        have el : kk.length = ws.length := by rw [← hlen, List.length_map]
        have ep : (kk.map kV).zip ws = (kk.zip ws).map (fun kv => (kV kv.1, kv.2)) := zip_kV kk ws
        have m1 : (kk.zip ws).map (·.1) = kk := List.map_fst_zip (Nat.le_of_eq el)
        have m2 : (kk.zip ws).map (·.2) = ws := List.map_snd_zip (Nat.le_of_eq el.symm)
        have hx := h.len e1
        have hw : ws.length = xs.length := by
          rw [r2.len]
          simp
        refine ⟨k2, kk.zip ws, ep, by rw [List.length_zip]; omega, ?_⟩
        obtain ⟨q1, q2⟩ := mrg_ok (K := X.K) (H := Hd2) (more := kk.zip ws) (es := ds) (kvs := []) (ds := []) (by rw [m2]; exact r3) (rfl : ([] : List V) = [])
        rw [m1] at q1 q2
        refine q _ _ _ _ (g0.trans (g1.trans g2)) (R2.setX e4 rfl h1 ⟨_, rfl, q1, q2⟩) ?_
        exact ⟨p, h1, rfl⟩
      · cases e
    · cases e
  · cases e⟩
/-! ### d[k], k in d -/
/-- a dict as it is now: data, a cell, a locked cell -/
def seeK (ce : List Ce) : Vl → Option (List Key × List Dt)
  | .d (.dic ks ds) => some (ks, ds)
  | .c k => match ce[k]? with
    | some (.dic ks ds) => some (ks, ds)
    | some (.lkd ks ds) => some (ks, ds)
    | _ => none
  | _ => none
theorem seeK_ok {K : PySem.W.Frag} {Hd H : Hp} {μ : List Addr} {ce : List Ce} {r : Vl} {v : V} {ks : List Key} {ds : List Dt} (w : Wo K μ Hd H ce) (hv : Rv K μ Hd r v) (h : seeK ce r = some (ks, ds)) : ∃ a kvs, v = .ref a ∧ Rd H a (.dK kvs) ∧ kvs.map (·.1) = ks ∧ RpA K Hd ds (kvs.map (·.2)) := by
  cases r with
  | t rs => cases h
  | d d' =>
    cases d' <;> first
      | (cases h; done)
      | (cases h
         obtain ⟨a, kvs, h1, h2, h3, h4⟩ := hv
         exact ⟨a, kvs, h1, exs_d w.ex h2, h3, h4⟩)
  | c k =>
    obtain ⟨a, ha, rfl⟩ := hv
    have h : (match ce[k]? with
      | some (.dic ks ds) => some (ks, ds)
      | some (.lkd ks ds) => some (ks, ds)
      | _ => none) = some (ks, ds) := h
    split at h
    · rename_i ks' ds' e
      cases h
      obtain ⟨h1, o, h2, h3⟩ := w.at_ k _ a e ha rfl
      obtain ⟨kvs, rfl, h4, h5⟩ := h3
      exact ⟨a, kvs, rfl, .inl h2, h4, h5⟩
    · rename_i ks' ds' e
      cases h
      obtain ⟨⟨od, kvs, h1, h2, h3⟩, _⟩ := w.lk k a _ _ e ha
      exact ⟨a, kvs, rfl, .inr ⟨od, w.ex a _ h1⟩, h2, h3⟩
    · cases h
def dgM (mo mi : M Vl) : M Vl := bindM mo fun x => bindM mi fun y => fun E => match seeK E.ce x, keyV y with
  | some (ks, ds), some k => (kGet k ks ds).map fun d => (.d d, E)
  | _, _ => none
def diF (neg : Bool) : Vl → Vl → M Vl := fun y x => fun E => match seeK E.ce x, keyV y with
  | some (ks, ds), some k => some (.d (.bl (if (kGet k ks ds).isSome = true then !neg else neg)), E)
  | _, _ => none
section
variable {X : Cx} {a b c e o i : Expr} {ta tb te to ti : TE} {ma mb m mo mi : M Vl} {es : List Expr} {tes : TA} {mes : M (List Vl)} {pos p p2 apos : Pos} {C x : Str} {n k : Nat} {fa : Addr} {fd : FuncData} {ps : List Str} {G : Fn} {CX : CXT} {E : XK}
theorem xdg {kk : Nat} (hr : Room kk X.A) (ho : Ex_ X o to mo) (hi : Ex_ X i ti mi) (hs : NoSl i := by intro _ _; rfl) : Ex_ X (.Subscript o i pos) (tDGet to ti) (dgM mo mi) := ⟨pe_dget (by have := hr.units; omega) ho.pe hi.pe hs, fun {μ Hd H σ E r E'} R q Q k => by
  obtain ⟨x, E1, e1, e2⟩ := bindM_some q
  obtain ⟨y, E2, e3, e4⟩ := bindM_some e2
  refine ho.em R e1 _ fun μ1 Hd1 H1 v g1 R1 r1 => ?_
  refine hi.em R1 e3 _ fun μ2 Hd2 H2 w g2 R2 r2 => ?_
  split at e4
  · rename_i ks ds kq s1 s2
    cases e5 : kGet kq ks ds with
    | none =>
      rw [e5] at e4
      cases e4
    | some d =>
      rw [e5] at e4
      cases e4
      obtain ⟨a, kvs, rfl, h1, rfl, h3⟩ := seeK_ok R2.wo (Rv.gr g2 r1) s1
      obtain ⟨u, h4, h5⟩ := kGet_ok h3 e5
      have ey := keyV_ok r2 s2
      refine ⟨a, u, rfl, .inl ⟨kvs, kq, h1, ey, h4.symm⟩, k _ _ _ _ (g1.trans g2) R2 h5⟩
  · cases e4⟩
theorem em_di {K : PySem.W.Frag} {neg : Bool} (ha : EM K ta ma) (hb : EM K tb mb) : EM K (fun σ H Q => ta σ H fun y H1 => tb σ H1 fun x H2 => ∃ a o, x = .ref a ∧ DGet H2 a y o ∧ Q (.bl (if o.isSome = true then !neg else neg)) H2) (bindM ma fun y => bindM mb (diF neg y)) := fun {μ Hd H σ E r E'} R q Q k => by
  obtain ⟨y, E1, e1, e2⟩ := bindM_some q
  obtain ⟨x, E2, e3, e4⟩ := bindM_some e2
  refine ha R e1 _ fun μ1 Hd1 H1 v g1 R1 r1 => ?_
  refine hb R1 e3 _ fun μ2 Hd2 H2 w g2 R2 r2 => ?_
  unfold diF at e4
  split at e4
  · rename_i ks ds kq s1 s2
    cases e4
    obtain ⟨a, kvs, rfl, h1, rfl, h3⟩ := seeK_ok R2.wo r2 s1
    have ey := keyV_ok (Rv.gr g2 r1) s2
    refine ⟨a, valV kvs kq, rfl, .inl ⟨kvs, kq, h1, ey, rfl⟩, ?_⟩
    have hs : (valV kvs kq).isSome = (kGet kq (kvs.map (·.1)) ds).isSome := by
      cases e5 : kGet kq (kvs.map (·.1)) ds with
      | none =>
        rw [kGet_no h3 e5]
        rfl
      | some d =>
        obtain ⟨u, h4, _⟩ := kGet_ok h3 e5
        rw [h4]
        rfl
    rw [hs]
    exact k _ _ _ _ (g1.trans g2) R2 rfl
  · cases e4
theorem xdin {kk : Nat} (hr : Room kk X.A) (ha : Ex_ X a ta ma) (hb : Ex_ X b tb mb) (h1 : behindInMarks .In b = false := by rfl) : Ex_ X (.Compare a [.In] [b] pos) (tDIn ta tb) (bindM ma fun y => bindM mb (diF false y)) := ⟨pe_cmp (pc_din (by have := hr.units; omega) ha.pe hb.pe) h1, fun {μ Hd H σ E r E'} R q Q k => by
  have h := em_di (neg := false) ha.em hb.em R q Q k
  have e : ∀ o : Option V, (if o.isSome = true then !false else false) = o.isSome := fun o => by cases o <;> rfl
  simp only [e] at h
  exact h⟩
theorem xdnin {kk : Nat} (hr : Room kk X.A) (ha : Ex_ X a ta ma) (hb : Ex_ X b tb mb) (h1 : behindInMarks .NotIn b = false := by rfl) : Ex_ X (.Compare a [.NotIn] [b] pos) (tDNotIn ta tb) (bindM ma fun y => bindM mb (diF true y)) := ⟨pe_cmp (pc_dnotin (by have := hr.units; omega) ha.pe hb.pe) h1, fun {μ Hd H σ E r E'} R q Q k => by
  have h := em_di (neg := true) ha.em hb.em R q Q k
  have e : ∀ o : Option V, (if o.isSome = true then !true else true) = !o.isSome := fun o => by cases o <;> rfl
  simp only [e] at h
  exact h⟩
theorem tdin {kk : Nat} (hr : Room kk X.A) (ha : Ex_ X a ta ma) (hb : Ex_ X b tb mb) (h1 : behindInMarks .In b = false := by rfl) : Tx X (.Compare a [.In] [b] pos) (tB (tDIn ta tb)) (bindM (bindM ma fun y => bindM mb (diF false y)) boolM) := ⟨pt_cmp (pc_din (by have := hr.units; omega) ha.pe hb.pe) h1, fun {μ Hd H σ E r E'} R q Q k => by
  obtain ⟨y, E1, e1, e2⟩ := bindM_some q
  obtain ⟨rfl, rfl⟩ := boolM_some e2
  exact (xdin (pos := pos) hr ha hb h1).em R e1 _ fun μ' Hd' H' v g R' r' => ⟨_, r', k _ _ _ g R'⟩⟩
theorem tdnin {kk : Nat} (hr : Room kk X.A) (ha : Ex_ X a ta ma) (hb : Ex_ X b tb mb) (h1 : behindInMarks .NotIn b = false := by rfl) : Tx X (.Compare a [.NotIn] [b] pos) (tB (tDNotIn ta tb)) (bindM (bindM ma fun y => bindM mb (diF true y)) boolM) := ⟨pt_cmp (pc_dnotin (by have := hr.units; omega) ha.pe hb.pe) h1, fun {μ Hd H σ E r E'} R q Q k => by
  obtain ⟨y, E1, e1, e2⟩ := bindM_some q
  obtain ⟨rfl, rfl⟩ := boolM_some e2
  exact (xdnin (pos := pos) hr ha hb h1).em R e1 _ fun μ' Hd' H' v g R' r' => ⟨_, r', k _ _ _ g R'⟩⟩
end
section
variable {X : Cx} {a b c e o i : Expr} {ta tb te to ti : TE} {ma mb m mo mi : M Vl} {es : List Expr} {tes : TA} {mes : M (List Vl)} {pos p p2 apos : Pos} {C x : Str} {n k : Nat} {fa : Addr} {fd : FuncData} {ps : List Str} {G : Fn} {CX : CXT} {E : XK}
/-! ### a class in a slot -/
def mkVM (i : Nat) (C : Str) (G : Fn) (m : M (List Vl)) : M Vl := fun E => match E.sl[i]? with
  | some (some (.d (.cls D))) => if D = C then makeM C G m E else none
  | _ => none
def tMkV (i : Nat) (C : Addr) (sp : Sp) (E : XK) (t : TA) : TE := fun σ H Q => σ[i]? = some (some (.ref C)) ∧ tMake C sp [] E t σ H Q
theorem xmkV {j : Nat} (M : Mk X.K (clA X.K C) fa) (F : FnOk X.prog X.w X.K X.mg X.base CX k fa fd ps (spM X.K (n + 1) G)) (hr : Room (k + 1) X.A) (hb : Binds X.K fd ps [])
    (ha : Ax X (e :: es) tes mes) (hn : ∀ (E : En) (rs : List Vl) (E' : En), mes E = some (rs, E') → rs.length = n) (hx : Passes CX X E) (hN : X.N[j]? = some x := by rfl) (hv : Vis X.env.scope x := by first | exact Or.inl rfl | exact Or.inr (Or.inl rfl) | exact Or.inr (Or.inr rfl))
    (hd : (x == ("__debug__" : Str)) = false := by decide) (hcd : (x == ("__classdict__" : Str)) = false := by decide)
    (he : starEach (e :: es) X.env = (false, eval e X.env) :: starEach es X.env := by rfl) (hpl : (backTo pos (starEach es X.env)).any (·.1) = false := by rfl) :
    Ex_ X (.Call (.Name x p) (e :: es) [] pos) (tMkV j (clA X.K C) (spM X.K (n + 1) G) E tes) (mkVM j C G mes) := by
  refine ⟨⟨fun pins s σ H Q I h => ?_⟩, fun {μ Hd H σ E1 r E'} R q Q kk => ?_⟩
  · obtain ⟨hs, h⟩ := h
    refine wpAny_Call_Name_kw (thn ((pe_var (pos := p) (i := j) hN hv hd hcd).run pins s σ H (fun v H1 => v = .ref (clA X.K C) ∧ H1 = H) I ⟨.ref (clA X.K C), hs, rfl, rfl⟩) fun u s1 ⟨v, H1, I1, r1, ev, eh⟩ => ?_)
    subst ev
    rw [eh] at I1
    cases r1
    exact PySem.W.callWith_K (h₀ := X.base) I.ok.mod.kin M.kp (thn (ha.pa.run pos pins s1 σ H _ I1 h) fun us s2 ⟨vs, H2, I2, rr, qq⟩ => ⟨I2.kIn, run_make M F hr hb .nil hx I2 rr qq⟩) he hpl
  · unfold mkVM at q
    split at q
    · rename_i D e1
      split at q
      · rename_i hD
        subst hD
        obtain ⟨v, h1, h2⟩ := R.sl.2 j _ e1
        cases (show v = .ref (clA X.K D) from h2)
        exact ⟨h1, em_make hn ha.am R q Q kk⟩
      · cases q
    · cases q
/-! ### C.m(..), m a class method -/
theorem am_consX {K : PySem.W.Frag} {te : TE} {m : M Vl} {tes : TA} {mes : M (List Vl)} (h : EM K te m) (hr : AM K tes mes) : AM K (tCons te tes) (consM m mes) := fun {μ Hd H σ E r E'} R q Q k => by
  obtain ⟨x, E1, e1, e2⟩ := bindM_some q
  obtain ⟨xs, E2, e3, e4⟩ := bindM_some e2
  cases e4
  refine h R e1 _ fun μ1 Hd1 H1 v g1 R1 r1 => ?_
  exact hr R1 e3 _ fun μ2 Hd2 H2 vs g2 R2 r2 => k μ2 Hd2 H2 _ (g1.trans g2) R2 (.cons (Rv.gr g2 r1) r2)
structure CmOk (K : PySem.W.Frag) (C : Addr) (m : Str) (p g : Addr) (mc : Value) : Prop where
  rd : ClX.CRead K C mc
  mt : ClX.CMet K C mc m p g
theorem xcm {m : Str} {g pp : Addr} {mc : Value} {pl : Sem Bool} (c : CmOk X.K (clA X.K C) m pp g mc) (F : FnOk X.prog X.w X.K X.mg X.base CX k g fd ps (spM X.K (n + 1) G)) (hr : Room k X.A) (hb : Binds X.K fd ps []) (hm : X.mg C = some (.ref (clA X.K C)))
    (ha : Ax X (e :: es) tes mes) (hn : ∀ (E : En) (rs : List Vl) (E' : En), mes E = some (rs, E') → rs.length = n) (hx : Passes CX X E) (hg : Gl X C := by rfl) (hdb : (C == ("__debug__" : Str)) = false := by decide)
    (hst : starEach (e :: es) X.env = (false, eval e X.env) :: starEach es X.env := by rfl) (hpl : (backTo pos (starEach es X.env)).any (·.1) = false := by rfl)
    (ht : eval (.Call (.Attribute (.Name C p2) m apos) (e :: es) [] pos) X.env = (do
      let ov ← eval (.Name C p2) X.env
      standAt apos.atName
      let (f, first) ← holding [ov] (getMethod ov m pl)
      callWith pos f first (backTo pos (starEach (e :: es) X.env)) (backToKw pos (keywordEach [] X.env))) := by rfl) :
    Ex_ X (.Call (.Attribute (.Name C p2) m apos) (e :: es) [] pos) (ClX.tCMeth (clA X.K C) (fun vs H Q E => spM X.K (n + 1) G (vs ++ []) H Q E) E (tC (.ref (clA X.K C))) tes) (callM G (consM (retM (.d (.cls C))) mes)) := by
  refine ⟨ClX.pe_cmeth (pe_glob hg hm (v := .ref (clA X.K C)) rfl hdb) c.rd c.mt (F.raw hb .nil) hr hx ha.pa hst hpl ht, ?_⟩
  have h1 : EM X.K (tCall (spM X.K (n + 1) G) [] E (tCons (tC (.ref (clA X.K C))) tes)) (callM G (consM (retM (.d (.cls C))) mes)) := by
    refine em_call (n := n + 1) (fun E rs E' q => ?_) (am_consX (em_c (d := .cls C) fun _ => rfl) ha.am)
    obtain ⟨x, E1, q1, q2⟩ := bindM_some q
    obtain ⟨ys, E2, q3, q4⟩ := bindM_some q2
    cases q4
    rw [List.length_cons, hn _ _ _ q3]
  exact fun {μ Hd H σ E1 r E'} R q Q kk => ⟨rfl, h1 R q Q kk⟩
/-! ### keys that are not in a written dict -/
def ADic (K : PySem.W.Frag) (d : Addr) (tb : List (Str × Dt)) : Prop := ∀ z, look2 z tb = none → PySem.W.nsIn K d z = some none
def inAM (neg : Bool) (tb : List (Str × Dt)) (ma : M Vl) : M Vl := bindM ma fun y => match y with
  | .d (.str z) => fun E => some (.d (.bl (if (look2 z tb).isSome = true then !neg else neg)), E)
  | _ => failM
theorem inAM_some {neg : Bool} {tb : List (Str × Dt)} {ma : M Vl} {E E' : En} {r : Vl} (e : inAM neg tb ma E = some (r, E')) : ∃ z, ma E = some (.d (.str z), E') ∧ ((∃ v, look2 z tb = some v ∧ r = .d (.bl (!neg))) ∨ (look2 z tb = none ∧ r = .d (.bl neg))) := by
  obtain ⟨y, E1, e1, e2⟩ := bindM_some e
  split at e2
  · rename_i z
    cases e2
    cases e3 : look2 z tb with
    | some v => exact ⟨z, e1, .inl ⟨v, e3, rfl⟩⟩
    | none => exact ⟨z, e1, .inr ⟨e3, rfl⟩⟩
  · cases e2
theorem tinA {x : Str} {d : Addr} {tb0 : List (Str × Dt)} (D : WDic X.K X.w d tb0) (N : ADic X.K d tb0) (hm : X.mg x = some (.ref d)) (ha : Ex_ X a ta ma) (hk : behindInMarks .In (.Name x p) = false := by rfl) (hg : Gl X x := by rfl) (hdb : (x == ("__debug__" : Str)) = false := by decide) :
    Tx X (.Compare a [.In] [.Name x p] pos) (tTest (tOp (fun x y H Q => ∃ (z : Str) (r : Option Value), x = .str z ∧ y = .ref d ∧ PySem.W.nsIn X.K d z = some r ∧ Q (.bl r.isSome) H) ta (tC (.ref d)))) (bindM (inAM false tb0 ma) boolM) :=
  ⟨pt_cmpR (by
    obtain ⟨es, n, kd⟩ := D.at_
    exact op_in_kd kd) ha.pe (pe_glob hg hm (v := .ref d) rfl hdb) hk, tm_test fun {μ Hd H σ E r E'} R e Q q => by
    obtain ⟨z, e1, cs⟩ := inAM_some e
    refine ha.em R e1 _ fun μ1 Hd1 H1 vy g1 R1 r1 => ?_
    rcases cs with ⟨v, e2, rfl⟩ | ⟨hz, rfl⟩
    · obtain ⟨u, y, h1, h2, h3⟩ := D.tab z v e2
      exact ⟨z, some u, r1, rfl, h1, q μ1 Hd1 H1 _ g1 R1 rfl⟩
    · exact ⟨z, none, r1, rfl, N z hz, q μ1 Hd1 H1 _ g1 R1 rfl⟩⟩
theorem tninA {x : Str} {d : Addr} {tb0 : List (Str × Dt)} (D : WDic X.K X.w d tb0) (N : ADic X.K d tb0) (hm : X.mg x = some (.ref d)) (ha : Ex_ X a ta ma) (hk : behindInMarks .NotIn (.Name x p) = false := by rfl) (hg : Gl X x := by rfl) (hdb : (x == ("__debug__" : Str)) = false := by decide) :
    Tx X (.Compare a [.NotIn] [.Name x p] pos) (tTest (tOp (fun x y H Q => ∃ (z : Str) (r : Option Value), x = .str z ∧ y = .ref d ∧ PySem.W.nsIn X.K d z = some r ∧ Q (.bl (!r.isSome)) H) ta (tC (.ref d)))) (bindM (inAM true tb0 ma) boolM) :=
  ⟨pt_cmpR (by
    obtain ⟨es, n, kd⟩ := D.at_
    exact op_notIn_kd kd) ha.pe (pe_glob hg hm (v := .ref d) rfl hdb) hk, tm_test fun {μ Hd H σ E r E'} R e Q q => by
    obtain ⟨z, e1, cs⟩ := inAM_some e
    refine ha.em R e1 _ fun μ1 Hd1 H1 vy g1 R1 r1 => ?_
    rcases cs with ⟨v, e2, rfl⟩ | ⟨hz, rfl⟩
    · obtain ⟨u, y, h1, h2, h3⟩ := D.tab z v e2
      exact ⟨z, some u, r1, rfl, h1, q μ1 Hd1 H1 _ g1 R1 rfl⟩
    · exact ⟨z, none, r1, rfl, N z hz, q μ1 Hd1 H1 _ g1 R1 rfl⟩⟩
theorem adic_mk {K : PySem.W.Frag} {d : Addr} {tb : List (Str × Dt)} {es : Array DictEntry} {n : Nat} {ts : List Tok} (v : K.lookup d = some ⟨.type "dict", none, .dict es n, #[]⟩) (hk : es.toList.map (·.key) = List.zipWith (fun (p : Str × Dt) t => Value.str p.1 t) tb ts) (hl : tb.length = ts.length) : ADic K d tb := fun z hz => by
  have h1 : ∀ {l : List DictEntry} {tb : List (Str × Dt)} {ts : List Tok}, l.map (·.key) = List.zipWith (fun (p : Str × Dt) t => Value.str p.1 t) tb ts → tb.length = ts.length → look2 z tb = none → l.find? (·.key.isStr z) = none ∧ l.any (·.refKey) = false := by
    intro l
    induction l with
    | nil => intro tb ts _ _ _; exact ⟨rfl, rfl⟩
    | cons e l ih =>
      intro tb ts h hl hz
      cases tb with
      | nil => simp at h
      | cons p tb =>
        cases ts with
        | nil => simp at hl
        | cons t ts =>
          simp only [List.map_cons, List.zipWith_cons_cons, List.cons.injEq] at h
          obtain ⟨k, x⟩ := p
          have hz : (if z = k then some x else look2 z tb) = none := hz
          by_cases hzk : z = k
          · rw [if_pos hzk] at hz
            cases hz
          · rw [if_neg hzk] at hz
            obtain ⟨i1, i2⟩ := ih h.2 (by simpa using hl) hz
            have hk0 : e.key = Value.str k t := h.1
            constructor
            · rw [List.find?_cons, i1]
              have : e.key.isStr z = false := by
                rw [hk0]
                show (k == z) = false
                exact beq_eq_false_iff_ne.mpr fun q => hzk q.symm
              rw [this]
            · rw [List.any_cons, i2, Bool.or_false]
              unfold DictEntry.refKey
              rw [hk0]
  unfold PySem.W.nsIn
  rw [v]
  obtain ⟨i1, i2⟩ := h1 hk hl hz
  simp only [i1, i2]
  rfl
end
end Hk
/-! Hk15: loops over dicts: the dict is locked while they run. -/
namespace Hk
open PySem PySem.Spec PyProof.Rows L2 Evl
/-- what the data's heap may become where a dict is locked or unlocked -/
def Sw (Hd Hd' : Hp) : Prop := ∀ b u, Hd b = some u → Hd' b = some u ∨ (∃ od kvs, (u = .dK kvs ∨ u = .frz od (.dK kvs)) ∧ Rd Hd' b (.dK kvs)) ∨ ∃ od kvs, u = .frz od (.frz od (.dK kvs))
theorem sw_l {K : PySem.W.Frag} {Hd Hd' : Hp} {a : Addr} {xs : List V} (e : Sw Hd Hd') (h : SqL K Hd a xs) : SqL K Hd' a xs := by
  rcases h with (h | ⟨o, h⟩) | h
  · rcases e a _ h with q | ⟨od, kvs, (z | z), _⟩ | ⟨od, kvs, z⟩
    · exact .inl (.inl q)
    · cases z
    · cases z
    · cases z
  · rcases e a _ h with q | ⟨od, kvs, (z | z), _⟩ | ⟨od, kvs, z⟩
    · exact .inl (.inr ⟨o, q⟩)
    · cases z
    · cases z
    · cases z
  · exact .inr h
theorem sw_t {K : PySem.W.Frag} {Hd Hd' : Hp} {a : Addr} {xs : List V} (e : Sw Hd Hd') (h : SqT K Hd a xs) : SqT K Hd' a xs := by
  rcases h with (h | ⟨o, h⟩) | h
  · rcases e a _ h with q | ⟨od, kvs, (z | z), _⟩ | ⟨od, kvs, z⟩
    · exact .inl (.inl q)
    · cases z
    · cases z
    · cases z
  · rcases e a _ h with q | ⟨od, kvs, (z | z), _⟩ | ⟨od, kvs, z⟩
    · exact .inl (.inr ⟨o, q⟩)
    · cases z
    · cases z
    · cases z
  · exact .inr h
theorem sw_d {Hd Hd' : Hp} {a : Addr} {kvs : List (Key × V)} (e : Sw Hd Hd') (h : Rd Hd a (.dK kvs)) : Rd Hd' a (.dK kvs) := by
  rcases h with h | ⟨o, h⟩
  · rcases e a _ h with q | ⟨od, kvs', (z | z), r⟩ | ⟨od, kvs', z⟩
    · exact .inl q
    · cases z
      exact r
    · cases z
    · cases z
  · rcases e a _ h with q | ⟨od, kvs', (z | z), r⟩ | ⟨od, kvs', z⟩
    · exact .inr ⟨o, q⟩
    · cases z
    · cases z
      exact r
    · cases z
mutual
theorem Rp.sw {K : PySem.W.Frag} {H H' : Hp} (e : Sw H H') : ∀ (d : Dt) (v : V), Rp K H d v → Rp K H' d v
  | .non, v, h => h
  | .bl _, v, h => h
  | .int _, v, h => h
  | .str _, v, h => h
  | .lst ds, v, h => by
    obtain ⟨a, xs, h1, h2, h3⟩ := h
    refine ⟨a, xs, h1, ?_, RpA.sw e ds xs h3⟩
    rcases e a _ h2 with q | ⟨od, kvs, (z | z), _⟩ | ⟨od, kvs, z⟩
    · exact q
    · cases z
    · cases z
    · cases z
  | .sq ds, v, h => by
    obtain ⟨a, xs, h1, h2, h3⟩ := h
    exact ⟨a, xs, h1, sw_l e h2, RpA.sw e ds xs h3⟩
  | .tup ds, v, h => by
    obtain ⟨a, xs, h1, h2, h3⟩ := h
    exact ⟨a, xs, h1, sw_t e h2, RpA.sw e ds xs h3⟩
  | .obj C ns ds, v, h => by
    obtain ⟨a, dx, fs, h1, h2, h3, h4⟩ := h
    refine ⟨a, dx, fs, h1, ?_, h3, RpA.sw e ds _ h4⟩
    rcases e a _ h2 with q | ⟨od, kvs, (z | z), _⟩ | ⟨od, kvs, z⟩
    · exact q
    · cases z
    · cases z
    · cases z
  | .dic ks ds, v, h => by
    obtain ⟨a, kvs, h1, h2, h3, h4⟩ := h
    exact ⟨a, kvs, h1, sw_d e h2, h3, RpA.sw e ds _ h4⟩
  | .cls _, v, h => h
  | .exc C ns ds, v, h => by
    obtain ⟨a, fs, h1, h2, h3, h4⟩ := h
    refine ⟨a, fs, h1, h2.imp fun a φ q => ?_, h3, RpA.sw e ds _ h4⟩
    rcases e a _ q with q | ⟨od, kvs, (z | z), _⟩ | ⟨od, kvs, z⟩
    · exact q
    · cases z
    · cases z
    · cases z
theorem RpA.sw {K : PySem.W.Frag} {H H' : Hp} (e : Sw H H') : ∀ (ds : List Dt) (vs : List V), RpA K H ds vs → RpA K H' ds vs
  | [], vs, h => h
  | d :: ds, vs, h => by
    obtain ⟨x, r, h1, h2, h3⟩ := h
    exact ⟨x, r, h1, Rp.sw e d x h2, RpA.sw e ds r h3⟩
end
section
variable {K : PySem.W.Frag} {μ : List Addr} {Hd Hd' H : Hp}
theorem HoAt.sw (g : Sw Hd Hd') : ∀ {c : Ce} {o : HO}, HoAt K Hd c o → HoAt K Hd' c o
  | .dead, _, _ => True.intro
  | .lst xs, o, ⟨vs, e, h⟩ => ⟨vs, e, RpA.sw g xs vs h⟩
  | .ins C ns ds, o, ⟨dx, fs, e, hn, h⟩ => ⟨dx, fs, e, hn, RpA.sw g _ _ h⟩
  | .dic ks ds, o, ⟨kvs, e, hn, h⟩ => ⟨kvs, e, hn, RpA.sw g _ _ h⟩
  | .dit ks ds, o, ⟨kvs, e, hn, h⟩ => ⟨kvs, e, hn, RpA.sw g _ _ h⟩
  | .pin u, o, h => h
  | .lkd _ _, _, _ => True.intro
mutual
theorem Rv.sw (g : Sw Hd Hd') : ∀ {r : Vl} {v : V}, Rv K μ Hd r v → Rv K μ Hd' r v
  | .d d, v, h => Rp.sw g d v h
  | .c k, v, h => h
  | .t rs, v, ⟨a, vs, h1, h2, h3⟩ => ⟨a, vs, h1, (by rcases g a _ h2 with q | ⟨od, kvs, (z | z), _⟩ | ⟨od, kvs, z⟩ <;> first | exact q | cases z), RvL.sw g h3⟩
theorem RvL.sw (g : Sw Hd Hd') : ∀ {rs : List Vl} {vs : List V}, RvL K μ Hd rs vs → RvL K μ Hd' rs vs
  | [], vs, h => h
  | r :: rs, vs, ⟨x, q, h1, h2, h3⟩ => ⟨x, q, h1, Rv.sw g h2, RvL.sw g h3⟩
end
theorem Sl.sw {σ : L2.St} {sl : List (Option Vl)} (g : Sw Hd Hd') (h : Sl K μ Hd σ sl) : Sl K μ Hd' σ sl :=
  ⟨h.1, fun i r e => by
    obtain ⟨v, h1, h2⟩ := h.2 i r e
    exact ⟨v, h1, Rv.sw g h2⟩⟩
def delH (H : Hp) (a : Addr) : Hp := fun b => if b = a then none else H b
/-! ### a live dict -/
theorem lock_cell {σ : L2.St} {sl : List (Option Vl)} {ce : List Ce} {k : Nat} {a : Addr} {ks : List Key} {ds : List Dt} (R : Rl K μ Hd H σ ⟨sl, ce⟩) (hk : ce[k]? = some (.dic ks ds)) (ha : μ[k]? = some a) :
    ∃ kvs, H a = some (.dK kvs) ∧ kvs.map (·.1) = ks ∧ RpA K Hd ds (kvs.map (·.2)) ∧ ∀ od, Gr μ Hd μ (upd Hd a (.frz od (.frz od (.dK kvs)))) ∧ Rl K μ (upd Hd a (.frz od (.frz od (.dK kvs)))) (upd H a (.frz od (.dK kvs))) σ ⟨sl, ce.set k (.lkd ks ds)⟩ := by
  obtain ⟨g1, o, g2, kvs, rfl, g3, g4⟩ := R.wo.at_ k _ a hk ha rfl
  refine ⟨kvs, g2, g3, g4, fun od => ?_⟩
  have gx : Ex Hd (upd Hd a (.frz od (.frz od (.dK kvs)))) := Ex.new g1
  have g : Gr μ Hd μ (upd Hd a (.frz od (.frz od (.dK kvs)))) := ⟨fun _ _ h => h, gx⟩
  have other : ∀ {j : Nat} {c : Ce}, (ce.set k (.lkd ks ds))[j]? = some c → (j = k ∧ c = .lkd ks ds) ∨ (j ≠ k ∧ ce[j]? = some c) := fun {j c} h => by
    rw [List.getElem?_set] at h
    by_cases hj : k = j
    · subst hj
      rw [if_pos rfl, if_pos (List.getElem?_eq_some_iff.mp hk).1] at h
      exact .inl ⟨rfl, (Option.some.inj h).symm⟩
    · rw [if_neg hj] at h
      exact .inr ⟨fun z => hj z.symm, h⟩
  refine ⟨g, ⟨⟨fun b u e => ?_, by rw [List.length_set]; exact R.wo.len, fun j b ks' ds' h1 h2 => ?_, fun j c b h1 h2 h3 => ?_, fun i j b e f h1 h2 h3 h4 l1 l2 => ?_⟩, R.sl.gr g⟩⟩
  · by_cases hb : b = a
    · subst hb
      rw [upd_same] at e ⊢
      cases e
      rfl
    · rw [upd_ne hb] at e ⊢
      exact R.wo.ex b u e
  · rcases other h1 with ⟨rfl, z⟩ | ⟨hj, h1⟩
    · cases z
      rw [ha] at h2
      cases h2
      refine ⟨⟨od, kvs, upd_same, g3, RpA.ex gx _ _ g4⟩, fun i ks2 ds2 h4 h5 => ?_⟩
      rcases other h4 with ⟨rfl, _⟩ | ⟨hi, h4⟩
      · rfl
      · obtain ⟨⟨od', kvs', q1, _⟩, _⟩ := R.wo.lk i a ks2 ds2 h4 h5
        rw [g1] at q1
        cases q1
    · obtain ⟨⟨od', kvs', q1, q2, q3⟩, uq⟩ := R.wo.lk j b ks' ds' h1 h2
      refine ⟨⟨od', kvs', gx b _ q1, q2, RpA.ex gx _ _ q3⟩, fun i ks2 ds2 h4 h5 => ?_⟩
      rcases other h4 with ⟨rfl, _⟩ | ⟨hi, h4⟩
      · rw [ha] at h5
        cases h5
        rw [g1] at q1
        cases q1
      · exact uq i ks2 ds2 h4 h5
  · rcases other h1 with ⟨rfl, rfl⟩ | ⟨hj, h1⟩
    · cases h3
    · obtain ⟨q1, u, q2, q3⟩ := R.wo.at_ j c b h1 h2 h3
      have nb : b ≠ a := fun z => hj (by
        subst z
        exact R.wo.inj j k b _ _ h2 ha h1 hk h3 rfl)
      exact ⟨by rw [upd_ne nb]; exact q1, u, by rw [upd_ne nb]; exact q2, HoAt.ex gx q3⟩
  · rcases other h3 with ⟨rfl, rfl⟩ | ⟨hi, h3⟩
    · cases l1
    · rcases other h4 with ⟨rfl, rfl⟩ | ⟨hj, h4⟩
      · cases l2
      · exact R.wo.inj i j b e f h1 h2 h3 h4 l1 l2
theorem unlock_cell {σ : L2.St} {sl : List (Option Vl)} {ce : List Ce} {k : Nat} {a : Addr} {od : Obj} {kvs : List (Key × V)} {ks : List Key} {ds : List Dt} (R : Rl K μ Hd H σ ⟨sl, ce⟩) (hk : ce[k]? = some (.lkd ks ds)) (ha : μ[k]? = some a) (hd : Hd a = some (.frz od (.frz od (.dK kvs)))) :
    Sw Hd (delH Hd a) ∧ H a = some (.frz od (.dK kvs)) ∧ Rl K μ (delH Hd a) (upd H a (.dK kvs)) σ ⟨sl, ce.set k (.dic ks ds)⟩ := by
  have sw : Sw Hd (delH Hd a) := fun b u e => by
    by_cases hb : b = a
    · subst hb
      rw [hd] at e
      cases e
      exact .inr (.inr ⟨od, kvs, rfl⟩)
    · refine .inl ?_
      show (if b = a then none else Hd b) = some u
      rw [if_neg hb]
      exact e
  obtain ⟨⟨od2, kvs2, q1, q2, q3⟩, uq0⟩ := R.wo.lk k a ks ds hk ha
  rw [hd] at q1
  cases q1
  have other : ∀ {j : Nat} {c : Ce}, (ce.set k (.dic ks ds))[j]? = some c → (j = k ∧ c = .dic ks ds) ∨ (j ≠ k ∧ ce[j]? = some c) := fun {j c} h => by
    rw [List.getElem?_set] at h
    by_cases hj : k = j
    · subst hj
      rw [if_pos rfl, if_pos (List.getElem?_eq_some_iff.mp hk).1] at h
      exact .inl ⟨rfl, (Option.some.inj h).symm⟩
    · rw [if_neg hj] at h
      exact .inr ⟨fun z => hj z.symm, h⟩
  have away : ∀ {j : Nat} {c : Ce} {b : Addr}, ce[j]? = some c → μ[j]? = some b → c.live = true → b ≠ a := fun {j c b} h1 h2 h3 z => by
    subst z
    obtain ⟨w1, _⟩ := R.wo.at_ j c b h1 h2 h3
    rw [hd] at w1
    cases w1
  refine ⟨sw, R.wo.ex a _ hd, ⟨⟨fun b u e => ?_, by rw [List.length_set]; exact R.wo.len, fun j b ks' ds' h1 h2 => ?_, fun j c b h1 h2 h3 => ?_, fun i j b e f h1 h2 h3 h4 l1 l2 => ?_⟩, R.sl.sw sw⟩⟩
  · have e : (if b = a then none else Hd b) = some u := e
    by_cases hb : b = a
    · rw [if_pos hb] at e
      cases e
    · rw [if_neg hb] at e
      rw [upd_ne hb]
      exact R.wo.ex b u e
  · rcases other h1 with ⟨rfl, z⟩ | ⟨hj, h1⟩
    · cases z
    · obtain ⟨⟨od', kvs', w1, w2, w3⟩, uq⟩ := R.wo.lk j b ks' ds' h1 h2
      have nb : b ≠ a := fun z => hj (by
        subst z
        exact uq0 j ks' ds' h1 h2)
      refine ⟨⟨od', kvs', by show (if b = a then none else Hd b) = _; rw [if_neg nb]; exact w1, w2, RpA.sw sw _ _ w3⟩, fun i ks2 ds2 h4 h5 => ?_⟩
      rcases other h4 with ⟨rfl, z⟩ | ⟨hi, h4⟩
      · cases z
      · exact uq i ks2 ds2 h4 h5
  · rcases other h1 with ⟨rfl, rfl⟩ | ⟨hj, h1⟩
    · rw [ha] at h2
      cases h2
      exact ⟨if_pos rfl, .dK kvs, upd_same, kvs, rfl, q2, RpA.sw sw _ _ q3⟩
    · obtain ⟨w1, u, w2, w3⟩ := R.wo.at_ j c b h1 h2 h3
      have nb := away h1 h2 h3
      exact ⟨by show (if b = a then none else Hd b) = none; rw [if_neg nb]; exact w1, u, by rw [upd_ne nb]; exact w2, HoAt.sw sw w3⟩
  · rcases other h3 with ⟨z1, z2⟩ | ⟨hi, k3⟩ <;> rcases other h4 with ⟨y1, y2⟩ | ⟨hj, k4⟩
    · rw [z1, y1]
    · subst z1
      rw [ha] at h1
      cases h1
      exact absurd rfl (away k4 h2 l2)
    · subst y1
      rw [ha] at h2
      cases h2
      exact absurd rfl (away k3 h1 l1)
    · exact R.wo.inj i j b e f h1 h2 k3 k4 l1 l2
end
end Hk
/-! Hk16: for and comprehensions over a dict. -/
namespace Hk
open PySem PySem.Spec PyProof.Rows L2 Evl
section
variable {K : PySem.W.Frag} {μ : List Addr} {Hd H : Hp}
/-- data that holds a dict: locked, unlocked -/
theorem sw_data {σ : L2.St} {E : En} {a : Addr} {u u' : HO} {kvs : List (Key × V)} (R : Rl K μ Hd H σ E) (ha : Hd a = some u) (hu : u = .dK kvs ∨ ∃ od, u = .frz od (.dK kvs)) (hu' : u' = .dK kvs ∨ ∃ od, u' = .frz od (.dK kvs)) : Sw Hd (upd Hd a u') ∧ Rl K μ (upd Hd a u') (upd H a u') σ E := by
  have rd : Rd (upd Hd a u') a (.dK kvs) := by
    rcases hu' with rfl | ⟨od, rfl⟩
    · exact .inl upd_same
    · exact .inr ⟨od, upd_same⟩
  have st : strip u' = u' := by
    rcases hu' with rfl | ⟨od, rfl⟩ <;> rfl
  have sw : Sw Hd (upd Hd a u') := fun b w e => by
    by_cases hb : b = a
    · subst hb
      rw [ha] at e
      cases e
      rcases hu with rfl | ⟨od, rfl⟩
      · exact .inr (.inl ⟨default, kvs, .inl rfl, rd⟩)
      · exact .inr (.inl ⟨od, kvs, .inr rfl, rd⟩)
    · exact .inl (by rw [upd_ne hb]; exact e)
  refine ⟨sw, ⟨⟨fun b w e => ?_, R.wo.len, fun j b ks ds h1 h2 => ?_, fun j c b h1 h2 h3 => ?_, R.wo.inj⟩, R.sl.sw sw⟩⟩
  · by_cases hb : b = a
    · subst hb
      rw [upd_same] at e ⊢
      cases e
      rw [st]
    · rw [upd_ne hb] at e ⊢
      exact R.wo.ex b w e
  · obtain ⟨⟨od, kv2, w1, w2, w3⟩, uq⟩ := R.wo.lk j b ks ds h1 h2
    have nb : b ≠ a := fun z => by
      subst z
      rw [ha] at w1
      cases w1
      rcases hu with z | ⟨od', z⟩ <;> cases z
    exact ⟨⟨od, kv2, by rw [upd_ne nb]; exact w1, w2, RpA.sw sw _ _ w3⟩, uq⟩
  · obtain ⟨w1, w, w2, w3⟩ := R.wo.at_ j c b h1 h2 h3
    have nb : b ≠ a := fun z => by
      subst z
      rw [ha] at w1
      cases w1
    exact ⟨by rw [upd_ne nb]; exact w1, w, by rw [upd_ne nb]; exact w2, HoAt.sw sw w3⟩
def kD : Key → Dt
  | .inl i => .int i
  | .inr s => .str s
theorem kD_ok {H : Hp} (k : Key) : Rp K H (kD k) (kV k) := by
  cases k <;> exact rfl
theorem serves_k {d : Addr} {o : Obj} {kvs : List (Key × V)} (h : Hd d = some (.frz o (.frz o (.dK kvs))) ∨ Hd d = some (.frz o (.dK kvs))) : Serves (Itk d o kvs) K Hd ((kvs.map (·.1)).map kD) := fun Hd1 H1 i e1 e2 => by
  have h1 : H1 d = some (.frz o (.dK kvs)) := by
    rcases h with h | h
    · exact e2 d _ (e1 d _ h)
    · exact e2 d _ (e1 d _ h)
  have hl : ((kvs.map (·.1)).map kD).length = kvs.length := by simp
  refine ⟨fun q => ⟨h1, by rw [hl] at q; exact q⟩, fun x hx => ?_⟩
  have hi : i < kvs.length := by
    have := (List.getElem?_eq_some_iff.mp hx).1
    rw [hl] at this
    exact this
  refine ⟨⟨h1, hi⟩, fun y H' ⟨q1, k, v, q2, q3⟩ => ⟨Hd1, .inl ⟨q1, rfl⟩, ?_⟩⟩
  rw [List.getElem?_map, List.getElem?_map, q2] at hx
  cases hx
  rw [q3]
  exact kD_ok k
/-- an expression that tells a dict and does nothing else -/
structure Src (K : PySem.W.Frag) (td : TE) (m : M Vl) : Prop where
  st : ∀ {μ : List Addr} {Hd H : Hp} {σ : L2.St} {E : En} {r : Vl} {E' : En}, Rl K μ Hd H σ E → m E = some (r, E') → E' = E ∧ ∃ v, Rv K μ Hd r v ∧ (∀ Q : VK, Q v H → td σ H Q) ∧ ∀ (a : Addr) (od : Obj) (kvs : List (Key × V)) (Q : VK), H a = some (.dK kvs) → Q v (upd H a (.frz od (.dK kvs))) → td σ (upd H a (.frz od (.dK kvs))) Q
theorem src_var (i : Nat) : Src K (tVar i) (vM i) := ⟨fun {μ Hd H σ E r E'} R q => by
  unfold vM at q
  split at q
  · rename_i r0 e
    cases q
    obtain ⟨v, h1, h2⟩ := R.sl.2 i _ e
    exact ⟨rfl, v, h2, fun Q k => ⟨v, h1, k⟩, fun a od kvs Q _ k => ⟨v, h1, k⟩⟩
  · cases q⟩
def unE (k : Nat) (E : En) : Option En := match E.ce[k]? with
  | some (.lkd ks ds) => some ⟨E.sl, E.ce.set k (.dic ks ds)⟩
  | _ => none
def unR (k : Nat) : Rs → Option Rs
  | .nx E => (unE k E).map .nx
  | .bk E => (unE k E).map .bk
  | .ct E => (unE k E).map .ct
  | .rt r E => (unE k E).map (.rt r)
def forK (ms : M Vl) (g : Vl → En → Option En) (m : En → Option Rs) : En → Option Rs := fun E => match ms E with
  | some (.d (.dic ks ds), _) => forL g m (ks.map kD) E
  | some (.c k, _) => match E.ce[k]? with
    | some (.lkd ks ds) => forL g m (ks.map kD) E
    | some (.dic ks ds) => match forL g m (ks.map kD) ⟨E.sl, E.ce.set k (.lkd ks ds)⟩ with
      | some R => unR k R
      | none => none
    | _ => none
  | _ => none
/-- the locked reading, or the plain one -/
def tOrL (t : TS) : TS := fun D σ H => tLock t D σ H ∨ t D σ H
theorem unE_ok {σ : L2.St} {E E2 : En} {k : Nat} {a : Addr} {od : Obj} {kvs : List (Key × V)} (R : Rl K μ Hd H σ E) (ha : μ[k]? = some a) (hd : Hd a = some (.frz od (.frz od (.dK kvs)))) (h : unE k E = some E2) :
    Sw Hd (delH Hd a) ∧ H a = some (.frz od (.dK kvs)) ∧ Rl K μ (delH Hd a) (upd H a (.dK kvs)) σ E2 := by
  unfold unE at h
  split at h
  · rename_i ks ds e
    cases h
    exact unlock_cell R e ha hd
  · cases h
theorem gr_del {μ' : List Addr} {Hd' : Hp} {a : Addr} {u : HO} (g : Gr μ (upd Hd a u) μ' Hd') (hn : Hd a = none) : Gr μ Hd μ' (delH Hd' a) := ⟨g.pre, fun b w e => by
  have nb : b ≠ a := fun z => by
    subst z
    rw [hn] at e
    cases e
  show (if b = a then none else Hd' b) = some w
  rw [if_neg nb]
  exact g.ex b w (by rw [upd_ne nb]; exact e)⟩
theorem gr_dat {μ' : List Addr} {Hd' : Hp} {a : Addr} {u u0 : HO} (g : Gr μ (upd Hd a u) μ' Hd') (hn : Hd a = some u0) : Gr μ Hd μ' (upd Hd' a u0) := ⟨g.pre, fun b w e => by
  by_cases hb : b = a
  · subst hb
    rw [hn] at e
    rw [upd_same]
    exact e
  · rw [upd_ne hb]
    exact g.ex b w (by rw [upd_ne hb]; exact e)⟩
theorem sm_forK {td : TE} {ms : M Vl} {g : TG} {gm : Vl → En → Option En} {ts : TS} {m : En → Option Rs} (hs : Src K td ms) (hg : GM K g gm) (hb : SM K ts m) : SM K (tOrL (tFor (iKeys td) g ts)) (forK ms gm m) := fun {μ Hd H σ E R} r q D d => by
  unfold forK at q
  split at q
  · rename_i ks ds E1 e
    obtain ⟨_, v, h1, h2, h3⟩ := hs.st r e
    obtain ⟨a, kvs, rfl, h4, rfl, h6⟩ := h1
    rcases h4 with h4 | ⟨o, h4⟩
    · refine .inl ⟨a, .dK kvs, r.wo.ex a _ h4, True.intro, fun od => ?_⟩
      obtain ⟨sw, r1⟩ := sw_data (u' := .frz od (.dK kvs)) r h4 (.inl rfl) (.inr ⟨od, rfl⟩)
      refine h3 a od kvs _ (r.wo.ex a _ h4) ⟨a, od, rfl, .inl ⟨kvs, upd_same, for_at hg hb r1 (serves_k (.inr upd_same)) q _ ?_⟩⟩
      have fin : ∀ {μ2 : List Addr} {Hd2 H2 : Hp} {σ2 : L2.St} {E2 : En}, Gr μ (upd Hd a (.frz od (.dK kvs))) μ2 Hd2 → Rl K μ2 Hd2 H2 σ2 E2 → H2 a = some (.frz od (.dK kvs)) ∧ Gr μ Hd μ2 (upd Hd2 a (.dK kvs)) ∧ Sw Hd2 (upd Hd2 a (.dK kvs)) ∧ Rl K μ2 (upd Hd2 a (.dK kvs)) (upd H2 a (.dK kvs)) σ2 E2 := fun {μ2 Hd2 H2 σ2 E2} g2 R2 => by
        have q1 := g2.ex a _ upd_same
        obtain ⟨sw2, r2⟩ := sw_data (u' := .dK kvs) R2 q1 (.inr ⟨od, rfl⟩) (.inl rfl)
        exact ⟨R2.wo.ex a _ q1, gr_dat g2 h4, sw2, r2⟩
      cases R with
      | nx E2 => exact fun μ2 Hd2 H2 σ2 g2 R2 => let ⟨f1, f2, f3, f4⟩ := fin g2 R2; ⟨f1, d _ _ _ _ f2 f4⟩
      | bk E2 => exact fun μ2 Hd2 H2 σ2 g2 R2 => let ⟨f1, f2, f3, f4⟩ := fin g2 R2; ⟨f1, d _ _ _ _ f2 f4⟩
      | ct E2 => exact fun μ2 Hd2 H2 σ2 g2 R2 => let ⟨f1, f2, f3, f4⟩ := fin g2 R2; ⟨f1, d _ _ _ _ f2 f4⟩
      | rt w E2 => exact fun μ2 Hd2 H2 σ2 w g2 R2 r2 => let ⟨f1, f2, f3, f4⟩ := fin g2 R2; ⟨f1, d _ _ _ _ _ f2 f4 (Rv.sw f3 r2)⟩
    · refine .inr (h2 _ ⟨a, o, rfl, .inl ⟨kvs, r.wo.ex a _ h4, for_at hg hb r (serves_k (.inr h4)) q D d⟩⟩)
  · rename_i k E1 e
    obtain ⟨_, v, h1, h2, h3⟩ := hs.st r e
    obtain ⟨a, ha, rfl⟩ := h1
    split at q
    · rename_i ks ds e2
      obtain ⟨⟨od, kvs, w1, rfl, w3⟩, uq⟩ := r.wo.lk k a ks ds e2 ha
      exact .inr (h2 _ ⟨a, od, rfl, .inl ⟨kvs, r.wo.ex a _ w1, for_at hg hb r (serves_k (.inl w1)) q D d⟩⟩)
    · rename_i ks ds e2
      split at q
      · rename_i R0 e3
        obtain ⟨kvs, w1, rfl, w3, lk⟩ := lock_cell (sl := E.sl) (ce := E.ce) r e2 ha
        refine .inl ⟨a, .dK kvs, w1, True.intro, fun od => ?_⟩
        obtain ⟨g1, r1⟩ := lk od
        have hn : Hd a = none := (r.wo.at_ k _ a e2 ha rfl).1
        refine h3 a od kvs _ w1 ⟨a, od, rfl, .inl ⟨kvs, upd_same, for_at hg hb r1 (serves_k (.inl upd_same)) e3 _ ?_⟩⟩
        have fin : ∀ {μ2 : List Addr} {Hd2 H2 : Hp} {σ2 : L2.St} {E2 E3 : En}, unE k E2 = some E3 → Gr μ (upd Hd a (.frz od (.frz od (.dK kvs)))) μ2 Hd2 → Rl K μ2 Hd2 H2 σ2 E2 → H2 a = some (.frz od (.dK kvs)) ∧ Gr μ Hd μ2 (delH Hd2 a) ∧ Sw Hd2 (delH Hd2 a) ∧ Rl K μ2 (delH Hd2 a) (upd H2 a (.dK kvs)) σ2 E3 := fun {μ2 Hd2 H2 σ2 E2 E3} eu g2 R2 => by
          have q1 := g2.ex a _ upd_same
          obtain ⟨s1, s2, s3⟩ := unE_ok R2 (g2.pre _ _ ha) q1 eu
          exact ⟨s2, gr_del g2 hn, s1, s3⟩
        cases R0 with
        | nx E2 =>
          obtain ⟨E3, eu, rfl⟩ := Option.map_eq_some_iff.mp q
          exact fun μ2 Hd2 H2 σ2 g2 R2 => let ⟨f1, f2, f3, f4⟩ := fin eu g2 R2; ⟨f1, d _ _ _ _ f2 f4⟩
        | bk E2 =>
          obtain ⟨E3, eu, rfl⟩ := Option.map_eq_some_iff.mp q
          exact fun μ2 Hd2 H2 σ2 g2 R2 => let ⟨f1, f2, f3, f4⟩ := fin eu g2 R2; ⟨f1, d _ _ _ _ f2 f4⟩
        | ct E2 =>
          obtain ⟨E3, eu, rfl⟩ := Option.map_eq_some_iff.mp q
          exact fun μ2 Hd2 H2 σ2 g2 R2 => let ⟨f1, f2, f3, f4⟩ := fin eu g2 R2; ⟨f1, d _ _ _ _ f2 f4⟩
        | rt w E2 =>
          obtain ⟨E3, eu, rfl⟩ := Option.map_eq_some_iff.mp q
          exact fun μ2 Hd2 H2 σ2 w g2 R2 r2 => let ⟨f1, f2, f3, f4⟩ := fin eu g2 R2; ⟨f1, d _ _ _ _ _ f2 f4 (Rv.sw f3 r2)⟩
      · cases q
    · cases q
  · cases q
end
section
variable {X : Cx} {iter tg : Expr} {td : TE} {ms : M Vl} {g : TG} {gm : Vl → En → Option En} {ts : TS} {m : En → Option Rs} {sts : List Stmt} {pos : Pos}
theorem ps_or {st : Stmt} {t u : TS} (h : PS X st t) (k : PS X st u) : PS X st (fun D σ H => t D σ H ∨ u D σ H) := ⟨fun pins s σ H D I q => q.elim (h.run pins s σ H D I) (k.run pins s σ H D I)⟩
theorem sforK (hp : PassesOwn (model X.prog X.w) X.A X.env X.xe) (hc : X.calm = true) (hd : PE X iter td) (hs : Src X.K td ms) (hg : Gx X tg g gm) (hb : Bx X sts ts m) (hf : ∀ x, foldedSetIterable iter X.env x = pure x := by intro _; rfl) :
    Sx X (.For tg iter sts [] pos) (tOrL (tFor (iKeys td) g ts)) (forK ms gm m) :=
  ⟨ps_or (ps_lock (ps_for hp hc (pi_keys hd) hg.pg hb.ps hf)) (ps_for hp hc (pi_keys hd) hg.pg hb.ps hf), sm_forK hs hg.gm hb.sm⟩
end
end Hk
/-! Hk17: comprehensions that make dicts; comprehensions over dicts. -/
namespace Hk
open PySem PySem.Spec PyProof.Rows L2 Evl
def pairM (mk mv : M Vl) : M (Vl × Dt) := bindM mk fun x => bindM mv fun y => bindM (fzM y) fun z => retM (x, z)
def dcL (own : List Nat) (k : Nat) (g : Vl → En → Option En) (t : M Bool) (mk mv : M Vl) : List Dt → En → Option En
  | [], E => some E
  | d :: ds, E => match g (.d d) (wipeE own E) with
    | some E1 => match t E1 with
      | some (true, E2) => match pairM mk mv E2 with
        | some ((x, z), E4) => match keyV x, E4.ce[k]? with
          | some kk, some (.dic ks es) => if ks.length < 100000 then dcL own k g t mk mv ds ⟨E4.sl, E4.ce.set k (.dic (kPutN kk ks) (kPutD kk z ks es))⟩ else none
          | _, _ => none
        | none => none
      | some (false, E2) => dcL own k g t mk mv ds E2
      | none => none
    | none => none
def dcompM (own : List Nat) (i : M (List Dt)) (g : Vl → En → Option En) (t : M Bool) (mk mv : M Vl) : M Vl := fun E => match i E with
  | some (ds, E1) => match dcL own E1.ce.length g t mk mv ds ⟨E1.sl, E1.ce ++ [.dic [] []]⟩ with
    | some E2 => some (.c E1.ce.length, ⟨bring E1.sl E2.sl own, E2.ce⟩)
    | none => none
  | none => none
section
variable {K : PySem.W.Frag}
theorem dcomp_at {own : List Nat} {g : TG} {gm : Vl → En → Option En} {tt : TT} {mt : M Bool} {tk tv : TE} {mk mv : M Vl} (hg : GcM K own g gm) (ht : TM K tt mt) (hkey : EM K tk mk) (hval : EM K tv mv) {μ1 : List Addr} {Hd1 H1 : Hp} {σ : L2.St} {E1 E2 : En} {J : It} {ds : List Dt} (R1 : Rl K μ1 Hd1 H1 σ E1) (sv : Serves J K Hd1 ds)
    (q2 : dcL own E1.ce.length gm mt mk mv ds ⟨E1.sl, E1.ce ++ [.dic [] []]⟩ = some E2) (Q : VK) (q : ∀ μ' Hd' H' v, Gr μ1 Hd1 μ' Hd' → Rl K μ' Hd' H' σ ⟨bring E1.sl E2.sl own, E2.ce⟩ → Rv K μ' Hd' (.c E1.ce.length) v → Q v H') : tDc (fun σ H R => R J H) g tt tk tv own σ H1 Q := by
  intro D hD
  obtain ⟨g2, R2, r2⟩ := R1.newX (c := .dic [] []) (o := .dK []) hD ⟨[], rfl, rfl, (rfl : ([] : List V) = [])⟩
  have hk : (μ1 ++ [D])[E1.ce.length]? = some D := by
    rw [← R1.wo.len]
    simp
  refine ⟨fun i n H' => ∃ μ' Hd' E', Gr (μ1 ++ [D]) Hd1 μ' Hd' ∧ Rl K μ' Hd' H' (L2.wipe σ own) (wipeE own E') ∧ n = ds.length - i ∧ dcL own E1.ce.length gm mt mk mv (ds.drop i) E' = some E2,
    ⟨_, μ1 ++ [D], Hd1, ⟨E1.sl, E1.ce ++ [Ce.dic [] []]⟩, Gr.refl _ _, ⟨R2.wo, R2.sl.wipe own⟩, rfl, q2⟩, fun i n H' hw => ?_⟩
  obtain ⟨μ', Hd', E3, g3, R3, ek, q3⟩ := hw
  cases hd : ds.drop i with
  | nil =>
    rw [hd] at q3
    cases q3
    have hl : ds.length ≤ i := by
      have := congrArg List.length hd
      rw [List.length_drop] at this
      simp at this
      omega
    refine .inl ⟨(sv Hd' H' i g3.ex R3.wo.ex).1 hl, q μ' Hd' H' _ (g2.trans g3) ⟨R3.wo, ?_⟩ ⟨D, g3.pre _ _ hk, rfl⟩⟩
    exact Sl.bring ((R1.sl.gr g2).gr g3) R3.sl
  | cons x rest =>
    rw [hd] at q3
    obtain ⟨hx, hr⟩ := drop_cons hd
    have hl : i < ds.length := (List.getElem?_eq_some_iff.mp hx).1
    obtain ⟨s1, s2⟩ := sv.new R3 g3.ex hx
    refine .inr ⟨s1, fun H2 => ∃ m', m' < n ∧ ∃ μ2 Hd2 E4, Gr (μ1 ++ [D]) Hd1 μ2 Hd2 ∧ Rl K μ2 Hd2 H2 (L2.wipe σ own) (wipeE own E4) ∧ m' = ds.length - (i + 1) ∧ dcL own E1.ce.length gm mt mk mv (ds.drop (i + 1)) E4 = some E2, fun _ h => h, fun v H3 hy => ?_⟩
    obtain ⟨Hd4, g4, R4, r4⟩ := s2 v H3 hy
    unfold dcL at q3
    cases q4 : gm (.d x) (wipeE own E3) with
    | none =>
      rw [q4] at q3
      cases q3
    | some E5 =>
      rw [q4] at q3
      refine hg R4 (r := .d x) r4 q4 _ fun μ5 Hd5 H5 σ5 g5 R5 w5 => ⟨w5.trans (by rw [wipe_wipe]), ?_⟩
      have gg := (g3.trans g4).trans g5
      cases q5 : mt E5 with
      | none =>
        simp only [q5] at q3
        cases q3
      | some p =>
        obtain ⟨b, E6⟩ := p
        simp only [q5] at q3
        refine ht R5 q5 _ fun μ6 Hd6 H6 g6 R6 => ?_
        cases b with
        | false =>
          show ∃ m', _
          refine ⟨ds.length - (i + 1), by omega, μ6, Hd6, E6, gg.trans g6, ⟨R6.wo, ?_⟩, rfl, by rw [hr]; exact q3⟩
          have := R6.sl.wipe own
          rw [w5, wipe_wipe] at this
          exact this
        | true =>
          show tk σ5 H6 _
          cases q6 : pairM mk mv E6 with
          | none =>
            simp only [q6] at q3
            cases q3
          | some p =>
            obtain ⟨⟨y, z⟩, E7⟩ := p
            simp only [q6] at q3
            obtain ⟨y', E8, e8, e9⟩ := bindM_some q6
            obtain ⟨u, E9, e10, e11⟩ := bindM_some e9
            obtain ⟨z', E10, e12, e13⟩ := bindM_some e11
            cases e13
            split at q3
            · rename_i kk ks es q7 q8
              split at q3
              · rename_i hz
                refine hkey R6 e8 _ fun μ7 Hd7 H7 w7 g7 R7 r7 => ?_
                refine hval R7 e10 _ fun μ8 Hd8 H8 w8 g8 R8 r8 => ?_
                obtain ⟨Hd9, g9, R9, r9⟩ := fzM_ok R8 r8 e12
                have gall := (((gg.trans g6).trans g7).trans g8).trans g9
                have hD8 := gall.pre _ _ hk
                obtain ⟨c1, o, c2, kvs, rfl, c3, c4⟩ := R9.wo.at_ _ _ _ q8 hD8 rfl
                have ey := keyV_ok r7 q7
                have hlen : kvs.length = ks.length := by rw [← c3, List.length_map]
                obtain ⟨p1, p2⟩ := kPut_ok (k := kk) r9 c4
                refine ⟨kvs, kk, ey, c2, by rw [hlen]; exact sz_lt hz, ds.length - (i + 1), by omega, μ8, Hd9, _, gall, ⟨?_, ?_⟩, rfl, by rw [hr]; exact q3⟩
                · rw [c3] at p1 p2
                  exact (R9.setX (c' := .dic (kPutN kk ks) (kPutD kk z ks es)) (o := .dK (putK kvs kk _)) q8 rfl hD8 ⟨_, rfl, p1, p2⟩).wo
                · have := R9.sl.wipe own
                  rw [w5, wipe_wipe] at this
                  exact this
              · cases q3
            · cases q3
theorem em_dcomp {own : List Nat} {wi : TI} {mi : M (List Dt)} {g : TG} {gm : Vl → En → Option En} {tt : TT} {mt : M Bool} {tk tv : TE} {mk mv : M Vl} (hi : IM K wi mi) (hg : GcM K own g gm) (ht : TM K tt mt) (hkey : EM K tk mk) (hval : EM K tv mv) : EM K (tDc wi g tt tk tv own) (dcompM own mi gm mt mk mv) := fun {μ Hd H σ E r E'} R e Q q => by
  unfold dcompM at e
  split at e
  · rename_i ds E1 q1
    split at e
    · rename_i E2 q2
      cases e
      exact hi R q1 _ fun μ1 Hd1 H1 J g1 R1 sv => dcomp_at hg ht hkey hval R1 sv q2 Q fun μ' Hd' H' v g2 R2 r2 => q μ' Hd' H' v (g1.trans g2) R2 r2
    · cases e
  · cases e
/-! ### over a dict -/
def constI (ds : List Dt) : M (List Dt) := fun E => some (ds, E)
def overK (ms : M Vl) (f : List Dt → M Vl) : M Vl := fun E => match ms E with
  | some (.d (.dic ks ds), _) => f (ks.map kD) E
  | some (.c k, _) => match E.ce[k]? with
    | some (.lkd ks ds) => f (ks.map kD) E
    | some (.dic ks ds) => match f (ks.map kD) ⟨E.sl, E.ce.set k (.lkd ks ds)⟩ with
      | some (r, E2) => (unE k E2).map fun E3 => (r, E3)
      | none => none
    | _ => none
  | _ => none
/-- a reading over an iterator that serves data does what f does -/
def AtM (K : PySem.W.Frag) (rd : It → TE) (f : List Dt → M Vl) : Prop := ∀ {μ : List Addr} {Hd H : Hp} {σ : L2.St} {E : En} {J : It} {ds : List Dt} {r : Vl} {E' : En}, Rl K μ Hd H σ E → Serves J K Hd ds → f ds E = some (r, E') → ∀ Q : VK,
  (∀ μ' Hd' H' v, Gr μ Hd μ' Hd' → Rl K μ' Hd' H' σ E' → Rv K μ' Hd' r v → Q v H') → rd J σ H Q
theorem atm_lc {own : List Nat} {g : TG} {gm : Vl → En → Option En} {tt : TT} {mt : M Bool} {te : TE} {m : M Vl} (hg : GcM K own g gm) (ht : TM K tt mt) (he : EM K te m) : AtM K (fun J => tLc (fun σ H R => R J H) g tt te own) (fun ds => compM own (constI ds) gm mt m) := fun {μ Hd H σ E J ds r E'} R sv e Q q => by
  unfold compM constI at e
  cases q2 : compL own E.ce.length gm mt m ds ⟨E.sl, E.ce ++ [.lst []]⟩ with
  | none =>
    simp only [q2] at e
    cases e
  | some E2 =>
    simp only [q2] at e
    cases e
    exact comp_at hg ht he R sv q2 Q q
theorem atm_dc {own : List Nat} {g : TG} {gm : Vl → En → Option En} {tt : TT} {mt : M Bool} {tk tv : TE} {mk mv : M Vl} (hg : GcM K own g gm) (ht : TM K tt mt) (hkey : EM K tk mk) (hval : EM K tv mv) : AtM K (fun J => tDc (fun σ H R => R J H) g tt tk tv own) (fun ds => dcompM own (constI ds) gm mt mk mv) := fun {μ Hd H σ E J ds r E'} R sv e Q q => by
  unfold dcompM constI at e
  cases q2 : dcL own E.ce.length gm mt mk mv ds ⟨E.sl, E.ce ++ [.dic [] []]⟩ with
  | none =>
    simp only [q2] at e
    cases e
  | some E2 =>
    simp only [q2] at e
    cases e
    exact dcomp_at hg ht hkey hval R sv q2 Q q
theorem over_run {td : TE} {ms : M Vl} {rd : It → TE} {f : List Dt → M Vl} (hs : Src K td ms) (hf : AtM K rd f) {μ : List Addr} {Hd H : Hp} {σ : L2.St} {E E' : En} {r : Vl} (R : Rl K μ Hd H σ E) (e : overK ms f E = some (r, E')) :
    (∃ a kvs, H a = some (.dK kvs) ∧ ∀ (od : Obj) (Q : VK), (∀ μ' Hd' H' v, H' a = some (.frz od (.dK kvs)) → Gr μ Hd μ' Hd' → Rl K μ' Hd' (upd H' a (.dK kvs)) σ E' → Rv K μ' Hd' r v → Q v H') → iKeys td σ (upd H a (.frz od (.dK kvs))) fun J H1 => rd J σ H1 Q) ∨
    (∀ Q : VK, (∀ μ' Hd' H' v, Gr μ Hd μ' Hd' → Rl K μ' Hd' H' σ E' → Rv K μ' Hd' r v → Q v H') → iKeys td σ H fun J H1 => rd J σ H1 Q) := by
  unfold overK at e
  split at e
  · rename_i ks ds E1 e1
    obtain ⟨_, v, h1, h2, h3⟩ := hs.st R e1
    obtain ⟨a, kvs, rfl, h4, rfl, h6⟩ := h1
    rcases h4 with h4 | ⟨o, h4⟩
    · refine .inl ⟨a, kvs, R.wo.ex a _ h4, fun od Q q => ?_⟩
      obtain ⟨sw, r1⟩ := sw_data (u' := .frz od (.dK kvs)) R h4 (.inl rfl) (.inr ⟨od, rfl⟩)
      refine h3 a od kvs _ (R.wo.ex a _ h4) ⟨a, od, rfl, .inl ⟨kvs, upd_same, hf r1 (serves_k (.inr upd_same)) e Q fun μ2 Hd2 H2 v g2 R2 r2 => ?_⟩⟩
      have q1 := g2.ex a _ upd_same
      obtain ⟨sw2, r3⟩ := sw_data (u' := .dK kvs) R2 q1 (.inr ⟨od, rfl⟩) (.inl rfl)
      exact q _ _ _ _ (R2.wo.ex a _ q1) (gr_dat g2 h4) r3 (Rv.sw sw2 r2)
    · exact .inr fun Q q => h2 _ ⟨a, o, rfl, .inl ⟨kvs, R.wo.ex a _ h4, hf R (serves_k (.inr h4)) e Q q⟩⟩
  · rename_i k E1 e1
    obtain ⟨_, v, h1, h2, h3⟩ := hs.st R e1
    obtain ⟨a, ha, rfl⟩ := h1
    split at e
    · rename_i ks ds e2
      obtain ⟨⟨od, kvs, w1, rfl, w3⟩, uq⟩ := R.wo.lk k a ks ds e2 ha
      exact .inr fun Q q => h2 _ ⟨a, od, rfl, .inl ⟨kvs, R.wo.ex a _ w1, hf R (serves_k (.inl w1)) e Q q⟩⟩
    · rename_i ks ds e2
      split at e
      · rename_i r0 E2 e3
        obtain ⟨E3, eu, e4⟩ := Option.map_eq_some_iff.mp e
        cases e4
        obtain ⟨kvs, w1, rfl, w3, lk⟩ := lock_cell (sl := E.sl) (ce := E.ce) R e2 ha
        refine .inl ⟨a, kvs, w1, fun od Q q => ?_⟩
        obtain ⟨g1, r1⟩ := lk od
        have hn : Hd a = none := (R.wo.at_ k _ a e2 ha rfl).1
        refine h3 a od kvs _ w1 ⟨a, od, rfl, .inl ⟨kvs, upd_same, hf r1 (serves_k (.inl upd_same)) e3 Q fun μ2 Hd2 H2 v g2 R2 r2 => ?_⟩⟩
        have q1 := g2.ex a _ upd_same
        obtain ⟨s1, s2, s3⟩ := unE_ok R2 (g2.pre _ _ ha) q1 eu
        exact q _ _ _ _ s2 (gr_del g2 hn) s3 (Rv.sw s1 r2)
      · cases e
    · cases e
  · cases e
def tOrE (t : TE) : TE := fun σ H Q => tLockE t σ H Q ∨ t σ H Q
end
section
variable {X : Cx} {elt kx vx tg iter e : Expr} {ifs : List Expr} {te td tk tv : TE} {m ms mk mv : M Vl} {pos spos py : Pos} {scope : Scope} {own : List (Str × Nat)} {g : TG} {gm : Vl → En → Option En} {tt : TT} {mt : M Bool}
theorem pe_or {t u : TE} (h : PE X e t) (k : PE X e u) : PE X e (fun σ H Q => t σ H Q ∨ u σ H Q) := ⟨fun pins s σ H Q I q => q.elim (h.run pins s σ H Q I) (k.run pins s σ H Q I)⟩
/-- [e for x in d] -/
theorem xcompK (hc : X.calm = true) (hN : X.N.Nodup) (hd : PE X iter td) (hsr : Src X.K td ms) (ok : BlkOk X.N X.env.scope scope own)
    (hg : ∀ (s : Shared) (H : Hp) (C : Addr) (cl : List (Str × Addr)) (fp : List Addr), Gc (X.blk s H scope (compEnvC scope cl C X.env) fp) (own.map (·.2)) tg g gm)
    (ht : ∀ (s : Shared) (H : Hp) (C : Addr) (cl : List (Str × Addr)) (fp : List Addr), Px (X.blk s H scope (compEnvC scope cl C X.env) fp) ifs tt mt)
    (he : ∀ (s : Shared) (H : Hp) (C : Addr) (cl : List (Str × Addr)) (fp : List Addr), Ex_ (X.blk s H scope (compEnvC scope cl C X.env) fp) elt te m) (hs : ∀ x, foldedSetIterable iter X.env x = pure x := by intro _; rfl) :
    Ex_ X (.ListComp elt [⟨tg, iter, ifs, 0⟩] scope pos) (tOrE (tLc (iKeys td) g tt te (own.map (·.2)))) (overK ms fun ds => compM (own.map (·.2)) (constI ds) gm mt m) := by
  have p := pe_lc (pos := pos) hc hN (pi_keys (tg := tg) hd) ok (fun s H C cl fp => (hg s H C cl fp).pg) (fun s H C cl fp => (ht s H C cl fp).pt) (fun s H C cl fp => (he s H C cl fp).pe) hs
  refine ⟨pe_or (pe_lock p) p, fun {μ Hd H σ E r E'} R q Q k => ?_⟩
  rcases over_run hsr (atm_lc (hg X.s_0 X.H_0 0 [] []).gm (ht X.s_0 X.H_0 0 [] []).tm (he X.s_0 X.H_0 0 [] []).em) R q with ⟨a, kvs, h1, h2⟩ | h2
  · exact .inl ⟨a, .dK kvs, h1, True.intro, fun od => h2 od (fun v H' => H' a = some (.frz od (.dK kvs)) ∧ Q v (upd H' a (.dK kvs))) fun μ' Hd' H' v f1 f2 f3 f4 => ⟨f1, k _ _ _ _ f2 f3 f4⟩⟩
  · exact .inr (h2 Q k)
/-- name = [e for x in d] -/
theorem ssetCK (i : Nat) {y : Str} (hc : X.calm = true) (hN : X.N.Nodup) (hy : X.N[i]? = some y) (hyl : X.env.scope.names.lookup y = some .local)
    (hsw : swapsWith (.ListComp elt [⟨tg, iter, ifs, 0⟩] scope pos) (some (.Name y py)) spos.line X.env = pure true) (hd : PE X iter td) (hsr : Src X.K td ms) (ok : BlkOk X.N X.env.scope scope own)
    (hg : ∀ (s : Shared) (H : Hp) (C : Addr) (cl : List (Str × Addr)) (fp : List Addr), Gc (X.blk s H scope (compEnvC scope cl C X.env) fp) (own.map (·.2)) tg g gm)
    (ht : ∀ (s : Shared) (H : Hp) (C : Addr) (cl : List (Str × Addr)) (fp : List Addr), Px (X.blk s H scope (compEnvC scope cl C X.env) fp) ifs tt mt)
    (he : ∀ (s : Shared) (H : Hp) (C : Addr) (cl : List (Str × Addr)) (fp : List Addr), Ex_ (X.blk s H scope (compEnvC scope cl C X.env) fp) elt te m) (hs : ∀ x, foldedSetIterable iter X.env x = pure x := by intro _; rfl) :
    Sx X (.Assign [.Name y py] (.ListComp elt [⟨tg, iter, ifs, 0⟩] scope pos) spos) (tOrL (tAsg (tLc (iKeys td) g tt te (own.map (·.2))) (gName i))) (setS i (overK ms fun ds => compM (own.map (·.2)) (constI ds) gm mt m)) := by
  have p := ps_setLc (py := py) hc hN hy hyl hsw (pi_keys (tg := tg) hd) ok (fun s H C cl fp => (hg s H C cl fp).pg) (fun s H C cl fp => (ht s H C cl fp).pt) (fun s H C cl fp => (he s H C cl fp).pe) hs
  refine ⟨ps_or (ps_lock p) p, fun {μ Hd H σ E R} r q D d => ?_⟩
  unfold setS at q
  split at q
  · rename_i r0 E1 e1
    cases q
    rcases over_run hsr (atm_lc (hg X.s_0 X.H_0 0 [] []).gm (ht X.s_0 X.H_0 0 [] []).tm (he X.s_0 X.H_0 0 [] []).em) r e1 with ⟨a, kvs, h1, h2⟩ | h2
    · exact .inl ⟨a, .dK kvs, h1, True.intro, fun od => h2 od (fun v H' => H' a = some (.frz od (.dK kvs)) ∧ D.nx (σ.set i (some v)) (upd H' a (.dK kvs))) fun μ' Hd' H' v f1 f2 f3 f4 => ⟨f1, d _ _ _ _ f2 (f3.setE i f4)⟩⟩
    · exact .inr (h2 (fun v H' => D.nx (σ.set i (some v)) H') fun μ' Hd' H' v f2 f3 f4 => d _ _ _ _ f2 (f3.setE i f4))
  · cases q
/-- {k: v for ..} -/
theorem xdcomp {wi : TI} {mi : M (List Dt)} (hc : X.calm = true) (hN : X.N.Nodup) (hi : Ix_ X tg iter wi mi) (ok : BlkOk X.N X.env.scope scope own)
    (hg : ∀ (s : Shared) (H : Hp) (C : Addr) (cl : List (Str × Addr)) (fp : List Addr), Gc (X.blk s H scope (compEnvC scope cl C X.env) fp) (own.map (·.2)) tg g gm)
    (ht : ∀ (s : Shared) (H : Hp) (C : Addr) (cl : List (Str × Addr)) (fp : List Addr), Px (X.blk s H scope (compEnvC scope cl C X.env) fp) ifs tt mt)
    (hk : ∀ (s : Shared) (H : Hp) (C : Addr) (cl : List (Str × Addr)) (fp : List Addr), Ex_ (X.blk s H scope (compEnvC scope cl C X.env) fp) kx tk mk)
    (hv : ∀ (s : Shared) (H : Hp) (C : Addr) (cl : List (Str × Addr)) (fp : List Addr), Ex_ (X.blk s H scope (compEnvC scope cl C X.env) fp) vx tv mv) (hs : ∀ x, foldedSetIterable iter X.env x = pure x := by intro _; rfl) :
    Ex_ X (.DictComp kx vx [⟨tg, iter, ifs, 0⟩] scope pos) (tDc wi g tt tk tv (own.map (·.2))) (dcompM (own.map (·.2)) mi gm mt mk mv) :=
  ⟨pe_dc hc hN hi.pi ok (fun s H C cl fp => (hg s H C cl fp).pg) (fun s H C cl fp => (ht s H C cl fp).pt) (fun s H C cl fp => (hk s H C cl fp).pe) (fun s H C cl fp => (hv s H C cl fp).pe) hs,
   em_dcomp hi.im (hg X.s_0 X.H_0 0 [] []).gm (ht X.s_0 X.H_0 0 [] []).tm (hk X.s_0 X.H_0 0 [] []).em (hv X.s_0 X.H_0 0 [] []).em⟩
/-- {k: v for x in d} -/
theorem xdcompK (hc : X.calm = true) (hN : X.N.Nodup) (hd : PE X iter td) (hsr : Src X.K td ms) (ok : BlkOk X.N X.env.scope scope own)
    (hg : ∀ (s : Shared) (H : Hp) (C : Addr) (cl : List (Str × Addr)) (fp : List Addr), Gc (X.blk s H scope (compEnvC scope cl C X.env) fp) (own.map (·.2)) tg g gm)
    (ht : ∀ (s : Shared) (H : Hp) (C : Addr) (cl : List (Str × Addr)) (fp : List Addr), Px (X.blk s H scope (compEnvC scope cl C X.env) fp) ifs tt mt)
    (hk : ∀ (s : Shared) (H : Hp) (C : Addr) (cl : List (Str × Addr)) (fp : List Addr), Ex_ (X.blk s H scope (compEnvC scope cl C X.env) fp) kx tk mk)
    (hv : ∀ (s : Shared) (H : Hp) (C : Addr) (cl : List (Str × Addr)) (fp : List Addr), Ex_ (X.blk s H scope (compEnvC scope cl C X.env) fp) vx tv mv) (hs : ∀ x, foldedSetIterable iter X.env x = pure x := by intro _; rfl) :
    Ex_ X (.DictComp kx vx [⟨tg, iter, ifs, 0⟩] scope pos) (tOrE (tDc (iKeys td) g tt tk tv (own.map (·.2)))) (overK ms fun ds => dcompM (own.map (·.2)) (constI ds) gm mt mk mv) := by
  have p := pe_dc (pos := pos) hc hN (pi_keys (tg := tg) hd) ok (fun s H C cl fp => (hg s H C cl fp).pg) (fun s H C cl fp => (ht s H C cl fp).pt) (fun s H C cl fp => (hk s H C cl fp).pe) (fun s H C cl fp => (hv s H C cl fp).pe) hs
  refine ⟨pe_or (pe_lock p) p, fun {μ Hd H σ E r E'} R q Q k => ?_⟩
  rcases over_run hsr (atm_dc (hg X.s_0 X.H_0 0 [] []).gm (ht X.s_0 X.H_0 0 [] []).tm (hk X.s_0 X.H_0 0 [] []).em (hv X.s_0 X.H_0 0 [] []).em) R q with ⟨a, kvs, h1, h2⟩ | h2
  · exact .inl ⟨a, .dK kvs, h1, True.intro, fun od => h2 od (fun v H' => H' a = some (.frz od (.dK kvs)) ∧ Q v (upd H' a (.dK kvs))) fun μ' Hd' H' v f1 f2 f3 f4 => ⟨f1, k _ _ _ _ f2 f3 f4⟩⟩
  · exact .inr (h2 Q k)
end
end Hk
/-! Hk18: stores into dicts, empty dicts, dicts of instances gone through, sorted keys and texts. -/
namespace Hk
open PySem PySem.Spec PyProof.Rows L2 Evl
/-! ### texts in order -/
def leS (a b : Str) : Bool := !ltCps b.cps.toList a.cps.toList
theorem leS_iff {a b : Str} : leS a b = true ↔ ¬ b.cps.toList < a.cps.toList := by
  unfold leS
  rw [ltCps_eq]
  simp
theorem leS_trans {a b c : Str} (h1 : leS a b = true) (h2 : leS b c = true) : leS a c = true := by
  rw [leS_iff] at *
  exact List.le_trans (l₁ := a.cps.toList) (l₂ := b.cps.toList) h1 h2
theorem leS_total (a b : Str) : (leS a b || leS b a) = true := by
  rw [Bool.or_eq_true, leS_iff, leS_iff]
  rcases List.le_total a.cps.toList b.cps.toList with h | h
  · exact .inl h
  · exact .inr h
theorem leS_anti {a b : Str} (h1 : leS a b = true) (h2 : leS b a = true) : a = b := by
  rw [leS_iff] at *
  have := List.le_antisymm (as := a.cps.toList) (bs := b.cps.toList) h1 h2
  exact Str.ext' (Array.toList_inj.mp this)
def sortS (l : List Str) : List Str := l.mergeSort leS
theorem sortS_perm (l : List Str) : (sortS l).Perm l := List.mergeSort_perm l leS
theorem sortS_le (l : List Str) : (sortS l).Pairwise (fun a b => leS a b = true) := List.pairwise_mergeSort (le := leS) (fun _ _ _ h1 h2 => leS_trans h1 h2) leS_total l
theorem rising_le : ∀ (p : Str) (l : List Str), risingS p l = true → (p :: l).Pairwise (fun a b => leS a b = true)
  | p, [], _ => List.pairwise_singleton _ _
  | p, x :: r, h => by
    have h' : leS p x = true ∧ risingS x r = true := by
      have : (leS p x && risingS x r) = true := h
      exact Bool.and_eq_true_iff.mp this
    have ih := rising_le x r h'.2
    refine List.pairwise_cons.mpr ⟨fun y hy => ?_, ih⟩
    rcases List.mem_cons.mp hy with rfl | hy
    · exact h'.1
    · exact leS_trans h'.1 ((List.pairwise_cons.mp ih).1 y hy)
theorem sorted_le (l : List Str) (h : sortedS l = true) : l.Pairwise (fun a b => leS a b = true) := by
  cases l with
  | nil => exact .nil
  | cons x r => exact rising_le x r h
theorem le_unique : ∀ (l m : List Str), l.Perm m → l.Pairwise (fun a b => leS a b = true) → m.Pairwise (fun a b => leS a b = true) → l = m
  | [], m, hp, _, _ => hp.nil_eq
  | x :: l, [], hp, _, _ => hp.symm.nil_eq.symm
  | x :: l, y :: m, hp, h1, h2 => by
    have e : x = y := by
      have hx : x ∈ y :: m := hp.subset (List.mem_cons_self ..)
      have hy : y ∈ x :: l := hp.symm.subset (List.mem_cons_self ..)
      rcases List.mem_cons.mp hx with e | hx
      · exact e
      · rcases List.mem_cons.mp hy with e | hy
        · exact e.symm
        · exact leS_anti ((List.pairwise_cons.mp h1).1 y hy) ((List.pairwise_cons.mp h2).1 x hx)
    subst e
    rw [le_unique l m hp.cons_inv (List.pairwise_cons.mp h1).2 (List.pairwise_cons.mp h2).2]
theorem sort_unique {ys l : List Str} (hp : ys.Perm l) (h : sortedS ys = true) : ys = sortS l :=
  le_unique _ _ (hp.trans (sortS_perm l).symm) (sorted_le _ h) (sortS_le l)
theorem sortS_id {l : List Str} (h : l.Pairwise (fun a b => leS a b = true)) : sortS l = l := le_unique _ _ (sortS_perm l) (sortS_le l) h
/-! ### sorted -/
def rSortedDU : List V → Hp → VK → Prop := fun xs H Q => ∃ (a : Addr) (kvs : List (Key × V)) (ks : List Str), xs = [.ref a] ∧ Rd H a (.dK kvs) ∧ kvs.map (·.1) = ks.map Sum.inr ∧ ks.length < 64 ∧
    ∀ ys p, ys.Perm ks → sortedS ys = true → H p = none → Q (.ref p) (upd H p (.lst (ys.map V.str)))
theorem call_sortedDU {X : Cx} (h : X.calm = true) : CallR X (.builtin "sorted") rSortedDU := call_sortedD h
def texts : List Key → Option (List Str)
  | [] => some []
  | .inr s :: r => (texts r).map (s :: ·)
  | .inl _ :: _ => none
theorem texts_ok : ∀ {ks : List Key} {ss : List Str}, texts ks = some ss → ks = ss.map Sum.inr
  | [], ss, h => by cases h; rfl
  | .inr s :: r, ss, h => by
    obtain ⟨t, h1, rfl⟩ := Option.map_eq_some_iff.mp h
    rw [texts_ok h1]; rfl
  | .inl _ :: _, _, h => by cases h
def sortDF : List Vl → M Vl := fun xs E => match xs with
  | [x] => match (seeK E.ce x).bind fun p => texts p.1 with
    | some ss => if ss.length < 64 then newL ((sortS ss).map .str) E else none
    | none => none
  | _ => none
theorem rp_strV {K : PySem.W.Frag} {H : Hp} : ∀ l : List Str, RpA K H (l.map Dt.str) (l.map V.str)
  | [] => rfl
  | s :: l => ⟨.str s, l.map V.str, rfl, rfl, rp_strV l⟩
theorem cm_sortD {K : PySem.W.Frag} : CM K rSortedDU sortDF := fun {μ Hd H σ E xs vs z E'} R hx e Q q => by
  unfold sortDF at e
  split at e
  · rename_i x
    split at e
    · rename_i ss e1
      split at e
      · rename_i hl
        obtain ⟨v, rfl, h1⟩ := hx.one
        obtain ⟨⟨ks, ds⟩, e2, e3⟩ := Option.bind_eq_some_iff.mp e1
        obtain ⟨a, kvs, rfl, h2, h3, h4⟩ := seeK_ok R.wo h1 e2
        refine ⟨a, kvs, ss, rfl, h2, by rw [h3]; exact texts_ok e3, hl, fun ys p hp hs hn => ?_⟩
        rw [sort_unique hp hs]
        obtain ⟨g, R', r'⟩ := newL_ok R (rp_strV _) e hn
        exact q _ _ _ _ g R' r'
      · cases e
    · cases e
  · cases e
def strsD : List Dt → Option (List Str)
  | [] => some []
  | .str s :: r => (strsD r).map (s :: ·)
  | _ :: _ => none
theorem strsD_ok : ∀ {ds : List Dt} {ss : List Str}, strsD ds = some ss → ds = ss.map Dt.str
  | [], ss, h => by cases h; rfl
  | d :: r, ss, h => by
    cases d with
    | str s =>
      obtain ⟨t, h1, rfl⟩ := Option.map_eq_some_iff.mp h
      rw [strsD_ok h1]; rfl
    | _ => cases h
def sortLF : List Vl → M Vl := fun xs E => match xs with
  | [x] => match see E.ce x with
    | some (.lst ds) => match strsD ds with
      | some ss => if ss.length < 64 then newL ((sortS ss).map .str) E else none
      | none => none
    | some (.sq ds) => match strsD ds with
      | some ss => if ss.length < 64 then newL ((sortS ss).map .str) E else none
      | none => none
    | _ => none
  | _ => none
theorem strs_rp {K : PySem.W.Frag} {H : Hp} : ∀ {l : List Str} {vs : List V}, RpA K H (l.map Dt.str) vs → vs = l.map V.str
  | [], vs, h => h
  | s :: l, vs, h => by
    obtain ⟨x, r, rfl, h1, h2⟩ := h
    rw [strs_rp h2]
    cases (show x = .str s from h1)
    rfl
theorem cm_sortL {K : PySem.W.Frag} : CM K (rSortedS K) sortLF := fun {μ Hd H σ E xs vs z E'} R hx e Q q => by
  have go : ∀ {x : Vl} {ds : List Dt} {ss : List Str}, (see E.ce x = some (.lst ds) ∨ see E.ce x = some (.sq ds)) → RvA K μ Hd [x] vs → strsD ds = some ss → ss.length < 64 → newL ((sortS ss).map .str) E = some (z, E') → rSortedS K vs H Q := fun {x ds ss} hs hx e2 hl e => by
    obtain ⟨v, rfl, h1⟩ := hx.one
    obtain ⟨a, us, rfl, h2, h3⟩ : ∃ a us, v = .ref a ∧ SqL K H a us ∧ RpA K Hd ds us := by
      rcases hs with hs | hs
      · obtain ⟨a, us, h1, h2, h3⟩ := see_lst R.wo h1 hs
        exact ⟨a, us, h1, .inl (.inl h2), h3⟩
      · exact see_sq R.wo h1 hs
    rw [strsD_ok e2] at h3
    have hu := strs_rp h3
    subst hu
    refine ⟨a, ss, rfl, h2, hl, fun ys p hp hy hn => ?_⟩
    rw [sort_unique hp hy]
    obtain ⟨g, R', r'⟩ := newL_ok R (rp_strV _) e hn
    exact q _ _ _ _ g R' r'
  unfold sortLF at e
  split at e
  · split at e
    · split at e
      · split at e
        · exact go (.inl ‹_›) hx ‹_› ‹_› e
        · cases e
      · cases e
    · split at e
      · split at e
        · exact go (.inr ‹_›) hx ‹_› ‹_› e
        · cases e
      · cases e
    · cases e
  · cases e
/-! ### stores, empty dicts, dicts of instances -/
section
variable {X : Cx} {e o i : Expr} {te to ti td : TE} {m mo mi ms : M Vl} {pos p3 : Pos}
def setDS (m mo mi : M Vl) : En → Option Rs := fun E => match (bindM m fun r => bindM mo fun o => bindM mi fun i => bindM (fzM r) fun d => fun E5 => match o, keyV i with
    | .c k, some kk => match E5.ce[k]? with
      | some (.dic ks es) => if ks.length < 100000 then some (Vl.d .non, ⟨E5.sl, E5.ce.set k (.dic (kPutN kk ks) (kPutD kk d ks es))⟩) else none
      | _ => none
    | _, _ => none) E with
  | some (_, E1) => some (.nx E1)
  | none => none
theorem ssetD (h : Ex_ X e te m) (ho : Ex_ X o to mo) (hi : Ex_ X i ti mi) (pg : PG X (.Subscript o i p3) (gSub to ti rSetD))
    (hs : swapsWithSole [.Subscript o i p3] e pos.line X.env = pure false := by rfl) (hw : swappedStores [.Subscript o i p3] e X.env = pure none := by rfl) (h1 : (assignEach [.Subscript o i p3] X.env).map (·.2) = [assign (.Subscript o i p3) X.env] := by rfl) :
    Sx X (.Assign [.Subscript o i p3] e pos) (tAsg te (gSub to ti rSetD)) (setDS m mo mi) := ⟨ps_asg h.pe pg hs hw h1, fun {μ Hd H σ E R} r q D d => by
  unfold setDS at q
  split at q
  · rename_i u E1 e1
    cases q
    obtain ⟨x, E2, e2, e1⟩ := bindM_some e1
    obtain ⟨y, E3, e3, e1⟩ := bindM_some e1
    obtain ⟨z, E4, e4, e1⟩ := bindM_some e1
    obtain ⟨dd, E5, e5, e1⟩ := bindM_some e1
    refine h.em r e2 _ fun μ1 Hd1 H1 v g1 R1 r1 => ?_
    refine ho.em R1 e3 _ fun μ2 Hd2 H2 w g2 R2 r2 => ?_
    refine hi.em R2 e4 _ fun μ3 Hd3 H3 w3 g3 R3 r3 => ?_
    obtain ⟨Hd4, g4, R4, r4⟩ := fzM_ok R3 (Rv.gr (g2.trans g3) r1) e5
    split at e1
    · rename_i k kk q1 _ _
      split at e1
      · rename_i ks es q2
        split at e1
        · rename_i hz
          cases e1
          obtain ⟨a, ha, rfl⟩ := Rv.gr (g3.trans g4) r2
          obtain ⟨c1, ob, c2, kvs, rfl, c3, c4⟩ := R4.wo.at_ _ _ _ q2 ha rfl
          have ey := keyV_ok r3 q1
          have hlen : kvs.length = ks.length := by rw [← c3, List.length_map]
          obtain ⟨p1, p2⟩ := kPut_ok (k := kk) r4 c4
          rw [c3] at p1 p2
          subst ey
          exact ⟨a, _, rfl, .k c2 (by rw [hlen]; exact sz_lt hz), d _ _ _ _ (((g1.trans g2).trans g3).trans g4) (R4.setX (c' := .dic (kPutN kk ks) (kPutD kk dd ks es)) (o := .dK (putK kvs kk _)) q2 rfl ha ⟨_, rfl, p1, p2⟩)⟩
        · cases e1
      · cases e1
    · cases e1
  · cases q⟩
def dnM : M Vl := fun E => some (.c E.ce.length, ⟨E.sl, E.ce ++ [.dic [] []]⟩)
theorem xdn : Ex_ X (.Dict [] [] pos) tDNewK dnM := ⟨pe_dnewK, fun {μ Hd H σ E z E'} R e Q q p hp => by
  cases e
  obtain ⟨g0, R0, r0⟩ := R.newX (c := .dic [] []) (o := .dK []) hp ⟨[], rfl, rfl, (rfl : ([] : List V) = [])⟩
  exact q _ _ _ _ g0 R0 r0⟩
theorem src_fld {K : PySem.W.Frag} {C f : Str} (c : Cls K (clA K C)) (n : NoAttr K (clA K C) f) (hs : Src K td ms) : Src K (tFld K td f) (fldM C f ms) := ⟨fun {μ Hd H σ E r E'} R q => by
  obtain ⟨x, E1, e1, e2⟩ := bindM_some q
  obtain ⟨y, d, e3, e4, rfl, rfl⟩ := seeF_some e2
  obtain ⟨ns, ds, rfl, e5⟩ := fldD_some e4
  obtain ⟨rfl, v, h1, h2, h3⟩ := hs.st R e1
  obtain ⟨a, dx, fs, rfl, h5, rfl, h6⟩ := see_obj R.wo h1 e3
  obtain ⟨u, h7, h8⟩ := look_ok h6 e5
  refine ⟨rfl, u, h8, fun Q k => h2 _ ⟨a, _, dx, fs, u, rfl, h5, c, n, h7, k⟩, fun b od kvs Q hb k => h3 b od kvs _ hb ⟨a, _, dx, fs, u, rfl, ?_, c, n, h7, k⟩⟩
  have nb : a ≠ b := fun z => by
    subst z
    rw [h5] at hb
    cases hb
  rw [upd_ne nb]
  exact h5⟩
end
end Hk
/-! Hk19: zip and enumerate. -/
namespace Hk
open PySem PySem.Spec PyProof.Rows L2 Evl
def lstD : Dt → Option (List Dt)
  | .lst xs => some xs
  | .sq xs => some xs
  | _ => none
def tupD : Dt → Option (List Dt)
  | .tup xs => some xs
  | _ => none
theorem sql_of {K : PySem.W.Frag} {H : Hp} {a : Addr} {xs : List V} (h : H a = some (.lst xs)) : SqL K H a xs := .inl (.inl h)
theorem sqt_of {K : PySem.W.Frag} {H : Hp} {a : Addr} {xs : List V} (h : H a = some (.tup xs)) : SqT K H a xs := .inl (.inl h)
theorem lstD_ok {K : PySem.W.Frag} {H : Hp} {d : Dt} {v : V} {xs : List Dt} (h : lstD d = some xs) (r : Rp K H d v) : ∃ a vs, v = .ref a ∧ SqL K H a vs ∧ RpA K H xs vs := by
  cases d with
  | lst ys =>
    cases h
    obtain ⟨a, vs, h1, h2, h3⟩ := r
    exact ⟨a, vs, h1, sql_of h2, h3⟩
  | sq ys =>
    cases h
    exact r
  | _ => cases h
theorem tupD_ok {K : PySem.W.Frag} {H : Hp} {d : Dt} {v : V} {xs : List Dt} (h : tupD d = some xs) (r : Rp K H d v) : ∃ a vs, v = .ref a ∧ SqT K H a vs ∧ RpA K H xs vs := by
  cases d with
  | tup ys =>
    cases h
    exact r
  | _ => cases h
theorem exl {K : PySem.W.Frag} {H H' : Hp} {a : Addr} {xs : List V} (e : Ex H H') (h : SqL K H a xs) : SqL K H' a xs := by
  rcases h with (h | ⟨o, h⟩) | h
  · exact .inl (.inl (e a _ h))
  · exact .inl (.inr ⟨o, e a _ h⟩)
  · exact .inr h
theorem ext {K : PySem.W.Frag} {H H' : Hp} {a : Addr} {xs : List V} (e : Ex H H') (h : SqT K H a xs) : SqT K H' a xs := by
  rcases h with (h | ⟨o, h⟩) | h
  · exact .inl (.inl (e a _ h))
  · exact .inl (.inr ⟨o, e a _ h⟩)
  · exact .inr h
/-- a new tuple of two -/
theorem pair_new {K : PySem.W.Frag} {Hd H : Hp} {T : Addr} {x y : V} {d c : Dt} (e : ExS Hd H) (hT : H T = none) (h1 : Rp K Hd d x) (h2 : Rp K Hd c y) :
    Rp K (upd Hd T (.tup [x, y])) (.tup [d, c]) (.ref T) := by
  have n : Hd T = none := by
    cases q : Hd T with
    | none => rfl
    | some u =>
      have := e T u q
      rw [hT] at this
      cases this
  have ee : Ex Hd (upd Hd T (.tup [x, y])) := fun b u q => by
    by_cases hb : b = T
    · subst hb
      rw [n] at q
      cases q
    · rw [upd_ne hb]
      exact q
  exact ⟨T, [x, y], rfl, sqt_of upd_same, x, [y], rfl, Rp.ex ee _ _ h1, y, [], rfl, Rp.ex ee _ _ h2, rfl⟩
def zipD (ds es : List Dt) : List Dt := List.zipWith (fun d c => .tup [d, c]) ds es
theorem zipD_at {ds es : List Dt} {i : Nat} {d : Dt} (h : (zipD ds es)[i]? = some d) : ∃ x y, ds[i]? = some x ∧ es[i]? = some y ∧ d = .tup [x, y] := by
  unfold zipD at h
  rw [List.getElem?_zipWith] at h
  cases h1 : ds[i]? with
  | none =>
    rw [h1] at h
    cases h
  | some x =>
    cases h2 : es[i]? with
    | none =>
      rw [h1, h2] at h
      cases h
    | some y =>
      rw [h1, h2] at h
      cases h
      exact ⟨x, y, rfl, rfl, rfl⟩
theorem zipD_len {ds es : List Dt} {i : Nat} (h : (zipD ds es).length ≤ i) : ds.length ≤ i ∨ es.length ≤ i := by
  unfold zipD at h
  rw [List.length_zipWith] at h
  omega
theorem serves_z {K : PySem.W.Frag} {Hd : Hp} {a b : Addr} {ds es : List Dt} {us vs : List V} (h1 : SqL K Hd a us) (r1 : RpA K Hd ds us) (h2 : SqL K Hd b vs) (r2 : RpA K Hd es vs) : Serves (Itz K a b) K Hd (zipD ds es) := fun Hd1 H1 i e1 e2 => by
  have g1 := exs_l e2 (exl e1 h1)
  have g2 := exs_l e2 (exl e1 h2)
  refine ⟨fun q => ⟨us, vs, g1, g2, by rw [r1.len, r2.len]; exact zipD_len q⟩, fun d q => ?_⟩
  obtain ⟨x, y, q1, q2, rfl⟩ := zipD_at q
  obtain ⟨u, w1, w2⟩ := RpA.at r1 q1
  obtain ⟨v, w3, w4⟩ := RpA.at r2 q2
  refine ⟨⟨us, vs, u, v, g1, g2, w1, w3⟩, fun z H' ⟨T, u', v', z1, z2, z3, z4, z5⟩ => ?_⟩
  cases Option.some.inj ((z4 us g1).symm.trans w1)
  cases Option.some.inj ((z5 vs g2).symm.trans w3)
  subst z1
  exact ⟨_, .inr ⟨T, _, z2, rfl, z3, rfl⟩, pair_new e2 z2 (Rp.ex e1 _ _ w2) (Rp.ex e1 _ _ w4)⟩
theorem serves_zt {K : PySem.W.Frag} {Hd : Hp} {a b : Addr} {ds es : List Dt} {us vs : List V} (h1 : SqT K Hd a us) (r1 : RpA K Hd ds us) (h2 : SqT K Hd b vs) (r2 : RpA K Hd es vs) : Serves (RZ.ItzT K a b) K Hd (zipD ds es) := fun Hd1 H1 i e1 e2 => by
  have g1 := exs_t e2 (ext e1 h1)
  have g2 := exs_t e2 (ext e1 h2)
  refine ⟨fun q => ⟨us, vs, g1, g2, by rw [r1.len, r2.len]; exact zipD_len q⟩, fun d q => ?_⟩
  obtain ⟨x, y, q1, q2, rfl⟩ := zipD_at q
  obtain ⟨u, w1, w2⟩ := RpA.at r1 q1
  obtain ⟨v, w3, w4⟩ := RpA.at r2 q2
  refine ⟨⟨us, vs, u, v, g1, g2, w1, w3⟩, fun z H' ⟨T, u', v', z1, z2, z3, z4, z5⟩ => ?_⟩
  cases Option.some.inj ((z4 us g1).symm.trans w1)
  cases Option.some.inj ((z5 vs g2).symm.trans w3)
  subst z1
  exact ⟨_, .inr ⟨T, _, z2, rfl, z3, rfl⟩, pair_new e2 z2 (Rp.ex e1 _ _ w2) (Rp.ex e1 _ _ w4)⟩
/-- two lists, or two tuples -/
def zipF (d c : Dt) : Option (List Dt) := match lstD d, lstD c with
  | some xs, some ys => some (zipD xs ys)
  | _, _ => match tupD d, tupD c with
    | some xs, some ys => some (zipD xs ys)
    | _, _ => none
def zipM (m : M (List Vl)) : M (List Dt) := bindM m fun rs => match rs with
  | [x, y] => bindM (fzM x) fun d => bindM (fzM y) fun c => fun E => (zipF d c).map fun l => (l, E)
  | _ => failM
def enD (ds : List Dt) : List Dt := zipD (rngL 0 ds.length) ds
def enumM (m : M (List Vl)) : M (List Dt) := bindM m fun rs => match rs with
  | [x] => bindM (fzM x) fun d => fun E => (lstD d).map fun l => (enD l, E)
  | _ => failM
theorem serves_e {K : PySem.W.Frag} {Hd : Hp} {a : Addr} {ds : List Dt} {us : List V} (h1 : SqL K Hd a us) (r1 : RpA K Hd ds us) : Serves (Ite K a) K Hd (enD ds) := fun Hd1 H1 i e1 e2 => by
  have g1 := exs_l e2 (exl e1 h1)
  refine ⟨fun q => ⟨us, g1, ?_⟩, fun d q => ?_⟩
  · rw [r1.len]
    rcases zipD_len q with h | h
    · simpa [rngL] using h
    · exact h
  obtain ⟨x, y, q1, q2, rfl⟩ := zipD_at q
  obtain ⟨v, w3, w4⟩ := RpA.at r1 q2
  have ex : x = .int (i : Int) := by
    have hi : i < ds.length := (List.getElem?_eq_some_iff.mp q2).1
    unfold rngL at q1
    rw [List.getElem?_map, List.getElem?_range hi] at q1
    have := (Option.some.inj q1).symm
    rw [this]
    simp
  subst ex
  refine ⟨⟨us, v, g1, w3⟩, fun z H' ⟨T, v', z1, z2, z3, z5⟩ => ?_⟩
  cases Option.some.inj ((z5 us g1).symm.trans w3)
  subst z1
  exact ⟨_, .inr ⟨T, _, z2, rfl, z3, rfl⟩, pair_new e2 z2 (rfl : Rp K Hd1 (.int (i : Int)) (.int (i : Nat))) (Rp.ex e1 _ _ w4)⟩
section
variable {X : Cx} {a b : Expr} {es : List Expr} {tes : TA} {mes : M (List Vl)} {pos : Pos}
theorem izip {elts : List Expr} {kk : Nat} {p tpos : Pos} (hm : X.mg "zip" = none) (ha : Ax X [a, b] tes mes) (hg : Gl X "zip" := by rfl) (hs : starEach [a, b] X.env = (false, eval a X.env) :: starEach [b] X.env := by rfl) (hpl : (backTo pos (starEach [b] X.env)).any (·.1) = false := by rfl) :
    Ix_ X (.Tuple elts kk tpos) (.Call (.Name "zip" p) [a, b] [] pos) (RZ.iZipA X.K tes) (zipM mes) := ⟨RZ.pi_zipA hg hm ha.pa hs hpl, fun {μ Hd H σ E ds E'} R e Q q => by
  obtain ⟨rs, E1, e1, e2⟩ := bindM_some e
  refine ha.am R e1 _ fun μ1 Hd1 H1 vs g1 R1 r1 => ?_
  split at e2
  · rename_i x y _
    obtain ⟨v, w, rfl, h1, h2⟩ := r1.two
    obtain ⟨d, E2, e3, e2⟩ := bindM_some e2
    obtain ⟨c, E3, e4, e2⟩ := bindM_some e2
    obtain ⟨l, e5, e6⟩ := Option.map_eq_some_iff.mp e2
    cases e6
    obtain ⟨Hd2, g2, R2, r2⟩ := fzM_ok R1 h1 e3
    obtain ⟨Hd3, g3, R3, r3⟩ := fzM_ok R2 (Rv.gr g2 h2) e4
    have r2' := Rp.ex g3.ex _ _ r2
    unfold zipF at e5
    split at e5
    · rename_i xs ys q1 q2
      cases e5
      obtain ⟨a1, us, rfl, s1, s2⟩ := lstD_ok q1 r2'
      obtain ⟨a2, ws, rfl, s3, s4⟩ := lstD_ok q2 r3
      exact ⟨a1, a2, us, ws, rfl, .inl ⟨exs_l R3.wo.ex s1, exs_l R3.wo.ex s3, q _ _ _ _ ((g1.trans g2).trans g3) R3 (serves_z s1 s2 s3 s4)⟩⟩
    · split at e5
      · rename_i xs ys q1 q2
        cases e5
        obtain ⟨a1, us, rfl, s1, s2⟩ := tupD_ok q1 r2'
        obtain ⟨a2, ws, rfl, s3, s4⟩ := tupD_ok q2 r3
        exact ⟨a1, a2, us, ws, rfl, .inr ⟨exs_t R3.wo.ex s1, exs_t R3.wo.ex s3, q _ _ _ _ ((g1.trans g2).trans g3) R3 (serves_zt s1 s2 s3 s4)⟩⟩
      · cases e5
  · cases e2⟩
theorem ienum {elts : List Expr} {kk : Nat} {p tpos : Pos} (hm : X.mg "enumerate" = none) (ha : Ax X [a] tes mes) (hg : Gl X "enumerate" := by rfl) (hs : starEach [a] X.env = [(false, eval a X.env)] := by rfl) :
    Ix_ X (.Tuple elts kk tpos) (.Call (.Name "enumerate" p) [a] [] pos) (iEnum X.K tes) (enumM mes) := ⟨pi_enum hg hm ha.pa hs, fun {μ Hd H σ E ds E'} R e Q q => by
  obtain ⟨rs, E1, e1, e2⟩ := bindM_some e
  refine ha.am R e1 _ fun μ1 Hd1 H1 vs g1 R1 r1 => ?_
  split at e2
  · rename_i x _
    obtain ⟨v, rfl, h1⟩ := r1.one
    obtain ⟨d, E2, e3, e2⟩ := bindM_some e2
    obtain ⟨l, e5, e6⟩ := Option.map_eq_some_iff.mp e2
    cases e6
    obtain ⟨Hd2, g2, R2, r2⟩ := fzM_ok R1 h1 e3
    obtain ⟨a1, us, rfl, s1, s2⟩ := lstD_ok e5 r2
    exact ⟨a1, us, rfl, exs_l R2.wo.ex s1, q _ _ _ _ (g1.trans g2) R2 (serves_e s1 s2)⟩
  · cases e2⟩
end
end Hk
/-! Hk20: pairs as targets of comprehensions. -/
namespace Hk
open PySem PySem.Spec PyProof.Rows L2 Evl
section
variable {X : Cx} {e : Expr} {es : List Expr} {pos : Pos} {own : List Nat}
structure Gcs (X : Cx) (own : List Nat) (es : List Expr) (t : TGs) (gs : List (Vl → En → Option En)) : Prop where
  pg : PGs X es t
  gm : GcsM X.K own t gs
theorem gcnil : Gcs X own [] gNil [] := ⟨pgs_nil, gcsm_nil⟩
theorem gccons {t : TG} {u : TGs} {g : Vl → En → Option En} {gs : List (Vl → En → Option En)} (h1 : Gc X own e t g) (h2 : Gcs X own es u gs) (hs : (assignEach (e :: es) X.env).map (·.2) = assign e X.env :: (assignEach es X.env).map (·.2) := by rfl) : Gcs X own (e :: es) (gCons t u) (g :: gs) := ⟨pgs_cons h1.pg h2.pg hs, gcsm_cons h1.gm h2.gm⟩
theorem gctup {t : TGs} {gs : List (Vl → En → Option En)} {n k : Nat} (hc : X.calm = true) (h : Gcs X own es t gs) (hl : gs.length = n) (hn : (assignEach es X.env).length = n := by rfl) (hst : (assignEach es X.env).findIdx? (·.1) = none := by rfl) : Gc X own (.Tuple es k pos) (gTup X.K n t) (tupG gs) := ⟨pg_tup hc h.pg hn hst, gcm_tup hl h.gm⟩
end
end Hk
/-! Hk21: sorted of a set comprehension of which nothing comes. -/
namespace Hk
open PySem PySem.Spec PyProof.Rows L2 Evl
/-- the set at D, empty -/
abbrev void (w : World) (D : Addr) : HO := PpSet.SetBO w D (fun _ => false) 0
def rS0 (w : World) : List V → Hp → VK → Prop := fun vs H Q => ∃ D, vs = [.ref D] ∧ H D = some (void w D) ∧ ∀ p, H p = none → Q (.ref p) (upd H p (.lst []))
theorem void_ints {w : World} {h : Heap} {a : Addr} (R : PpSet.SetB w h a (fun _ => false) 0) : SetR w h a (fun _ => false) 0 := by
  obtain ⟨o, es, ep, t, h1, h2, h3, h4, h5, h6, h7, h8, h9, h10, h11⟩ := R
  have e : es.toList = [] := by
    have : es.toList.length = 0 := by simpa using h9
    exact List.length_eq_zero_iff.mp this
  exact ⟨o, es, ep, t, h1, h2, h3, by rw [e]; exact nofun, by rw [e]; exact .nil, fun k => by rw [e]; exact ⟨nofun, nofun⟩, h7, h8, h9, h10, h11⟩
theorem cr_s0 {X : Cx} (hc : X.calm = true) : CallR X (.builtin "sorted") (rS0 X.w) := by
  intro pins s σ H vs us Q I r h
  obtain ⟨D, rfl, hD, q⟩ := h
  have R := void_ints (PpSet.setBO_get I hD)
  rw [Vals.ref1 r]
  refine sorted_set R (I.ok.hd hc) (by decide) fun t p out c ns k1 k2 k3 hp hg hi _ _ hl => ?_
  obtain rfl : ns = [] := List.length_eq_zero_iff.mp hl
  have np : H p = none := I.hok.fresh hp
  have J : L2.Inv X pins σ (upd H p (.lst [])) { s with heap := t.heap, gens := t.gens, drawn := t.drawn, toks := t.toks } := I.call (ch := []) (Un.laid k1 hp np) (I.hok.laid k1 hp ⟨Nat.zero_le _, out.toList, c, vals_of_ints hi, hg⟩) (by rw [k2]; exact I.bare) (fun _ z => nomatch z)
  have et : t = { s with heap := t.heap, gens := t.gens, drawn := t.drawn, toks := t.toks } := by cases t; cases s; cases k3; rfl
  rw [et]; exact ⟨.ref p, _, J, rfl, q p np⟩
def noL (own : List Nat) (g : Vl → En → Option En) (t : M Bool) : List Dt → En → Option En
  | [], E => some E
  | d :: ds, E => match g (.d d) (wipeE own E) with
    | some E1 => match t E1 with
      | some (false, E2) => noL own g t ds E2
      | _ => none
    | none => none
def sort0M (own : List Nat) (i : M (List Dt)) (g : Vl → En → Option En) (t : M Bool) : M Vl := fun E => match i E with
  | some (ds, E1) => match noL own g t ds E1 with
    | some E2 => newL [] ⟨bring E1.sl E2.sl own, E2.ce⟩
    | none => none
  | none => none
theorem em_sort0 {K : PySem.W.Frag} {w : World} {own : List Nat} {wi : TI} {mi : M (List Dt)} {g : TG} {gm : Vl → En → Option En} {tt : TT} {mt : M Bool} {te : TE} (hi : IM K wi mi) (hg : GcM K own g gm) (ht : TM K tt mt) : EM K (tCB (rS0 w) (tCons (PpSet.tSc w wi g tt te own) tNil)) (sort0M own mi gm mt) := fun {μ Hd H σ E r E'} R e Q q => by
  unfold sort0M at e
  split at e
  · rename_i ds E1 q1
    split at e
    · rename_i E2 q2
      refine hi R q1 _ fun μ1 Hd1 H1 J g1 R1 sv D hD => ?_
      obtain ⟨g2, R2⟩ := R1.newD (o := void w D) hD rfl
      have e0 : (upd Hd1 D (void w D)) D = some (void w D) := upd_same
      refine ⟨fun i n H' => ∃ μ' Hd' E', Gr μ1 (upd Hd1 D (void w D)) μ' Hd' ∧ Rl K μ' Hd' H' (L2.wipe σ own) (wipeE own E') ∧ n = ds.length - i ∧ noL own gm mt (ds.drop i) E' = some E2,
        ⟨_, μ1, _, E1, Gr.refl _ _, ⟨R2.wo, R2.sl.wipe own⟩, rfl, q2⟩, fun i n H' hw => ?_⟩
      obtain ⟨μ', Hd', E3, g3, R3, ek, q3⟩ := hw
      cases hd : ds.drop i with
      | nil =>
        rw [hd] at q3
        cases q3
        have hl : ds.length ≤ i := by
          have := congrArg List.length hd
          rw [List.length_drop] at this
          simp at this
          omega
        refine .inl ⟨(sv Hd' H' i ((g2.trans g3).ex) R3.wo.ex).1 hl, D, rfl, R3.wo.ex D _ (g3.ex D _ e0), fun p hp => ?_⟩
        have R4 : Rl K μ' Hd' H' σ ⟨bring E1.sl E2.sl own, E2.ce⟩ := ⟨R3.wo, Sl.bring ((R1.sl.gr g2).gr g3) R3.sl⟩
        obtain ⟨g5, R5, r5⟩ := newL_ok (xs := []) (vs := []) R4 rfl e hp
        exact q _ _ _ _ (((g1.trans g2).trans g3).trans g5) R5 r5
      | cons x rest =>
        rw [hd] at q3
        obtain ⟨hx, hr⟩ := drop_cons hd
        have hl : i < ds.length := (List.getElem?_eq_some_iff.mp hx).1
        obtain ⟨s1, s2⟩ := sv.new R3 (g2.trans g3).ex hx
        refine .inr ⟨s1, fun H2 => ∃ m', m' < n ∧ ∃ μ2 Hd2 E4, Gr μ1 (upd Hd1 D (void w D)) μ2 Hd2 ∧ Rl K μ2 Hd2 H2 (L2.wipe σ own) (wipeE own E4) ∧ m' = ds.length - (i + 1) ∧ noL own gm mt (ds.drop (i + 1)) E4 = some E2, fun _ h => h, fun v H3 hy => ?_⟩
        obtain ⟨Hd4, g4, R4, r4⟩ := s2 v H3 hy
        unfold noL at q3
        split at q3
        · rename_i E5 q5
          refine hg R4 (r := .d x) r4 q5 _ fun μ5 Hd5 H5 σ5 g5 R5 w5 => ⟨w5.trans (by rw [wipe_wipe]), ?_⟩
          split at q3
          · rename_i E6 q6
            refine ht R5 q6 _ fun μ6 Hd6 H6 g6 R6 => ?_
            show ∃ m', _
            refine ⟨ds.length - (i + 1), by omega, μ6, Hd6, E6, ((g3.trans g4).trans g5).trans g6, ⟨R6.wo, ?_⟩, rfl, by rw [hr]; exact q3⟩
            have := R6.sl.wipe own
            rw [w5, wipe_wipe] at this
            exact this
          · cases q3
        · cases q3
    · cases e
  · cases e
section
variable {X : Cx} {elt tg iter : Expr} {ifs : List Expr} {te : TE} {m : M Vl} {pos p cpos : Pos} {scope : Scope} {own : List (Str × Nat)} {wi : TI} {mi : M (List Dt)} {g : TG} {gm : Vl → En → Option En} {tt : TT} {mt : M Bool}
/-- sorted({e for x in d if c}), no x with c -/
theorem xsort0 (hm : X.mg "sorted" = none) (hv : bootBuiltins "sorted" = some (.builtin "sorted")) (hc : X.calm = true) (hN : X.N.Nodup) (hi : Ix_ X tg iter wi mi) (ok : BlkOk X.N X.env.scope scope own)
    (hg : ∀ (s : Shared) (H : Hp) (C : Addr) (cl : List (Str × Addr)) (fp : List Addr), Gc (X.blk s H scope (compEnvC scope cl C X.env) fp) (own.map (·.2)) tg g gm)
    (ht : ∀ (s : Shared) (H : Hp) (C : Addr) (cl : List (Str × Addr)) (fp : List Addr), Px (X.blk s H scope (compEnvC scope cl C X.env) fp) ifs tt mt)
    (he : ∀ (s : Shared) (H : Hp) (C : Addr) (cl : List (Str × Addr)) (fp : List Addr), PE (X.blk s H scope (compEnvC scope cl C X.env) fp) elt te) (hs : ∀ x, foldedSetIterable iter X.env x = pure x := by intro _; rfl)
    (hG : Gl X "sorted" := by rfl) (hst : starEach [Expr.SetComp elt [⟨tg, iter, ifs, 0⟩] scope pos] X.env = (false, eval (Expr.SetComp elt [⟨tg, iter, ifs, 0⟩] scope pos) X.env) :: starEach [] X.env := by rfl) (hpl : (backTo cpos (starEach [] X.env)).any (·.1) = false := by rfl) :
    Ex_ X (.Call (.Name "sorted" p) [.SetComp elt [⟨tg, iter, ifs, 0⟩] scope pos] [] cpos) (tCB (rS0 X.w) (tCons (PpSet.tSc X.w wi g tt te (own.map (·.2))) tNil)) (sort0M (own.map (·.2)) mi gm mt) :=
  ⟨pe_callB (cr_s0 hc) hG hm hv (pa_cons (PpSet.pe_sc hc hN hi.pi ok (fun s H C cl fp => (hg s H C cl fp).pg) (fun s H C cl fp => (ht s H C cl fp).pt) he hs) pa_nil hst) (by decide) (by decide) hst hpl,
   em_sort0 hi.im (hg X.s_0 X.H_0 0 [] []).gm (ht X.s_0 X.H_0 0 [] []).tm⟩
end
end Hk
/-! Hk22: max(list of ints, default=..). -/
namespace Hk
open PySem PySem.Spec PyProof.Rows L2 Evl
section
variable {prog : Program} {w : World} {A : Around} {R : Result → Shared → Prop} {I : Addr} {fp wr : List Addr} {n : Nat} {P : Nat → Value → Prop} {St : Nat → Heap → Prop}
theorem nmx : (toString "max" ++ toString ".loop" : String) = "max.loop" := by decide
/-- the best so far stands twice in the list B -/
theorem mxd_from (W : Walks prog w A.in1 I fp wr n P St) (bt : Nat → Nat → Bool) (hc : CmpOf prog w A.in1 .Gt P bt) (B : Addr) (hB0 : B ∉ fp) (kw : List (Str × Value)) : ∀ (k j : Nat) (s : Shared) (b0 : Value) (c : Nat), n - (j + 1) = k → j + 1 ≤ n → St (j + 1) s.heap → P (argBest bt j) b0 → s.heap.get? B = some { cls := .type "list", dict := none, data := .seq #[b0, b0] c, slots := #[] } →
    (∀ v h' tk, P (argBest bt (n - 1)) v → (∀ b o, b ∉ wr → b ≠ B → s.heap.get? b = some o → h'.get? b = some o) → R (.ok (.ret v)) { s with heap := h', toks := tk }) → codeAny (model prog w) A (.builtin "max.loop" ⟨[.ref I, .none, .ref B], kw⟩) R s := by
  have hBw : B ∉ wr := fun z => hB0 (W.sub _ z)
  intro k
  induction k with
  | zero =>
    intro j s b0 c hk hj h1 h2 h3 hR
    have hn : j + 1 = n := by omega
    refine codeAny_builtin F.entry_max_loop ?_; rw [Around.under_plainId F.plain_max_loop _]
    show wpAny _ A.in1 (seqItems? (.ref B) >>= _) _ _ s
    refine wpAny_bind (wpAny_seqItems h3 rfl ?_); show wpAny _ A.in1 (tryCatch (pyNext (.ref I)) _ >>= _) _ _ s
    refine wpAny_bind (wpAny_tryCatch (W.done s _ _ (hn ▸ h1) fun h' tk keep => ?_))
    have h3' := keep B _ hBw h3
    show wpAny _ A.in1 (updateSeq B (fun _ => #[]) >>= _) _ _ _
    refine wpAny_bind (wpAny_updateSeq h3' rfl (wpAny_bind (wpAny_letGo (wpAny_pure ?_))))
    exact hR b0 _ tk (by rw [← hn]; exact h2) fun b o n1 n2 e => (Heap.get?_update_other _ _ (Ne.symm n2)).trans (keep b o n1 e)
  | succ k ih =>
    intro j s b0 c hk hj h1 h2 h3 hR
    have hlt : j + 1 < n := by omega
    refine codeAny_builtin F.entry_max_loop ?_; rw [Around.under_plainId F.plain_max_loop _]
    show wpAny _ A.in1 (seqItems? (.ref B) >>= _) _ _ s
    refine wpAny_bind (wpAny_seqItems h3 rfl ?_); show wpAny _ A.in1 (tryCatch (pyNext (.ref I)) _ >>= _) _ _ s
    refine wpAny_bind (wpAny_tryCatch (W.item (j + 1) s _ _ hlt h1 fun v h' tk hv h4 keep => ?_))
    have h3' := keep B _ hBw h3
    show wpAny _ A.in1 (tryCatch (holding [v, v] (richCompare .Gt v b0 >>= _)) _ >>= _) _ _ _
    refine wpAny_bind (wpAny_tryCatch (wpAny_holding (wpAny_bind (hc (j + 1) (argBest bt j) v b0 _ _ _ hv h2 (wpAny_bind (wpAny_holding (wpAny_truthy_bool (wpAny_bind (wpAny_letGo (wpAny_pure ?_))))))))))
    cases hb : bt (j + 1) (argBest bt j) with
    | true =>
      simp only [if_true]
      refine wpAny_bind (wpAny_updateSeq h3' rfl (wpAny_bind (wpAny_letGo ?_)))
      rw [nmx]; refine wpAny_pure ⟨plainId_quiet F.plain_max_loop _, ih (j + 1) _ v _ (by omega) hlt (W.frame _ _ _ h4 fun b hbf o e => (Heap.get?_update_other _ _ (fun z : B = b => hB0 (by rw [z]; exact hbf))).trans e) (by simp only [argBest, hb, if_true]; exact hv) (Heap.get?_update_self _ h3' rfl) fun x h5 t5 hx keep2 => ?_⟩
      exact hR x h5 t5 hx fun b o n1 n2 e => keep2 b o n1 n2 ((Heap.get?_update_other _ _ (Ne.symm n2)).trans (keep b o n1 e))
    | false =>
      simp only [Bool.false_eq_true, if_false]; refine wpAny_bind (wpAny_letGo ?_)
      rw [nmx]; refine wpAny_pure ⟨plainId_quiet F.plain_max_loop _, ih (j + 1) _ b0 c (by omega) hlt h4 (by simp only [argBest, hb, Bool.false_eq_true, if_false]; exact h2) h3' fun x h5 t5 hx keep2 => ?_⟩
      exact hR x h5 t5 hx fun b o n1 n2 e => keep2 b o n1 n2 (keep b o n1 e)
theorem mxd_start (W : Walks prog w A.in1 I fp wr n P St) (bt : Nat → Nat → Bool) (hc : CmpOf prog w A.in1 .Gt P bt) (B : Addr) (hB0 : B ∉ fp) (kk : Str) (dv : Value) {s : Shared} {c : Nat} (h1 : St 0 s.heap) (h3 : s.heap.get? B = some { cls := .type "list", dict := none, data := .seq #[] c, slots := #[] })
    (hR : ∀ v h' tk, (n = 0 ∧ v = dv ∨ 0 < n ∧ P (argBest bt (n - 1)) v) → (∀ b o, b ∉ wr → b ≠ B → s.heap.get? b = some o → h'.get? b = some o) → R (.ok (.ret v)) { s with heap := h', toks := tk }) : codeAny (model prog w) A (.builtin "max.loop" ⟨[.ref I, .none, .ref B], [(kk, dv)]⟩) R s := by
  have hBw : B ∉ wr := fun z => hB0 (W.sub _ z)
  refine codeAny_builtin F.entry_max_loop ?_; rw [Around.under_plainId F.plain_max_loop _]
  show wpAny _ A.in1 (seqItems? (.ref B) >>= _) _ _ s
  refine wpAny_bind (wpAny_seqItems h3 rfl ?_); show wpAny _ A.in1 (tryCatch (pyNext (.ref I)) _ >>= _) _ _ s
  by_cases hn : 0 < n
  · refine wpAny_bind (wpAny_tryCatch (W.item 0 s _ _ hn h1 fun v h' tk hv h4 keep => ?_))
    have h3' := keep B _ hBw h3
    show wpAny _ A.in1 (updateSeq B (fun _ => #[v, v]) >>= _) _ _ _
    refine wpAny_bind (wpAny_updateSeq h3' rfl ?_)
    rw [nmx]; refine wpAny_pure ⟨plainId_quiet F.plain_max_loop _, mxd_from W bt hc B hB0 [(kk, dv)] _ 0 _ v _ rfl hn (W.frame _ _ _ h4 fun b hbf o e => (Heap.get?_update_other _ _ (fun z : B = b => hB0 (by rw [z]; exact hbf))).trans e) hv (Heap.get?_update_self _ h3' rfl) fun x h5 t5 hx keep2 => ?_⟩
    exact hR x h5 t5 (.inr ⟨hn, hx⟩) fun b o n1 n2 e => keep2 b o n1 n2 ((Heap.get?_update_other _ _ (Ne.symm n2)).trans (keep b o n1 e))
  · obtain rfl : n = 0 := by omega
    refine wpAny_bind (wpAny_tryCatch (W.done s _ _ h1 fun h' tk keep => ?_))
    show wpAny _ A.in1 (rule _ >>= _) _ _ _
    refine wpAny_bind (wpAny_rule (wpAny_pure ?_))
    exact hR dv h' tk (.inl ⟨rfl, rfl⟩) fun b o n1 n2 e => keep b o n1 e
end
section
variable {prog : Program} {w : World} {A : Around} {E : Value → Shared → Prop} {s : Shared}
theorem args_mxd (a d : Value) : argsOk "max" ⟨[a], [(Str.ofString "default", d)]⟩ := by unfold argsOk; kernel_rfl
theorem call_mxd {l : Addr} {xs : Array (Int × Tok)} {dv : Value} {Q : Value → Shared → Prop} (hh : A.handled = none) (hl : s.heap.IsList l (intItems xs))
    (h : ∀ v h' tk, (xs.size = 0 ∧ v = dv ∨ 0 < xs.size ∧ (intItems xs)[argBest (fun i j => decide (numAt xs i > numAt xs j)) (xs.size - 1)]? = some v) → (∀ b o, s.heap.get? b = some o → h'.get? b = some o) → Q v { s with heap := h', toks := tk }) : wpAny (model prog w) A (call (.builtin "max") [.ref l] [(Str.ofString "default", dv)]) Q E s := by
  refine wpAny_call (codeAny_call_builtin F.plain_max F.entry_max ?_)
  simp only [checkBuiltinCall, F.kind_max]
  have core : wpAny (model prog w) A.in1 (Builtin.«max» ⟨[.ref l], [(Str.ofString "default", dv)]⟩) (fun fin s' => match fin with
      | .done f => (match (Except.ok f : Result) with | .ok (.ret v) => Q v s' | .ok _ => False | .error e => E e s')
      | .again c' => c'.quiet = true ∧ codeAny (model prog w) A c' (fun r s' => match r with | .ok (.ret v) => Q v s' | .ok _ => False | .error e => E e s') s') E s := by
    show wpAny _ A.in1 (Builtin.Builtins.bindParams "max" ["key", "default"] 0 ⟨[], [(Str.ofString "default", dv)]⟩ >>= _) _ _ s
    refine wpAny_bind (wpAny_of_eq (show Builtin.Builtins.bindParams "max" ["key", "default"] 0 ⟨[], [(Str.ofString "default", dv)]⟩ = pure [none, some dv] from rfl) ?_)
    refine wpAny_bind (wpAny_pure (wpAny_bind (iter_intList hl fun s2 e st hfp hlI => ?_)))
    subst e
    refine wpAny_bind (wpAny_newObj_type ?_)
    have W := Walks.list (prog := prog) (w := w) (A := A.in1) hh s.heap.objs.size l hlI (intItems xs)
    rw [nmx]
    refine wpAny_pure ⟨plainId_quiet F.plain_max_loop _, mxd_start W (fun i j => decide (numAt xs i > numAt xs j)) (CmpOf.ints_gt (numAt xs) fun _ _ => intItems_at) _ (fun hm => Nat.lt_irrefl _ (hfp _ hm)) _ dv (W.frame _ _ _ st fun b _ o e => Heap.get?_push_of_some _ e) (Heap.get?_push_size _ rfl) fun v h' tk hv keep => ?_⟩
    have ez : (intItems xs).size = xs.size := by simp [intItems]
    rw [ez] at hv
    refine h v h' tk hv fun b o e => keep b o (fun hm => ?_) (Nat.ne_of_lt (Heap.lt_size (Heap.get?_push_of_some _ e))) (Heap.get?_push_of_some _ (Heap.get?_push_of_some _ e))
    rcases List.mem_cons.mp hm with z | hm
    · subst z
      exact Nat.lt_irrefl _ (Heap.lt_size e)
    · cases hm
  cases hs : Manifest.signature? "max" with
  | none => exact wpAny_pure core
  | some sig =>
    have ha : Bind.checkArgs "max" sig ⟨[.ref l], [(Str.ofString "default", dv)]⟩ = pure () := by simpa only [argsOk, hs] using args_mxd (.ref l) dv
    simp only [ha]
    exact wpAny_pure core
end
def maxL (d : Int) : List Int → Int
  | [] => d
  | x :: r => r.foldl (fun a b => if b > a then b else a) x
theorem fold_max : ∀ (r : List Int) (x : Int), (r.foldl (fun a b => if b > a then b else a) x ∈ x :: r) ∧ ∀ a ∈ x :: r, a ≤ r.foldl (fun a b => if b > a then b else a) x
  | [], x => ⟨List.mem_cons_self .., fun a h => by
    rcases List.mem_cons.mp h with rfl | h
    · exact Int.le_refl _
    · cases h⟩
  | y :: r, x => by
    obtain ⟨h1, h2⟩ := fold_max r (if y > x then y else x)
    refine ⟨?_, fun a ha => ?_⟩
    · rcases List.mem_cons.mp h1 with e | h
      · rw [List.foldl_cons, e]
        split
        · exact List.mem_cons_of_mem _ (List.mem_cons_self ..)
        · exact List.mem_cons_self ..
      · exact List.mem_cons_of_mem _ (List.mem_cons_of_mem _ h)
    · rw [List.foldl_cons]
      have h0 := h2 _ (List.mem_cons_self ..)
      rcases List.mem_cons.mp ha with rfl | ha
      · refine Int.le_trans ?_ h0
        split <;> omega
      · rcases List.mem_cons.mp ha with rfl | ha
        · refine Int.le_trans ?_ h0
          split <;> omega
        · exact h2 a (List.mem_cons_of_mem _ ha)
theorem maxL_of {d M : Int} {ns : List Int} (h0 : ns = [] → M = d) (h1 : ns ≠ [] → M ∈ ns ∧ ∀ a ∈ ns, a ≤ M) : M = maxL d ns := by
  cases ns with
  | nil => exact h0 rfl
  | cons x r =>
    obtain ⟨m1, m2⟩ := h1 (by simp)
    obtain ⟨f1, f2⟩ := fold_max r x
    exact Int.le_antisymm (f2 _ m1) (m2 _ f1)
theorem at_num {xs : Array (Int × Tok)} (k : Nat) (hk : k < xs.size) : numAt xs k = xs[k].1 := by simp [numAt, hk]
def rMxd (K : PySem.W.Frag) : List V → List V → Hp → VK → Prop := fun vs zs H Q => ∃ (a : Addr) (ns : List Int) (d : Int), vs = [.ref a] ∧ zs = [.int d] ∧ SqL K H a (ns.map V.int) ∧ Q (.int (maxL d ns)) H
theorem ints_xs {its : List Value} {ns : List Int} (hi : IntsAre its ns) : ∃ xs : Array (Int × Tok), its.toArray = intItems xs ∧ xs.toList.map (·.1) = ns := let ⟨xs, e⟩ := hi.allInts.items; ⟨xs, e, by have h := congrArg (fun a => numsOf a.toList) e; rw [nums_intItems] at h; exact h.symm.trans hi.numsOf⟩
theorem cr_mxd {X : Cx} (hc : X.calm = true) : CallRK X (.builtin "max") [Str.ofString "default"] (rMxd X.K) := by
  intro pins s σ H vs zs us ws Q I r rz h
  obtain ⟨a, ns, d, rfl, rfl, hs, q⟩ := h
  obtain ⟨its, rv, hl, _⟩ := I.list hs
  obtain rfl := Vals.ref1 r
  obtain ⟨w1, rfl, e1⟩ := vals1 rz
  obtain ⟨t1, rfl⟩ := e1
  obtain ⟨xs, e, rfl⟩ := ints_xs rv.ints
  have hl := hl.isList
  rw [e] at hl
  refine call_mxd (I.ok.hd hc) hl fun v h' tk hv keep => ?_
  have lz : (xs.toList.map (·.1)).length = xs.size := by rw [List.length_map, Array.length_toList]
  rcases hv with ⟨n0, rfl⟩ | ⟨n0, hv⟩
  · have ez : xs.toList.map (·.1) = [] := List.length_eq_zero_iff.mp (lz.trans n0)
    rw [ez] at q
    exact ⟨.int d, H, I.kept keep, ⟨_, rfl⟩, q⟩
  · obtain ⟨t, rfl⟩ := intItems_at hv
    obtain ⟨_, h2⟩ := argBest_gt (numAt xs) (xs.size - 1)
    refine ⟨.int _, H, I.kept keep, ⟨_, rfl⟩, ?_⟩
    have em : numAt xs (argBest (fun i j => decide (numAt xs i > numAt xs j)) (xs.size - 1)) = maxL d (xs.toList.map (·.1)) := by
      refine maxL_of (fun z => ?_) fun _ => ⟨?_, fun x hx => ?_⟩
      · rw [z] at lz
        simp at lz
        omega
      · obtain ⟨k1, _⟩ := argBest_gt (numAt xs) (xs.size - 1)
        have hk : argBest (fun i j => decide (numAt xs i > numAt xs j)) (xs.size - 1) < xs.size := by omega
        refine List.mem_map.mpr ⟨xs[argBest (fun i j => decide (numAt xs i > numAt xs j)) (xs.size - 1)], Array.mem_toList_iff.mpr (Array.getElem_mem hk), (at_num _ hk).symm⟩
      · obtain ⟨p, hp, rfl⟩ := List.mem_map.mp hx
        obtain ⟨j, hj, rfl⟩ := Array.mem_iff_getElem.mp (Array.mem_toList_iff.mp hp)
        have := h2 j (by omega)
        have ej : numAt xs j = xs[j].1 := by simp [numAt, hj]
        rw [ej] at this
        exact this
    rw [em]
    exact q
def intsD : List Dt → Option (List Int)
  | [] => some []
  | .int i :: r => (intsD r).map (i :: ·)
  | _ :: _ => none
theorem intsD_ok : ∀ {ds : List Dt} {ns : List Int}, intsD ds = some ns → ds = ns.map Dt.int
  | [], ns, h => by cases h; rfl
  | d :: r, ns, h => by
    cases d with
    | int s =>
      obtain ⟨t, h1, rfl⟩ := Option.map_eq_some_iff.mp h
      rw [intsD_ok h1]; rfl
    | _ => cases h
theorem ints_rp {K : PySem.W.Frag} {H : Hp} : ∀ {l : List Int} {vs : List V}, RpA K H (l.map Dt.int) vs → vs = l.map V.int
  | [], vs, h => h
  | s :: l, vs, h => by
    obtain ⟨x, r, rfl, h1, h2⟩ := h
    rw [ints_rp h2]
    cases (show x = .int s from h1)
    rfl
/-- a list that is seen -/
def lstS (ce : List Ce) (r : Vl) : Option (List Dt) := (see ce r).bind lstD
theorem lstS_ok {K : PySem.W.Frag} {μ : List Addr} {Hd H : Hp} {ce : List Ce} {r : Vl} {v : V} {ds : List Dt} (w : Wo K μ Hd H ce) (hv : Rv K μ Hd r v) (h : lstS ce r = some ds) : ∃ a vs, v = .ref a ∧ SqL K H a vs ∧ RpA K Hd ds vs := by
  obtain ⟨d, h1, h2⟩ := Option.bind_eq_some_iff.mp h
  cases d with
  | lst xs =>
    cases h2
    obtain ⟨a, us, e1, e2, e3⟩ := see_lst w hv h1
    exact ⟨a, us, e1, sql_of e2, e3⟩
  | sq xs =>
    cases h2
    exact see_sq w hv h1
  | _ => cases h2
def maxDM (m md : M Vl) : M Vl := bindM m fun x => bindM md fun y => fun E => match (lstS E.ce x).bind intsD, y with
  | some ns, .d (.int d) => some (.d (.int (maxL d ns)), E)
  | _, _ => none
section
variable {X : Cx} {a b : Expr} {ta tb : TE} {ma mb : M Vl} {p pos kpos : Pos}
theorem em_mxd {K : PySem.W.Frag} (ha : EM K ta ma) (hb : EM K tb mb) : EM K (tCKw (rMxd K) (tCons ta tNil) (tCons tb tNil)) (maxDM ma mb) := fun {μ Hd H σ E r E'} R e Q q => by
  obtain ⟨x, E1, e1, e2⟩ := bindM_some e
  obtain ⟨y, E2, e3, e4⟩ := bindM_some e2
  refine ha R e1 _ fun μ1 Hd1 H1 v g1 R1 r1 => hb R1 e3 _ fun μ2 Hd2 H2 w g2 R2 r2 => ?_
  split at e4
  · rename_i ns d e5
    cases e4
    obtain ⟨ds, e6, e7⟩ := Option.bind_eq_some_iff.mp e5
    obtain ⟨l, us, rfl, h2, h3⟩ := lstS_ok R2.wo (Rv.gr g2 r1) e6
    rw [intsD_ok e7] at h3
    have hu := ints_rp h3
    subst hu
    cases (show w = .int d from r2)
    exact ⟨l, ns, d, rfl, rfl, h2, q _ _ _ _ (g1.trans g2) R2 rfl⟩
  · cases e4
theorem xmaxd (hc : X.calm = true) (hm : X.mg "max" = none) (hv : bootBuiltins "max" = some (.builtin "max")) (ha : Ex_ X a ta ma) (hb : Ex_ X b tb mb) (hg : Gl X "max" := by rfl)
    (he : backTo pos (starEach [a] X.env) = (false, eval a X.env) :: backTo pos (starEach [] X.env) := by rfl) (hst : starEach [a] X.env = (false, eval a X.env) :: starEach [] X.env := by rfl) (hpl : (backTo pos (starEach [a] X.env)).any (·.1) = false := by rfl)
    (hall : (backToKw pos (keywordEach [⟨some (Str.ofString "default"), b, kpos⟩] X.env)).all (·.1.isSome) = true := by rfl) (hnone : (backToKw pos (keywordEach [⟨some (Str.ofString "default"), b, kpos⟩] X.env)).any (·.1.isNone) = false := by rfl) (hks : (backToKw pos (keywordEach [⟨some (Str.ofString "default"), b, kpos⟩] X.env)).filterMap (·.1) = [Str.ofString "default"] := by rfl) :
    Ex_ X (.Call (.Name "max" p) [a] [⟨some (Str.ofString "default"), b, kpos⟩] pos) (tCKw (rMxd X.K) (tCons ta tNil) (tCons tb tNil)) (maxDM ma mb) :=
  ⟨pe_callBK (cr_mxd hc) hg hm hv (pa_cons ha.pe pa_nil hst) (pk_cons hb.pe pk_nil) (by decide) (by decide) he hpl hall hnone hks, em_mxd ha.em hb.em⟩
end
end Hk
/-! Hk23: {**a, **b}. -/
namespace Hk
open PySem PySem.Spec L2 Evl
section
variable {prog : Program} {w : World} {K : Type} [DecidableEq K] {knd : KeyKind prog w K} {A : Around} {E : Value → Shared → Prop} {s : Shared}
theorem put_at {d : Addr} {kvs : List (K × Value)} {k : K} {key v : Value} {Q : Unit → Shared → Prop} (hk : knd.is k key = true) (hm : s.heap.DictOf knd d kvs) (hz : kvs.length ≤ sizeLine)
    (h : ∀ h', h'.DictOf knd d (stored kvs k v) → Heap.SameBut d s.heap h' → Q () { s with heap := h' }) : wpAny (model prog w) A (dictPut d (knd.hash k) key v) Q E s := by
  obtain ⟨o, es, ep, g1, g2, g3, g4, g5, g6⟩ := hm
  have z : es.size ≤ sizeLine := by
    have e1 := g5.length
    have e2 : es.toList.length = es.size := by simp
    omega
  unfold dictPut
  refine wpAny_bind (wpAny_dictFind_of hk g1 g3 g4 ?_)
  have ei : (es.findIdx? fun e => knd.is k e.key) = kvs.findIdx? fun kv => decide (kv.1 = k) := by rw [← g5.findIdx k]; obtain ⟨l⟩ := es; simp
  cases hi : es.findIdx? fun e => knd.is k e.key with
  | some i =>
    have yes : (kvs.any fun kv => decide (kv.1 = k)) = true := any_of_findIdx_some (ei ▸ hi)
    refine wpAny_updateDict g1 g3 (h _ ⟨_, _, ep, Heap.get?_update_self _ g1 (Obj.isFreed_of_dict (Obj.data_mapDict g3 _)), g2.mapDict _, Obj.data_mapDict g3 _, g4.modify _ _, ?_, ?_⟩ (Heap.SameBut.update ..))
    · rw [stored, if_pos yes]
      have l1 : (es.toList.findIdx? fun e => knd.is k e.key) = some i := by rw [← hi]; obtain ⟨l⟩ := es; simp
      have l2 := g5.modify g6 l1 v
      obtain ⟨l⟩ := es
      simpa using l2
    · rw [stored, if_pos yes, keys_map_store]; exact g6
  | none =>
    have nok : k ∉ kvs.map (·.1) := not_mem_of_findIdx_none (ei ▸ hi)
    have no : ¬ (kvs.any fun kv => decide (kv.1 = k)) = true := fun y => by
      obtain ⟨kv, y1, y2⟩ := List.any_eq_true.mp y
      exact nok (List.mem_map.mpr ⟨kv, y1, of_decide_eq_true y2⟩)
    refine wpAny_updateDictKeys (hz := z) g1 g3 (h _ ⟨_, _, ep + 1, Heap.get?_update_self _ g1 (Obj.isFreed_of_dict (Obj.data_mapDictKeys g3 _)), g2.mapDictKeys _, Obj.data_mapDictKeys g3 _, g4.push hk _, ?_, ?_⟩ (Heap.SameBut.update ..))
    · rw [stored, if_neg no]
      have l2 := g5.append hk (knd.hash k) v
      obtain ⟨l⟩ := es
      simpa using l2
    · rw [stored, if_neg no, List.map_append, List.nodup_append]
      refine ⟨g6, by simp, fun a ha b hb => ?_⟩
      simp at hb
      rw [hb]
      exact fun z => nok (z ▸ ha)
theorem pairs_at : ∀ {es : List DictEntry} {kvs : List (K × Value)} (i : Nat) (e : DictEntry), Pairs knd es kvs → es[i]? = some e → ∃ k, knd.is k e.key = true ∧ kvs[i]? = some (k, e.val)
  | [], _, i, e, _, h => by simp at h
  | x :: es, [], i, e, p, h => by cases p
  | x :: es, (k, v) :: kvs, 0, e, p, h => by
    cases p with
    | cons p1 p2 p3 =>
      have h : x = e := by simpa using h
      subst h
      exact ⟨k, p1, by simp [p2]⟩
  | x :: es, kv :: kvs, i + 1, e, p, h => by
    cases p with
    | cons p1 p2 p3 =>
      obtain ⟨k, q1, q2⟩ := pairs_at i e p3 (by simpa using h)
      exact ⟨k, q1, by simpa using q2⟩
theorem stored_le (kvs : List (K × Value)) (k : K) (v : Value) : (stored kvs k v).length ≤ kvs.length + 1 := by
  unfold stored
  split
  · rw [List.length_map]
    exact Nat.le_succ _
  · simp
theorem merged_le : ∀ (more kvs : List (K × Value)), (merged kvs more).length ≤ kvs.length + more.length
  | [], kvs => Nat.le_refl _
  | kv :: more, kvs => by
    have h1 := merged_le more (stored kvs kv.1 kv.2)
    have h2 := stored_le kvs kv.1 kv.2
    have e : merged kvs (kv :: more) = merged (stored kvs kv.1 kv.2) more := rfl
    rw [e, List.length_cons]
    omega
theorem merged_snoc (kvs more : List (K × Value)) (k : K) (v : Value) : merged kvs (more ++ [(k, v)]) = stored (merged kvs more) k v := by
  unfold merged
  rw [List.foldl_append]
  rfl
theorem merge_at {d a : Addr} {kvs more : List (K × Value)} {Q : Unit → Shared → Prop} (hne : a ≠ d) (hs : (a == sysModules) = false) (hd : s.heap.DictOf knd d kvs) (ha : s.heap.DictOf knd a more) (hz : kvs.length + more.length ≤ sizeLine)
    (h : ∀ h', h'.DictOf knd d (merged kvs more) → Heap.SameBut d s.heap h' → Q () { s with heap := h' }) : wpAny (model prog w) A (mergeMapping d (.ref a) false) Q E s := by
  have hT := ha.typeIs
  obtain ⟨o, es, ep, g1, g2, g3, g4, g5, g6⟩ := id ha
  unfold mergeMapping
  refine wpAny_bind (wpAny_isInstance hT isSubtype_dict_dict ?_)
  simp only [if_true]
  refine wpAny_bind (wpAny_specialOf hT F.slot_dict_iter.lookup (wpAny_bind (wpAny_pure ?_)))
  simp only [beq_self_eq_true, hs, Bool.false_eq_true, if_false]
  have start := hd
  obtain ⟨o1, es1, ep1, d1, d2, d3, d4, d5, d6⟩ := start
  refine wpAny_bind (wpAny_dictEntries d1 d3 ?_)
  have kz : ∀ (i : Nat) (e : DictEntry), es[i]? = some e → ∃ k, knd.is k e.key = true ∧ e.hash = knd.hash k ∧ more[i]? = some (k, e.val) := fun i e he => by
    obtain ⟨k, q1, q2⟩ := pairs_at i e g5 (by rw [Array.getElem?_toList]; exact he)
    obtain ⟨k', q3, q4⟩ := g4 e (Array.mem_of_getElem? he)
    obtain rfl := knd.inj _ _ _ q1 q3
    exact ⟨k, q1, q4, q2⟩
  have el : more.length = es.size := by
    have e1 := g5.length
    have e2 : es.toList.length = es.size := by simp
    omega
  have tw : ∀ {c : Bool} {x y : Sem Unit}, wpAny (model prog w) A y Q E s → (c = true → wpAny (model prog w) A y Q E s → wpAny (model prog w) A x Q E s) → wpAny (model prog w) A (if c = true then x else y) Q E s := fun {c x y} hy hx => by
    split
    · exact hx ‹_› hy
    · exact hy
  refine tw ?_ fun em t => ?_
  · refine wpAny_bind (wpAny_dictEntries g1 g3 (wpAny_bind (wpAny_dictEpoch g1 g3 (wpAny_bind (wpAny_forIn_list _ (fun r b s' => ∃ i h', r = List.range' i (es.size - i) ∧ i ≤ es.size ∧ s' = { s with heap := h' } ∧ h'.DictOf knd d (merged kvs (more.take i)) ∧ Heap.SameBut d s.heap h') _ ?_ ?_ (List.range es.size) _ ⟨0, s.heap, by rw [Nat.sub_zero, List.range_eq_range'], Nat.zero_le _, rfl, hd, Heap.SameBut.refl _ _⟩)))))
    · rintro x r b s' ⟨i, h', hr, hi, rfl, hD, hS⟩
      have hlt : i < es.size := by
        rcases Nat.lt_or_ge i es.size with q | q
        · exact q
        · rw [Nat.sub_eq_zero_of_le q] at hr
          cases hr
      have hr2 : x = i ∧ r = List.range' (i + 1) (es.size - (i + 1)) := by
        have e : es.size - i = (es.size - (i + 1)) + 1 := by omega
        rw [e, List.range'_succ] at hr
        cases hr
        exact ⟨rfl, rfl⟩
      obtain ⟨rfl, rfl⟩ := hr2
      have a1 : h'.get? a = some o := (hS.2 a hne).trans g1
      refine wpAny_bind (wpAny_dictEntries a1 g3 ?_)
      rw [Array.getElem?_eq_getElem hlt]
      obtain ⟨k, k1, k2, k3⟩ := kz x es[x] (Array.getElem?_eq_getElem hlt)
      have zl : (merged kvs (more.take x)).length ≤ sizeLine := by
        have := merged_le (more.take x) kvs
        have e2 : (more.take x).length ≤ more.length := by rw [List.length_take]; omega
        omega
      refine wpAny_bind (wpAny_holding ?_)
      rw [k2]
      refine put_at (s := { s with heap := h' }) k1 hD zl fun h2 D2 S2 => ?_
      have a2 : h2.get? a = some o := (S2.2 a hne).trans a1
      refine wpAny_bind (wpAny_dictEpoch a2 g3 ?_)
      rw [if_neg (by simp)]
      refine wpAny_pure ⟨x + 1, h2, rfl, hlt, rfl, ?_, hS.trans S2⟩
      have tk : more.take (x + 1) = more.take x ++ [(k, es[x].val)] := by
        rw [List.take_add_one, k3]
        rfl
      rw [tk, merged_snoc]
      exact D2
    · rintro b s' ⟨i, h', hr, hi, rfl, hD, hS⟩
      have e : i = es.size := by
        rcases Nat.lt_or_ge i es.size with q | q
        · have e : es.size - i = (es.size - (i + 1)) + 1 := by omega
          rw [e, List.range'_succ] at hr
          cases hr
        · omega
      subst e
      rw [← el, List.take_length] at hD
      exact wpAny_pure (h h' hD hS)
  · refine wpAny_bind (wpAny_dictEntries g1 g3 ?_)
    refine wpAny_bind (wpAny_forIn_array' _ (fun r b s' => s' = s ∧ ∀ e ∈ r, e ∈ es.toList) _ ?_ ?_ es PUnit.unit ⟨rfl, fun e h => h⟩)
    · rintro e r b s' ⟨rfl, hr⟩
      obtain ⟨k, q1, _⟩ := g4 e (Array.mem_toList_iff.mp (hr e (List.mem_cons_self ..)))
      have nr : ∀ c, e.key ≠ .ref c := fun c z => by
        have := knd.byValue k _ q1
        rw [z] at this
        cases this
      split
      · rename_i c hc
        exact absurd hc (nr c)
      · exact wpAny_pure ⟨rfl, fun x hx => hr x (List.mem_cons_of_mem _ hx)⟩
    · rintro b s' ⟨rfl, _⟩
      exact t
end
section
variable {X : Cx} {pos : Pos} {x y : Expr} {tx ty : TE}
theorem mrg_step {A : Around} {E : Value → Shared → Prop} {pins : List (Addr × Obj)} {σ : L2.St} {H : Hp} {s : Shared} {D a : Addr} {kvs more : List (Key × V)} {Q : Unit → Shared → Prop} (I : L2.Inv X pins σ H s) (hD : H D = some (.dK kvs)) (ha : Rd H a (.dK more)) (hne : a ≠ D) (hz : kvs.length + more.length ≤ sizeLine)
    (h : ∀ s', L2.Inv X pins σ (upd H D (.dK (mergeK kvs more))) s' → Q () s') : wpAny (model X.prog X.w) A (mergeMapping D (.ref a) false) Q E s := by
  obtain ⟨_, hd, vs, rel, dd⟩ := dk_of I.hok hD
  obtain ⟨_, hd2, vs2, rel2, dd2⟩ := dk_rd I.hok ha
  have l1 := rel.length
  have l2 := rel2.length
  refine merge_at hne hd2 dd dd2 (by omega) fun h' dd' sb => h _ ?_
  have kv := rel2.merge rel
  have l3 := kv.length
  have l4 := merged_le vs2 vs
  exact d_write I (by rw [hD]; exact True.intro) sb (let ⟨q, _, _, hq, _⟩ := dd'; ⟨q, hq⟩) (dk_new (by omega) hd kv dd')
/-- {**x, **y}, D the new dict -/
def tMrg (tx ty : TE) : TE := fun σ H Q => ∀ D, H D = none → tx σ (upd H D (.dK [])) fun u H1 => ∃ a old kvs, u = .ref a ∧ Rd H1 a (.dK kvs) ∧ a ≠ D ∧ H1 D = some (.dK old) ∧ old.length + kvs.length ≤ sizeLine ∧
  ty σ (upd H1 D (.dK (mergeK old kvs))) fun v H2 => ∃ b old2 more, v = .ref b ∧ Rd H2 b (.dK more) ∧ b ≠ D ∧ H2 D = some (.dK old2) ∧ old2.length + more.length ≤ sizeLine ∧ Q (.ref D) (upd H2 D (.dK (mergeK old2 more)))
theorem pe_mrg (hx : PE X x tx) (hy : PE X y ty) : PE X (.Dict [none, none] [x, y] pos) (tMrg tx ty) := by
  refine ⟨fun pins s σ H Q I h => ?_⟩
  rw [arm_eval_Dict]
  refine wpAny_bind (wpAny_standAt ?_)
  show wpAny _ _ (dictDisplay [(none, do let z ← eval x X.env; standAt pos; pure z), (none, do let z ← eval y X.env; standAt pos; pure z)]) _ _ _
  unfold dictDisplay
  dsimp only
  simp only [List.forIn_cons, List.forIn_nil, List.isEmpty_nil, if_true, pure_bind, bind_assoc]
  refine wpAny_bind (wpAny_alloc ?_)
  have I1 := I.laid (a := s.heap.objs.size) (o := .dK []) (t' := s.toks) (fun _ _ q => Heap.get?_push_of_some _ q) (Nat.le_refl _) (dk_empty s.heap I.big)
  refine wpAny_bind (wpAny_holding (wpAny_bind (thn (hx.run pins _ σ _ _ I1 (h _ (I.hok.fresh (Nat.le_refl _)))) fun u s1 ⟨x', H1, I2, rx, a, old, kvs, ex, ha, hne, hD, hz, q2⟩ => wpAny_bind (wpAny_standAt (wpAny_pure ?_)))))
  subst ex
  cases rx
  refine wpAny_bind (wpAny_onRaise (wpAny_tryCatch (wpAny_onRaise (wpAny_holding (mrg_step I2 hD ha hne hz fun s2 I3 => ?_)))))
  refine wpAny_bind (wpAny_holding (wpAny_bind (thn (hy.run pins _ σ _ _ I3 q2) fun v s3 ⟨y', H2, I4, ry, b, old2, more, ey, hb, hne2, hD2, hz2, q3⟩ => wpAny_bind (wpAny_standAt (wpAny_pure ?_)))))
  subst ey
  cases ry
  refine wpAny_bind (wpAny_onRaise (wpAny_tryCatch (wpAny_onRaise (wpAny_holding (mrg_step I4 hD2 hb hne2 hz2 fun s4 I5 => ?_)))))
  exact wpAny_pure ⟨.ref s.heap.objs.size, _, I5, rfl, q3⟩
def notC (k : Nat) : Vl → Bool
  | .c j => j != k
  | _ => true
theorem seeK_ne {K : PySem.W.Frag} {Hd H : Hp} {μ : List Addr} {ce : List Ce} {r : Vl} {a D : Addr} {k : Nat} {c : Ce} {p : List Key × List Dt} (w : Wo K μ Hd H ce) (hv : Rv K μ Hd r (.ref a)) (h : seeK ce r = some p) (hk : μ[k]? = some D) (hc : ce[k]? = some c) (hl : c.live = true) (hn : notC k r = true) : a ≠ D := by
  obtain ⟨hD, _⟩ := w.at_ k c D hc hk hl
  rintro rfl
  cases r with
  | t rs => cases h
  | d d' =>
    cases d' with
    | dic ks ds =>
      obtain ⟨b, kvs, e1, e2, _⟩ := hv
      cases e1
      rcases e2 with e2 | ⟨o, e2⟩
      · rw [hD] at e2
        cases e2
      · rw [hD] at e2
        cases e2
    | _ => cases h
  | c j =>
    obtain ⟨b, e1, e2⟩ := hv
    cases e2
    have h : (match ce[j]? with
      | some (.dic ks ds) => some (ks, ds)
      | some (.lkd ks ds) => some (ks, ds)
      | _ => none) = some p := h
    split at h
    · rename_i ks ds e4
      have hj := w.inj _ _ _ _ _ e1 hk e4 hc rfl hl
      simp [notC, hj] at hn
    · rename_i ks ds e4
      obtain ⟨⟨od, kvs, e5, _⟩, _⟩ := w.lk _ _ _ _ e4 e1
      rw [hD] at e5
      cases e5
    · cases h
def mrgAt (k : Nat) (r : Vl) (ce : List Ce) : Option (List Ce) := match seeK ce r, ce[k]? with
  | some (ks, ds), some (.dic ks0 ds0) => if notC k r = true ∧ ks0.length + ks.length < 100000 then some (ce.set k (.dic (mrgN ks0 ks) (mrgD ks0 ds0 ks ds))) else none
  | _, _ => none
theorem mrgAt_ok {K : PySem.W.Frag} {Hd H : Hp} {μ : List Addr} {σ : L2.St} {E : En} {r : Vl} {v : V} {D : Addr} {k : Nat} {ce' : List Ce} (R : Rl K μ Hd H σ E) (hv : Rv K μ Hd r v) (hk : μ[k]? = some D) (h : mrgAt k r E.ce = some ce') :
    ∃ a old kvs, v = .ref a ∧ Rd H a (.dK kvs) ∧ a ≠ D ∧ H D = some (.dK old) ∧ old.length + kvs.length ≤ sizeLine ∧ Rl K μ Hd (upd H D (.dK (mergeK old kvs))) σ ⟨E.sl, ce'⟩ := by
  unfold mrgAt at h
  split at h
  · rename_i ks ds ks0 ds0 e1 e2
    split at h
    · rename_i hc
      cases h
      obtain ⟨hn, hz⟩ := hc
      obtain ⟨a, kvs, rfl, h1, h2, h3⟩ := seeK_ok R.wo hv e1
      obtain ⟨c1, o, c2, old, rfl, c3, c4⟩ := R.wo.at_ _ _ _ e2 hk rfl
      have ne := seeK_ne R.wo hv e1 hk e2 rfl hn
      obtain ⟨q1, q2⟩ := mrg_ok (K := K) (H := Hd) (more := kvs) (es := ds) (kvs := old) (ds := ds0) h3 c4
      rw [c3, h2] at q1 q2
      have l1 : old.length = ks0.length := by rw [← c3, List.length_map]
      have l2 : kvs.length = ks.length := by rw [← h2, List.length_map]
      have l3 := sz_lt hz
      exact ⟨a, old, kvs, rfl, h1, ne, c2, by rw [l1, l2]; exact Nat.le_of_lt l3, R.setX (c' := .dic (mrgN ks0 ks) (mrgD ks0 ds0 ks ds)) (o := .dK (mergeK old kvs)) e2 rfl hk ⟨_, rfl, q1, q2⟩⟩
    · cases h
  · cases h
def mrgM (mx my : M Vl) : M Vl := fun E => match mx ⟨E.sl, E.ce ++ [.dic [] []]⟩ with
  | some (x, E1) => match mrgAt E.ce.length x E1.ce with
    | some c1 => match my ⟨E1.sl, c1⟩ with
      | some (y, E2) => (mrgAt E.ce.length y E2.ce).map fun c2 => (.c E.ce.length, ⟨E2.sl, c2⟩)
      | none => none
    | none => none
  | none => none
theorem em_mrg {K : PySem.W.Frag} {mx my : M Vl} (hx : EM K tx mx) (hy : EM K ty my) : EM K (tMrg tx ty) (mrgM mx my) := fun {μ Hd H σ E r E'} R e Q q D hD => by
  unfold mrgM at e
  split at e
  · rename_i x E1 e1
    split at e
    · rename_i c1 e2
      split at e
      · rename_i y E2 e3
        obtain ⟨c2, e4, e5⟩ := Option.map_eq_some_iff.mp e
        cases e5
        obtain ⟨g0, R0, r0⟩ := R.newX (c := .dic [] []) (o := .dK []) hD ⟨[], rfl, rfl, (rfl : ([] : List V) = [])⟩
        have hk : (μ ++ [D])[E.ce.length]? = some D := by
          rw [← R.wo.len]
          simp
        refine hx R0 e1 _ fun μ1 Hd1 H1 u g1 R1 r1 => ?_
        obtain ⟨a, old, kvs, p1, p2, p3, p4, p5, R2⟩ := mrgAt_ok R1 r1 (g1.pre _ _ hk) e2
        refine ⟨a, old, kvs, p1, p2, p3, p4, p5, hy R2 e3 _ fun μ3 Hd3 H3 v g3 R3 r3 => ?_⟩
        obtain ⟨b, old2, more, s1, s2, s3, s4, s5, R4⟩ := mrgAt_ok R3 r3 (g3.pre _ _ (g1.pre _ _ hk)) e4
        exact ⟨b, old2, more, s1, s2, s3, s4, s5, q _ _ _ _ ((g0.trans g1).trans g3) R4 ⟨D, g3.pre _ _ (g1.pre _ _ hk), rfl⟩⟩
      · cases e
    · cases e
  · cases e
theorem xmrg {mx my : M Vl} (hx : Ex_ X x tx mx) (hy : Ex_ X y ty my) : Ex_ X (.Dict [none, none] [x, y] pos) (tMrg tx ty) (mrgM mx my) := ⟨pe_mrg hx.pe hy.pe, em_mrg hx.em hy.em⟩
end
end Hk
/-! Hk24: name = {k: v for ..}. -/
namespace Hk
open PySem PySem.Spec PyProof.Rows L2 Evl
section
variable {X : Cx} {kx vx tg iter : Expr} {ifs : List Expr} {tk tv td : TE} {mk mv ms : M Vl} {pos spos py : Pos} {scope : Scope} {own : List (Str × Nat)} {wi : TI} {mi : M (List Dt)} {g : TG} {gm : Vl → En → Option En} {tt : TT} {mt : M Bool} {y : Str}
theorem sw_dc {gs : List Comprehension} {l : Nat} {env : Env} (h1 : env.scope.kind = .function) (h2 : env.scope.names.lookup y = some .local) (h3 : (py.line == pos.line) = true) (h4 : (scope.names.any fun (n, k) => n == y && (k == .local || k == .cell)) = false) : swapsWith (.DictComp kx vx gs scope pos) (some (.Name y py)) l env = pure true := by
  have k1 : env.kindOf y = some .local := h2
  have k2 : env.blockKind = .function := by unfold Env.blockKind; rw [h1]; rfl
  unfold swapsWith; simp only [k2, k1, h4, Expr.pos, h3]; rfl
theorem ps_setDc {i : Nat} (hc : X.calm = true) (hN : X.N.Nodup) (hy : X.N[i]? = some y) (hyl : X.env.scope.names.lookup y = some .local) (hsw : swapsWith (.DictComp kx vx [⟨tg, iter, ifs, 0⟩] scope pos) (some (.Name y py)) spos.line X.env = pure true) (hi : PI X tg iter wi) (ok : BlkOk X.N X.env.scope scope own) (hg : ∀ (s : Shared) (H : Hp) (C : Addr) (cl : List (Str × Addr)) (fp : List Addr), PG (X.blk s H scope (compEnvC scope cl C X.env) fp) tg g)
    (ht : ∀ (s : Shared) (H : Hp) (C : Addr) (cl : List (Str × Addr)) (fp : List Addr), PTs (X.blk s H scope (compEnvC scope cl C X.env) fp) ifs tt) (hk : ∀ (s : Shared) (H : Hp) (C : Addr) (cl : List (Str × Addr)) (fp : List Addr), PE (X.blk s H scope (compEnvC scope cl C X.env) fp) kx tk) (hv : ∀ (s : Shared) (H : Hp) (C : Addr) (cl : List (Str × Addr)) (fp : List Addr), PE (X.blk s H scope (compEnvC scope cl C X.env) fp) vx tv)
    (hs : ∀ x, foldedSetIterable iter X.env x = pure x) : PS X (.Assign [.Name y py] (.DictComp kx vx [⟨tg, iter, ifs, 0⟩] scope pos) spos) (tAsg (tDc wi g tt tk tv (own.map (·.2))) (gName i)) := by
  refine ⟨fun pins s σ H D I h => ?_⟩
  rw [exec_Assign_Name_used _ _ _ _ hsw]; refine wpAny_bind (wpAny_standAt (wpAny_bind ?_))
  show wpAny _ X.A (do let _ ← comprehension (.DictComp kx vx [⟨tg, iter, ifs, 0⟩] scope pos) scope X.env (firstIterPos [⟨tg, iter, ifs, 0⟩] pos) newDict false (eval iter X.env) (some (assign (.Name y py) X.env))) _ _ s
  have q0 : tDc wi g tt tk tv (own.map (·.2)) σ H (fun x H1 => gName i x σ H1 D.nx) := h
  refine wpAny_bind (thn (dc_core (Qf := fun _ s' => SP X pins D .next s') hc hN I hi ok hg ht hk hv hs q0 fun L C s1 m H1 I1 q hn f => ?_) fun _ s' z => wpAny_pure (wpAny_pure z))
  obtain ⟨f0, f1, f2, f3, f4, f5⟩ := f
  show wpAny _ _ (assign (.Name y py) X.env (.ref L)) _ _ _
  refine wpAny_assign_Name (store_ok2 (v := V.ref L) I1 hN hy (.inl hyl) rfl (fun s2 I2 ⟨a, sb, ha⟩ => ?_) (.inr hyl))
  have ne : C ≠ a := by
    rcases ha with z | z
    · rw [z]; exact f1
    · exact fun e => f4 y a z e.symm
  exact ⟨m, hn.sameBut sb ne, fun h3 sb3 => ⟨_, H1, I2.turned (t' := s2.toks) (fun b o hb e => (sb3.2 b hb).trans e) f0 f1 f3 f4 f5, q⟩⟩
/-- name = {k: v for ..} -/
theorem ssetDC (i : Nat) (hc : X.calm = true) (hN : X.N.Nodup) (hy : X.N[i]? = some y) (hyl : X.env.scope.names.lookup y = some .local) (hsw : swapsWith (.DictComp kx vx [⟨tg, iter, ifs, 0⟩] scope pos) (some (.Name y py)) spos.line X.env = pure true) (hi : Ix_ X tg iter wi mi) (ok : BlkOk X.N X.env.scope scope own)
    (hg : ∀ (s : Shared) (H : Hp) (C : Addr) (cl : List (Str × Addr)) (fp : List Addr), Gc (X.blk s H scope (compEnvC scope cl C X.env) fp) (own.map (·.2)) tg g gm)
    (ht : ∀ (s : Shared) (H : Hp) (C : Addr) (cl : List (Str × Addr)) (fp : List Addr), Px (X.blk s H scope (compEnvC scope cl C X.env) fp) ifs tt mt)
    (hk : ∀ (s : Shared) (H : Hp) (C : Addr) (cl : List (Str × Addr)) (fp : List Addr), Ex_ (X.blk s H scope (compEnvC scope cl C X.env) fp) kx tk mk)
    (hv : ∀ (s : Shared) (H : Hp) (C : Addr) (cl : List (Str × Addr)) (fp : List Addr), Ex_ (X.blk s H scope (compEnvC scope cl C X.env) fp) vx tv mv) (hs : ∀ x, foldedSetIterable iter X.env x = pure x := by intro _; rfl) :
    Sx X (.Assign [.Name y py] (.DictComp kx vx [⟨tg, iter, ifs, 0⟩] scope pos) spos) (tAsg (tDc wi g tt tk tv (own.map (·.2))) (gName i)) (setS i (dcompM (own.map (·.2)) mi gm mt mk mv)) :=
  ⟨ps_setDc hc hN hy hyl hsw hi.pi ok (fun s H C cl fp => (hg s H C cl fp).pg) (fun s H C cl fp => (ht s H C cl fp).pt) (fun s H C cl fp => (hk s H C cl fp).pe) (fun s H C cl fp => (hv s H C cl fp).pe) hs,
   sm_set i (em_dcomp hi.im (hg X.s_0 X.H_0 0 [] []).gm (ht X.s_0 X.H_0 0 [] []).tm (hk X.s_0 X.H_0 0 [] []).em (hv X.s_0 X.H_0 0 [] []).em)⟩
/-- name = {k: v for x in d} -/
theorem ssetDCK (i : Nat) (hc : X.calm = true) (hN : X.N.Nodup) (hy : X.N[i]? = some y) (hyl : X.env.scope.names.lookup y = some .local) (hsw : swapsWith (.DictComp kx vx [⟨tg, iter, ifs, 0⟩] scope pos) (some (.Name y py)) spos.line X.env = pure true) (hd : PE X iter td) (hsr : Src X.K td ms) (ok : BlkOk X.N X.env.scope scope own)
    (hg : ∀ (s : Shared) (H : Hp) (C : Addr) (cl : List (Str × Addr)) (fp : List Addr), Gc (X.blk s H scope (compEnvC scope cl C X.env) fp) (own.map (·.2)) tg g gm)
    (ht : ∀ (s : Shared) (H : Hp) (C : Addr) (cl : List (Str × Addr)) (fp : List Addr), Px (X.blk s H scope (compEnvC scope cl C X.env) fp) ifs tt mt)
    (hk : ∀ (s : Shared) (H : Hp) (C : Addr) (cl : List (Str × Addr)) (fp : List Addr), Ex_ (X.blk s H scope (compEnvC scope cl C X.env) fp) kx tk mk)
    (hv : ∀ (s : Shared) (H : Hp) (C : Addr) (cl : List (Str × Addr)) (fp : List Addr), Ex_ (X.blk s H scope (compEnvC scope cl C X.env) fp) vx tv mv) (hs : ∀ x, foldedSetIterable iter X.env x = pure x := by intro _; rfl) :
    Sx X (.Assign [.Name y py] (.DictComp kx vx [⟨tg, iter, ifs, 0⟩] scope pos) spos) (tOrL (tAsg (tDc (iKeys td) g tt tk tv (own.map (·.2))) (gName i))) (setS i (overK ms fun ds => dcompM (own.map (·.2)) (constI ds) gm mt mk mv)) := by
  have p := ps_setDc (py := py) hc hN hy hyl hsw (pi_keys (tg := tg) hd) ok (fun s H C cl fp => (hg s H C cl fp).pg) (fun s H C cl fp => (ht s H C cl fp).pt) (fun s H C cl fp => (hk s H C cl fp).pe) (fun s H C cl fp => (hv s H C cl fp).pe) hs
  refine ⟨ps_or (ps_lock p) p, fun {μ Hd H σ E R} r q D d => ?_⟩
  unfold setS at q
  split at q
  · rename_i r0 E1 e1
    cases q
    rcases over_run hsr (atm_dc (hg X.s_0 X.H_0 0 [] []).gm (ht X.s_0 X.H_0 0 [] []).tm (hk X.s_0 X.H_0 0 [] []).em (hv X.s_0 X.H_0 0 [] []).em) r e1 with ⟨a, kvs, h1, h2⟩ | h2
    · exact .inl ⟨a, .dK kvs, h1, True.intro, fun od => h2 od (fun v H' => H' a = some (.frz od (.dK kvs)) ∧ D.nx (σ.set i (some v)) (upd H' a (.dK kvs))) fun μ' Hd' H' v f1 f2 f3 f4 => ⟨f1, d _ _ _ _ f2 (f3.setE i f4)⟩⟩
    · exact .inr (h2 (fun v H' => D.nx (σ.set i (some v)) H') fun μ' Hd' H' v f2 f3 f4 => d _ _ _ _ f2 (f3.setE i f4))
  · cases q
end
end Hk
/-! Hk25: bits of ints, written words, small things. -/
namespace Hk
open PySem PySem.Spec PyProof.Rows L2 Evl
section
variable {K : PySem.W.Frag} {X : Cx} {e : Expr} {te te' : TE} {pos : Pos}
abbrev bandF := intF fun i j => some (.int (Builtin.bitAnd i j))
abbrev borF := intF fun i j => some (.int (Builtin.bitOr i j))
abbrev bxorF := intF fun i j => some (.int (Builtin.bitXor i j))
theorem om_band : OM K (rI0 fun i j => .int (Builtin.bitAnd i j)) (op2 bandF) := om_intI0
theorem om_bor : OM K (rI0 fun i j => .int (Builtin.bitOr i j)) (op2 borF) := om_intI0
theorem om_bxor : OM K (rI0 fun i j => .int (Builtin.bitXor i j)) (op2 bxorF) := om_intI0
theorem set_dictR {kk : Nat} (hr : Room kk X.A) : PSet X rSetD := set_dict (by have := hr.units; omega)
theorem re_pe (h : PE X e te) (q : te = te') : PE X e te' := q ▸ h
theorem xgstr {s : Str} {x : Str} {u : Value} (hm : X.mg x = some u) (hr : RelV (.str s) u) (hg : Gl X x := by rfl) (hdb : (x == ("__debug__" : Str)) = false := by decide) : Ex_ X (.Name x pos) (tC (.str s)) (retM (.d (.str s))) := ⟨pe_glob hg hm hr hdb, em_c (d := .str s) fun _ => (rfl : V.str s = .str s)⟩
end
end Hk
/-! Hk26: t[:0:-1] of a tuple. -/
namespace Hk
open PySem PySem.Spec PyProof.Rows HT L2 Evl
section
variable {prog : Program} {w : World} {A : Around} {E : Value → Shared → Prop} {s : Shared}
theorem adj_back (n : Nat) : Builtin.Slice.sliceAdjust none (some 0) (-1) (n : Int) = ((n : Int) - 1, min 0 ((n : Int) - 1)) := by
  unfold Builtin.Slice.sliceAdjust
  rfl
theorem plc_back (n : Nat) : Builtin.Slice.slicePlaces ((n : Int) - 1) (min 0 ((n : Int) - 1)) (-1) = n - 1 := by
  unfold Builtin.Slice.slicePlaces
  have h1 : ¬ ((-1 : Int) > 0) := by decide
  have h2 : (- (-1) : Int) = 1 := by decide
  simp only [h1, if_false, h2, Int.ediv_one]
  split <;> omega
theorem fm_congr {α β : Type} {f g : α → Option β} : ∀ {l : List α}, (∀ a ∈ l, f a = g a) → l.filterMap f = l.filterMap g
  | [], _ => rfl
  | x :: l, h => by
    rw [List.filterMap_cons, List.filterMap_cons, h x (List.mem_cons_self ..), fm_congr fun a ha => h a (List.mem_cons_of_mem _ ha)]
theorem pick_back (xs : Array Value) : ((List.range (xs.size - 1)).filterMap fun (m : Nat) => xs[(((xs.size : Int) - 1) + (m : Int) * (-1)).toNat]?).toArray = (xs.toList.drop 1).reverse.toArray := by
  congr 1
  have e : ∀ (m : Nat), m ∈ List.range (xs.size - 1) → xs[(((xs.size : Int) - 1) + (m : Int) * (-1)).toNat]? = ((xs.toList.drop 1).reverse)[m]? := fun m hm => by
    have hm := List.mem_range.mp hm
    have l : (xs.toList.drop 1).length = xs.size - 1 := by simp
    rw [List.getElem?_reverse (by rw [l]; exact hm), List.getElem?_drop, Array.getElem?_toList, l]
    congr 1
    omega
  rw [fm_congr e]
  have l : (xs.toList.drop 1).reverse.length = xs.size - 1 := by simp
  rw [← l]
  generalize (xs.toList.drop 1).reverse = ys
  have := PySem.W.krv_all ys.toArray
  simpa using this
theorem app_back {sl : Addr} {vl vu vs : Value} {n : Nat} {Q : Int × Int × Nat → Shared → Prop} (hs : s.heap.IsSliceOf sl vl vu vs) (pl : IsPart vl none) (pu : IsPart vu (some 0)) (ps : IsPart vs (some (-1))) (h : Q (((n : Int) - 1), -1, n - 1) s) : wpAny (model prog w) A (Builtin.Slice.sliceApplied (.ref sl) (pure (n : Int))) Q E s := by
  obtain ⟨o, h1, h2, h3⟩ := id hs
  unfold Builtin.Slice.sliceApplied Builtin.Slice.sliceFields
  refine wpAny_bind (wpAny_bind (wpAny_field h1 h3 (x := vl) rfl (wpAny_bind (wpAny_field h1 h3 (x := vu) rfl (wpAny_bind (wpAny_field h1 h3 (x := vs) rfl (wpAny_pure ?_)))))))
  refine wpAny_bind (slicePart_ ps ?_)
  show wpAny _ _ (if ((-1 : Int) == 0) = true then _ else _) _ _ s
  rw [if_neg (by decide)]; refine wpAny_bind (slicePart_ pl (wpAny_bind (slicePart_ pu (wpAny_bind (wpAny_pure ?_)))))
  show wpAny _ _ (match Builtin.Slice.sliceAdjust none (some 0) (-1) (n : Int) with | (lo, hi) => pure (lo, (-1 : Int), Builtin.Slice.slicePlaces lo hi (-1))) _ _ s
  rw [adj_back]
  show wpAny _ _ (pure ((n : Int) - 1, (-1 : Int), Builtin.Slice.slicePlaces ((n : Int) - 1) (min 0 ((n : Int) - 1)) (-1))) _ _ s
  rw [plc_back]
  exact wpAny_pure h
theorem get_back {t sl : Addr} {items : Array Value} {vl vu vs : Value} {Q : Value → Shared → Prop} (ht : IsTup s.heap t items) (hs : s.heap.IsSliceOf sl vl vu vs) (pl : IsPart vl none) (pu : IsPart vu (some 0)) (ps : IsPart vs (some (-1))) (hz : items.size ≤ sizeLine)
    (h : Q (.ref s.heap.objs.size) { s with heap := s.heap.push { cls := .type "tuple", data := .seq (items.toList.drop 1).reverse.toArray } }) : wpAny (model prog w) A (getItem (.ref t) (.ref sl)) Q E s := by
  have ok : sizeOk (.seq (items.toList.drop 1).reverse.toArray) := by
    show ((items.toList.drop 1).reverse.toArray).size ≤ sizeLine
    simp
    omega
  obtain ⟨o, h1, h2, h3⟩ := id hs
  have hT : s.TypeIs (.ref sl) "slice" := ⟨o, h1, h2⟩
  unfold getItem
  try with_reducible refine wpAny_holding ?_
  first | refine wpAny_bind (wpAny_pure ?_) | skip
  refine wpAny_bind (wpAny_sequenceKey ht.typeIs (by decide) ?_); refine wpAny_bind (wpAny_callSpecial?_slot (name := Str.ofString "__getitem__") ht.typeIs PyProof.Rows.slot_tuple_getitem (wpAny_call_entry PyProof.Rows.slot_tuple_getitem ht.typeIs entry_tuple_getitem ?_ (args_tuple_getitem _ _)))
  show wpAny _ _ (Builtin.Tuple.tupleItemsOf (.ref t) >>= _) _ _ s
  refine wpAny_bind (tupleItemsOf_ ht (wpAny_bind (wpAny_typeOf hT ?_)))
  rw [if_pos (by decide)]; refine wpAny_bind (app_back hs pl pu ps ?_)
  have no : ¬ (((((items.size : Int) - 1) == 0) && ((-1 : Int) == 1) && (items.size - 1 == items.size)) = true) := by simp
  show wpAny _ _ (if (((((items.size : Int) - 1) == 0) && ((-1 : Int) == 1) && (items.size - 1 == items.size)) = true) then _ else _) _ _ s
  rw [if_neg no, pick_back]
  first
    | exact wpAny_bind (m := Builtin.Tuple.tupleExact _) (wpAny_newObj_type (wpAny_pure ⟨_, rfl, wpAny_pure h⟩) ok)
    | exact wpAny_bind (m := Builtin.Tuple.tupleExact _) (wpAny_newObj_type (wpAny_bind (wpAny_pure (wpAny_pure ⟨_, rfl, wpAny_pure h⟩))) ok)
    | exact wpAny_bind (wpAny_bind (m := Builtin.Tuple.tupleExact _) (wpAny_newObj_type (wpAny_pure (wpAny_pure ⟨_, rfl, wpAny_pure h⟩)) ok))
    | exact wpAny_bind (wpAny_bind (m := Builtin.Tuple.tupleExact _) (wpAny_newObj_type (wpAny_pure ⟨_, rfl, wpAny_pure h⟩) ok))
end
section
variable {X : Cx} {e : Expr} {te : TE} {m : M Vl} {k k0 : Nat} {p0 p1 p2 p3 pos : Pos}
/-- t[:0:-1] -/
def tBack (K : PySem.W.Frag) (te : TE) : TE := fun σ H Q => te σ H fun x H1 => ∃ a xs, x = .ref a ∧ SqT K H1 a xs ∧ ∀ p, H1 p = none → Q (.ref p) (upd H1 p (.tup (xs.drop 1).reverse))
theorem vals_drop {xs : List V} {vs : List Value} (r : Vals xs vs) : Vals (xs.drop 1) (vs.drop 1) := by
  cases r with
  | nil => exact .nil
  | cons h t => exact t
theorem pe_back (he : PE X e te) : PE X (.Subscript e (.Slice none (some (.Constant (.int 0) k0 p0)) (some (.UnaryOp .USub (.Constant (.int 1) k p1) p2)) p3) pos) (tBack X.K te) := by
  refine ⟨fun pins s σ H Q I h => ?_⟩
  refine Subscript_ (thn (he.run pins s σ H _ I h) fun v s1 ⟨x, H1, I1, r1, a, xs, ex, hx, q⟩ => ?_)
  subst ex
  cases r1
  have zr : PO X (some (.Constant (.int 0) k0 p0)) (tPart (tC (.int 0))) := po_some pe_int
  have mi : PO X (some (.UnaryOp .USub (.Constant (.int 1) k p1) p2)) (tPart (tUn (rU fun i => .int (-i)) (tC (.int 1)))) := po_some (pe_un un_neg pe_int)
  refine wpAny_Slice (thn (po_none.run pins s1 σ H1 (fun o K2 => o = none ∧ K2 = H1) I1 ⟨rfl, rfl⟩) fun vl s2 ⟨l, H2, I2, pl, e1, e2⟩ => ?_)
  subst e1 e2
  refine thn (zr.run pins s2 σ H2 (fun o K3 => o = some 0 ∧ K3 = H2) I2 ⟨0, rfl, rfl, rfl⟩) fun vu s3 ⟨u, H3, I3, pu, e1, e2⟩ => ?_
  subst e1 e2
  refine thn (mi.run pins s3 σ H3 (fun o K4 => o = some (-1) ∧ K4 = H3) I3 ⟨1, rfl, -1, rfl, rfl, rfl⟩) fun vs s4 ⟨o, H4, I4, ps, e1, e2⟩ => ?_
  subst e1 e2
  have I5 : L2.Inv X pins σ H4 { s4 with heap := s4.heap.push { cls := .type "slice", data := .fields #[vl, vu, vs] } } := I4.kept (t' := s4.toks) fun b ob z => Heap.get?_push_of_some _ z
  obtain ⟨its, r, ht, hz⟩ := I5.tuple hx
  have hl := r.length
  show wpAny (model X.prog X.w) X.A (subscriptTail e (.Slice none (some (.Constant (.int 0) k0 p0)) (some (.UnaryOp .USub (.Constant (.int 1) k p1) p2)) p3) (.ref a) (.ref s4.heap.objs.size)) (EP X pins σ Q) X.xe { s4 with heap := s4.heap.push { cls := .type "slice", data := .fields #[vl, vu, vs] } }
  refine tail_any (ops := [.ref a, .ref s4.heap.objs.size]) ht.typeIs (PyProof.Rows.slot_tuple_getitem.lookup) ?_ (by with_unfolding_all rfl)
  refine get_back ht (Heap.IsSliceOf.new _ vl vu vs) pl pu ps (by rw [List.size_toArray]; omega) ?_
  refine ⟨.ref _, _, I5.laid (t' := s4.toks) (o := .tup (xs.drop 1).reverse) (fun b ob z => Heap.get?_push_of_some _ z) (Nat.le_refl _) ?_, rfl, q _ (I5.hok.fresh (Nat.le_refl _))⟩
  refine ⟨by rw [List.length_reverse, List.length_drop]; omega, _, (vals_drop r).reverse, _, Heap.get?_push_size _ rfl, rfl, 0, ?_⟩
  simp
def backM (m : M Vl) : M Vl := bindM m fun x => fun E => match see E.ce x with
  | some (.tup ds) => some (.d (.tup (ds.drop 1).reverse), E)
  | _ => none
theorem xback (h : Ex_ X e te m) : Ex_ X (.Subscript e (.Slice none (some (.Constant (.int 0) k0 p0)) (some (.UnaryOp .USub (.Constant (.int 1) k p1) p2)) p3) pos) (tBack X.K te) (backM m) := ⟨pe_back h.pe, fun {μ Hd H σ E r E'} R e Q q => by
  obtain ⟨x, E1, e1, e2⟩ := bindM_some e
  refine h.em R e1 _ fun μ1 Hd1 H1 v g1 R1 r1 => ?_
  split at e2
  · rename_i ds e3
    cases e2
    obtain ⟨a, us, rfl, h2, h3⟩ := see_tup R1.wo r1 e3
    refine ⟨a, us, rfl, h2, fun p hp => ?_⟩
    obtain ⟨g2, R2⟩ := R1.newD (o := .tup (us.drop 1).reverse) hp rfl
    have h4 : RpA X.K Hd1 ds us := by
      have e4 := see_flat e3
      subst e4
      obtain ⟨b, ws, e5, e6, e7⟩ := r1
      cases e5
      exact h3
    exact q _ _ _ _ (g1.trans g2) R2 ⟨p, _, rfl, sqt_of upd_same, RpA.ex g2.ex _ _ (RpA.rev (RpA.drop 1 h4))⟩
  · cases e2⟩
end
end Hk
/-! Hk27: t.index(x) of a tuple of flat things. -/
namespace Hk
open PySem PySem.Spec PyProof.Rows L2 Evl
section
variable {X : Cx}
def rTix (K : PySem.W.Frag) : V → List V → Hp → VK → Prop := fun x xs H Q => ∃ (a : Addr) (ys : List V) (y : V) (j : Nat) (z : V), x = .ref a ∧ xs = [y] ∧ SqT K H a ys ∧ flatV y = true ∧ ys.all flatV = true ∧ ys[j]? = some z ∧ eqV z y = true ∧ (∀ (m : Nat) (u : V), m < j → ys[m]? = some u → eqV u y = false) ∧ Q (.int (j : Nat)) H
theorem mt_tix : MtR X "tuple.index" (rTix X.K) := by
  rintro pins s σ H x xs v us Q I rx rxs ⟨a, ys, y, j, z, rfl, rfl, hT, fy, fys, hz, hzj, hno, q⟩
  cases rx
  obtain ⟨uy, rfl, ry⟩ := vals1 rxs
  obtain ⟨its, r, pl, _⟩ := I.tuple hT
  obtain ⟨⟨c0, dd, d0, sl⟩, ho, hc, n, hd⟩ := pl
  simp only at hc hd
  subst hc
  subst hd
  have lv := r.length
  have at_ : ∀ (m : Nat) (w : V) (hm : m < its.toArray.size), ys[m]? = some w → eqU y its.toArray[m] = eqV w y := fun m w hm hw => by
    obtain ⟨u, hu, ru⟩ := r.get hw
    have e : its.toArray[m] = u := by
      have := (List.getElem?_eq_some_iff.mp hu).2
      simpa using this
    rw [e, eqU_of ru (flat_at fys hw)]
  have hj : j < its.toArray.size := by
    have := (List.getElem?_eq_some_iff.mp hz).1
    rw [List.size_toArray]
    omega
  refine call_meets PySem.F.slot_tuple_index ⟨_, ho, rfl⟩ PySem.F.entry_tuple_index (PySem.F.args_tuple_index_2 _ _) (TI.tuple_indexAt a its.toArray n dd sl uy (eqU y) j hj ?_ ?_) ⟨ho, fun w hw => mem_eqAt ry fy r fys w (by simpa using hw), ⟨.int (j : Nat), H, I.tok _, ⟨_, rfl⟩, q⟩⟩
  · rw [at_ j z hj hz]
    exact hzj
  · intro m hm hmj
    have hm' : m < ys.length := by
      rw [List.size_toArray] at hm
      omega
    have e := List.getElem?_eq_getElem hm'
    rw [at_ m _ hm e]
    exact hno m _ hmj e
/-- the first place -/
def idxV (y : V) : List V → Option Nat
  | [] => none
  | x :: r => if eqV x y = true then some 0 else (idxV y r).map (· + 1)
theorem idxV_ok {y : V} : ∀ {l : List V} {j : Nat}, idxV y l = some j → ∃ z, l[j]? = some z ∧ eqV z y = true ∧ ∀ (m : Nat) (u : V), m < j → l[m]? = some u → eqV u y = false
  | [], j, h => by cases h
  | x :: r, j, h => by
    unfold idxV at h
    split at h
    · rename_i he
      cases h
      exact ⟨x, rfl, he, fun m u hm => absurd hm (Nat.not_lt_zero _)⟩
    · rename_i he
      obtain ⟨i, h1, rfl⟩ := Option.map_eq_some_iff.mp h
      obtain ⟨z, h2, h3, h4⟩ := idxV_ok h1
      refine ⟨z, by simpa using h2, h3, fun m u hm hu => ?_⟩
      cases m with
      | zero =>
        have : x = u := by simpa using hu
        subst this
        simpa using he
      | succ m => exact h4 m u (by omega) (by simpa using hu)
def tixF : Vl → List Vl → M Vl := fun x xs => match xs with
  | [y] => fun E => match see E.ce x, (see E.ce y).bind flD with
    | some (.tup ds), some v => match flA ds with
      | some vs => (idxV v vs).map fun j => (.d (.int (j : Nat)), E)
      | none => none
    | _, _ => none
  | _ => failM
theorem mm_tix {K : PySem.W.Frag} : MM K "tuple" (rTix K) tixF := fun {μ Hd H σ E x vx xs vs z E'} R hx hxs e Q q => by
  unfold tixF at e
  split at e
  · rename_i y
    split at e
    · rename_i ds w e1 e2
      split at e
      · rename_i ws e3
        obtain ⟨j, e4, e5⟩ := Option.map_eq_some_iff.mp e
        cases e5
        obtain ⟨vy, rfl, ry⟩ := hxs.one
        obtain ⟨dy, e6, e7⟩ := Option.bind_eq_some_iff.mp e2
        obtain ⟨rfl, fy⟩ := flD_ok (see_ok R.wo ry e6) e7
        obtain ⟨a, us, rfl, h1, h2⟩ := see_tup R.wo hx e1
        obtain ⟨rfl, fu⟩ := flA_ok h2 e3
        obtain ⟨c, i1, i2, i3⟩ := idxV_ok e4
        exact ⟨a, us, vy, j, c, rfl, rfl, h1, fy, fu, i1, i2, i3, q _ _ _ _ (Gr.refl _ _) R rfl⟩
      · cases e
    · cases e
  · cases e
variable {e o : Expr} {es : List Expr} {to : TE} {mo : M Vl} {tes : TA} {mes : M (List Vl)} {apos cpos : Pos}
theorem xtix (ho : Ex_ X o to mo) (ha : Ax X (e :: es) tes mes) (hbase : attributeBase o "index" X.env (eval o X.env) = eval o X.env := by rfl)
    (hfew : ((backTo cpos (starEach (e :: es) X.env)).all (fun x => !x.1) && (backToKw cpos (keywordEach [] X.env)).all (fun x => x.1.isSome) && decide ((e :: es).length + ([] : List Keyword).length + (if ([] : List Keyword).isEmpty then 0 else 1) < 30)) = true := by rfl) (hline : (apos.endLine == cpos.line) = true := by rfl) (hs : starEach (e :: es) X.env = (false, eval e X.env) :: starEach es X.env := by rfl) (hplain : (backTo cpos (starEach es X.env)).any (·.1) = false := by rfl) :
    Ex_ X (.Call (.Attribute o "index" apos) (e :: es) [] cpos) (tBM X.K "tuple" (rTix X.K) to tes) (bmM "tuple" mo mes tixF) := ⟨pe_bm PySem.F.plainAttrs_tuple PySem.F.slot_tuple_index PySem.F.type_tuple_index mt_tix ho.pe ha.pa hbase hfew hline hs hplain, em_bm ho.em ha.am mm_tix⟩
end
end Hk
/-! Hk28: shifts. -/
namespace Hk
open PySem PySem.Spec PyProof.Rows L2 Evl
section
variable {K : PySem.W.Frag}
instance : ∀ i j, Decidable (CShl i j) := fun i j => by unfold CShl; infer_instance
instance : ∀ i j : Int, Decidable ((fun _ j => 0 ≤ j : Int → Int → Prop) i j) := fun i j => by show Decidable (0 ≤ j); infer_instance
abbrev shlF := intF fun i j => if CShl i j then some (.int (i * 2 ^ j.toNat)) else none
abbrev shrF := intF fun i j => if (fun _ j => 0 ≤ j : Int → Int → Prop) i j then some (.int (i / 2 ^ j.toNat)) else none
theorem om_shl : OM K (rI CShl fun i j => .int (i * 2 ^ j.toNat)) (op2 shlF) := om_intI
theorem om_shr : OM K (rI (fun _ j => 0 ≤ j) fun i j => .int (i / 2 ^ j.toNat)) (op2 shrF) := om_intI
end
/-- list(d), d locked or not -/
def rLd : List V → Hp → VK → Prop := fun xs H Q => ∃ a kvs, xs = [.ref a] ∧ Rd H a (.dK kvs) ∧ ∀ p, H p = none → Q (.ref p) (upd H p (.lst ((kvs.map (·.1)).map kV)))
theorem cr_ld {X : Cx} (hc : X.calm = true) : CallR X (.type "list") rLd := by
  intro pins s σ H xs us Q I r h
  obtain ⟨a, kvs, rfl, hk, q⟩ := h
  obtain ⟨u, rfl, rx⟩ := vals1 r
  cases rx
  obtain ⟨z, lo, vs, rk, hd⟩ := dk_rd I.hok hk
  obtain ⟨ep, hat⟩ := hd.dictAt
  have hl := rk.length
  have ks := KV.keys rk
  refine PySem.W.kdl_call (PySem.W.kdl_dict (knd := mixKind X.prog X.w) (kvs := vs) (ep := ep) lo) (I.ok.hd hc) hat (by omega) fun h2 tk acc c keep h4 h5 => ?_
  have n : ((kvs.map (·.1)).map kV).length ≤ sizeLine := by rw [List.length_map, List.length_map]; exact z
  have vals : Vals ((kvs.map (·.1)).map kV) acc.toList := by
    have ez : ((kvs.map (·.1)).map kV).length = acc.toList.length := by
      have e1 := h5.1
      have e2 : acc.toList.length = acc.size := by simp
      rw [List.length_map, List.length_map]
      omega
    refine vals_of_at ez fun j x w h6 h7 => ?_
    obtain ⟨k, y, h8, h9⟩ := h5.2 j w (by rw [← Array.getElem?_toList]; exact h7)
    rw [ks, List.getElem?_map, List.getElem?_map, h8] at h6
    cases h6
    exact keyIs_rel h9
  exact ⟨.ref s.heap.objs.size, _, I.laid (o := .lst ((kvs.map (·.1)).map kV)) keep (Nat.le_refl _) ⟨n, acc.toList, c, vals, by rw [Array.toArray_toList]; exact h4⟩, rfl, q _ (I.hok.fresh (Nat.le_refl _))⟩
theorem rp_keys {K : PySem.W.Frag} {H : Hp} : ∀ l : List Key, RpA K H (l.map kD) (l.map kV)
  | [] => rfl
  | k :: l => ⟨kV k, l.map kV, rfl, kD_ok k, rp_keys l⟩
/-- list(d) -/
def listDF : List Vl → M Vl := fun xs E => match xs with
  | [x] => match seeK E.ce x with
    | some (ks, _) => newL (ks.map kD) E
    | none => none
  | _ => none
theorem cm_listD {K : PySem.W.Frag} : CM K rLd listDF := fun {μ Hd H σ E xs vs z E'} R hx e Q q => by
  unfold listDF at e
  split at e
  · rename_i x
    split at e
    · rename_i ks ds e1
      obtain ⟨v, rfl, h1⟩ := hx.one
      obtain ⟨a, kvs, rfl, h2, h3, h4⟩ := seeK_ok R.wo h1 e1
      refine ⟨a, kvs, rfl, h2, fun p hp => ?_⟩
      rw [h3]
      obtain ⟨g, R', r'⟩ := newL_ok R (rp_keys ks) e hp
      exact q _ _ _ _ g R' r'
    · cases e
  · cases e
end Hk
/-! Hk29: dict(list of pairs), d.get. -/
namespace Hk
open PySem PySem.Spec PyProof.Rows L2 Evl
def rDp (K : PySem.W.Frag) : List V → Hp → VK → Prop := fun xs H Q => ∃ (a : Addr) (ps : List Addr) (kvs : List (Key × V)), xs = [.ref a] ∧ SqL K H a (ps.map V.ref) ∧ Paired (fun p kv => SqT K H p [kV kv.1, kv.2]) ps kvs ∧ ∀ p, H p = none → Q (.ref p) (upd H p (.dK (mergeK [] kvs)))
theorem cr_dp {X : Cx} (h : X.calm = true) : CallR X (.type "dict") (rDp X.K) := call_dictP h
def keyD : Dt → Option Key
  | .int i => some (.inl i)
  | .str s => some (.inr s)
  | _ => none
theorem keyD_ok {K : PySem.W.Frag} {H : Hp} {d : Dt} {v : V} {k : Key} (h : keyD d = some k) (r : Rp K H d v) : v = kV k := by
  cases d with
  | int i => cases h; exact r
  | str s => cases h; exact r
  | _ => cases h
def pairsD : List Dt → Option (List Key × List Dt)
  | [] => some ([], [])
  | .tup [k, v] :: r => match keyD k, pairsD r with
    | some kk, some (ks, ds) => some (kk :: ks, v :: ds)
    | _, _ => none
  | _ :: _ => none
theorem pairsD_ok {K : PySem.W.Frag} {Hd H : Hp} (w : ExS Hd H) : ∀ {es : List Dt} {us : List V} {ks : List Key} {ds : List Dt}, pairsD es = some (ks, ds) → RpA K Hd es us → ∃ (ps : List Addr) (kvs : List (Key × V)), us = ps.map V.ref ∧ Paired (fun p kv => SqT K H p [kV kv.1, kv.2]) ps kvs ∧ kvs.map (·.1) = ks ∧ RpA K Hd ds (kvs.map (·.2))
  | [], us, ks, ds, h, r => by
    cases h
    exact ⟨[], [], r, .nil, rfl, rfl⟩
  | d :: es, us, ks, ds, h, r => by
    unfold pairsD at h
    split at h
    · cases ‹_ :: _ = []›
    · rename_i k v r0 e
      cases e
      split at h
      · rename_i kk ks2 ds2 e1 e2
        cases h
        obtain ⟨x, us2, rfl, r1, r2⟩ := r
        obtain ⟨a, vs, rfl, h1, h2⟩ := r1
        obtain ⟨x1, t1, rfl, h3, h4⟩ := h2
        obtain ⟨x2, t2, rfl, h5, h6⟩ := h4
        obtain rfl : t2 = [] := h6
        obtain rfl := keyD_ok e1 h3
        obtain ⟨ps, kvs, rfl, p2, rfl, p4⟩ := pairsD_ok w e2 r2
        exact ⟨a :: ps, (kk, x2) :: kvs, rfl, .cons (exs_t w h1) p2, rfl, x2, _, rfl, h5, p4⟩
      · cases h
    · cases h
def dictPF : List Vl → M Vl := fun xs E => match xs with
  | [x] => match (lstS E.ce x).bind pairsD with
    | some (ks, ds) => some (.c E.ce.length, ⟨E.sl, E.ce ++ [.dic (mrgN [] ks) (mrgD [] [] ks ds)]⟩)
    | none => none
  | _ => none
theorem cm_dp {K : PySem.W.Frag} : CM K (rDp K) dictPF := fun {μ Hd H σ E xs vs z E'} R hx e Q q => by
  unfold dictPF at e
  split at e
  · rename_i x
    split at e
    · rename_i ks ds e1
      cases e
      obtain ⟨v, rfl, h1⟩ := hx.one
      obtain ⟨es, e2, e3⟩ := Option.bind_eq_some_iff.mp e1
      obtain ⟨a, us, rfl, h2, h3⟩ := lstS_ok R.wo h1 e2
      obtain ⟨ps, kvs, rfl, p2, rfl, p4⟩ := pairsD_ok R.wo.ex e3 h3
      refine ⟨a, ps, kvs, rfl, h2, p2, fun p hp => ?_⟩
      obtain ⟨q1, q2⟩ := mrg_ok (K := K) (H := Hd) (more := kvs) (es := ds) (kvs := []) (ds := []) p4 (rfl : ([] : List V) = [])
      simp only [List.map_nil] at q1 q2
      obtain ⟨g, R', r'⟩ := R.newX (c := .dic (mrgN [] (kvs.map (·.1))) (mrgD [] [] (kvs.map (·.1)) ds)) (o := .dK (mergeK [] kvs)) hp ⟨_, rfl, q1, q2⟩
      exact q _ _ _ _ g R' r'
    · cases e
  · cases e
/-! ### d.get(k, x) -/
section
variable {X : Cx} {o a b : Expr} {td ta tb : TE} {md ma mb : M Vl} {apos cpos : Pos}
def getM (md ma mb : M Vl) : M Vl := bindM md fun x => fun E => if (seeK E.ce x).isSome = true then (bindM ma fun y => bindM mb fun z => fun E => match seeK E.ce x, keyV y with
  | some (ks, ds), some k => match kGet k ks ds with
    | some d => some (.d d, E)
    | none => some (z, E)
  | _, _ => none) E else none
theorem em_get {K : PySem.W.Frag} (hd : EM K td md) (ha : EM K ta ma) (hb : EM K tb mb) : EM K (tDGet2 td ta tb) (getM md ma mb) := fun {μ Hd H σ E r E'} R e Q q => by
  obtain ⟨x, E1, e1, e2⟩ := bindM_some e
  split at e2
  · rename_i hs
    obtain ⟨⟨ks0, ds0⟩, e0⟩ := Option.isSome_iff_exists.mp hs
    refine hd R e1 _ fun μ1 Hd1 H1 v g1 R1 r1 => ?_
    obtain ⟨a, kvs0, rfl, h1, _, _⟩ := seeK_ok R1.wo r1 e0
    refine ⟨a, rfl, .inl ⟨kvs0, h1⟩, ?_⟩
    obtain ⟨y, E2, e3, e4⟩ := bindM_some e2
    obtain ⟨z, E3, e5, e6⟩ := bindM_some e4
    refine ha R1 e3 _ fun μ2 Hd2 H2 vy g2 R2 r2 => hb R2 e5 _ fun μ3 Hd3 H3 vz g3 R3 r3 => ?_
    split at e6
    · rename_i ks ds k s1 s2
      obtain ⟨a', kvs, ea, h2, rfl, h3⟩ := seeK_ok R3.wo (Rv.gr (g2.trans g3) r1) s1
      cases ea
      have ey := keyV_ok (Rv.gr g3 r2) s2
      refine ⟨valV kvs k, .inl ⟨kvs, k, h2, ey, rfl⟩, ?_⟩
      cases e7 : kGet k (kvs.map (·.1)) ds with
      | none =>
        rw [e7] at e6
        cases e6
        rw [kGet_no h3 e7]
        exact q _ _ _ _ ((g1.trans g2).trans g3) R3 r3
      | some d =>
        rw [e7] at e6
        cases e6
        obtain ⟨u, h4, h5⟩ := kGet_ok h3 e7
        rw [h4]
        exact q _ _ _ _ ((g1.trans g2).trans g3) R3 h5
    · cases e6
  · cases e2
theorem xget {kk : Nat} (hr : Room kk X.A) (hd : Ex_ X o td md) (ha : Ex_ X a ta ma) (hb : Ex_ X b tb mb) (m : M2 X o "get" apos a b cpos := by exact ⟨rfl, rfl, rfl, rfl⟩) : Ex_ X (.Call (.Attribute o "get" apos) [a, b] [] cpos) (tDGet2 td ta tb) (getM md ma mb) := ⟨pe_dget2 (by have := hr.units; omega) hd.pe ha.pe hb.pe m, em_get hd.em ha.em hb.em⟩
end
end Hk
/-! Hk30: tuples that hold cells. -/
namespace Hk
open PySem PySem.Spec PyProof.Rows L2 Evl
def tupCM (m : M (List Vl)) : M Vl := bindM m fun rs => if rs.length ≤ 100000 then retM (.t rs) else failM
section
variable {X : Cx} {es : List Expr} {e : Expr} {tes : TA} {mes : M (List Vl)} {pos : Pos}
theorem xtupC {k : _} (h : Ax X es tes mes) : Ex_ X (.Tuple es k pos) (tTup tes) (tupCM mes) := ⟨pe_tup h.pa, fun {μ Hd H σ E r E'} R e Q q => by
  obtain ⟨rs, E1, e1, e⟩ := bindM_some e
  split at e
  · rename_i hz
    cases e
    refine h.am R e1 _ fun μ1 Hd1 H1 vs g1 R1 r1 => ?_
    refine ⟨by rw [r1.len]; exact sz_of hz, fun p hp => ?_⟩
    obtain ⟨g2, R2⟩ := R1.newD (o := .tup vs) hp rfl
    exact q _ _ _ _ (g1.trans g2) R2 ⟨p, vs, rfl, upd_same, (RvA.gr g2 r1).l⟩
  · cases e⟩
/-- names for what a tuple holds -/
def gsV : List (Vl → En → Option En) → List Vl → En → Option En
  | [], [], E => some E
  | g :: gs, r :: rs, E => match g r E with
    | some E1 => gsV gs rs E1
    | none => none
  | _, _, _ => none
def tupV (gs : List (Vl → En → Option En)) : Vl → En → Option En
  | .t rs, E => gsV gs rs E
  | _, _ => none
def GvM (K : PySem.W.Frag) (t : TGs) (gs : List (Vl → En → Option En)) : Prop := ∀ {μ : List Addr} {Hd H : Hp} {σ : L2.St} {E E' : En} {rs : List Vl} {vs : List V}, Rl K μ Hd H σ E → RvA K μ Hd rs vs → gsV gs rs E = some E' → ∀ Q : L2.St → Hp → Prop,
  (∀ μ' Hd' H' σ', Gr μ Hd μ' Hd' → Rl K μ' Hd' H' σ' E' → Q σ' H') → vs.length = gs.length ∧ t vs σ H Q
theorem gvm_nil {K : PySem.W.Frag} : GvM K gNil [] := fun {μ Hd H σ E E' rs vs} R h e Q q => by
  cases h with
  | nil =>
    cases e
    exact ⟨rfl, rfl, q _ _ _ _ (Gr.refl _ _) R⟩
  | cons _ _ => cases e
theorem gvm_cons {K : PySem.W.Frag} {t : TG} {u : TGs} {g : Vl → En → Option En} {gs : List (Vl → En → Option En)} (h1 : GM K t g) (h2 : GvM K u gs) : GvM K (gCons t u) (g :: gs) := fun {μ Hd H σ E E' rs vs} R h e Q q => by
  cases h with
  | nil => cases e
  | cons p1 p2 =>
    rename_i r v rs vs
    unfold gsV at e
    split at e
    · rename_i E1 q1
      have len : vs.length = gs.length := by
        have : ∀ (gs : List (Vl → En → Option En)) (rs : List Vl) (E1 E' : En), gsV gs rs E1 = some E' → rs.length = gs.length := by
          intro gs
          induction gs with
          | nil =>
            intro rs E1 E' h
            cases rs with
            | nil => rfl
            | cons _ _ => cases h
          | cons g gs ih =>
            intro rs E1 E' h
            cases rs with
            | nil => cases h
            | cons r rs =>
              unfold gsV at h
              split at h
              · rw [List.length_cons, List.length_cons, ih _ _ _ h]
              · cases h
        rw [p2.len, this _ _ _ _ e]
      refine ⟨by rw [List.length_cons, List.length_cons, len], v, vs, rfl, h1 R p1 q1 _ fun μ1 Hd1 H1 σ1 g1 R1 => ?_⟩
      exact (h2 R1 (RvA.gr g1 p2) e Q fun μ2 Hd2 H2 σ2 g2 R2 => q _ _ _ _ (g1.trans g2) R2).2
    · cases e
theorem gm_tupV {K : PySem.W.Frag} {t : TGs} {gs : List (Vl → En → Option En)} {n : Nat} (hn : gs.length = n) (h : GvM K t gs) : GM K (gTup K n t) (tupV gs) := fun {μ Hd H σ E E' r v} R hv e Q q => by
  unfold tupV at e
  split at e
  · rename_i rs
    obtain ⟨a, vs, rfl, h2, h3⟩ := hv
    obtain ⟨h4, h5⟩ := h R (RvL.a h3) e Q q
    exact ⟨a, vs, rfl, exs_t R.wo.ex (sqt_of h2), by rw [h4, hn], h5⟩
  · cases e
structure Gvx (X : Cx) (es : List Expr) (t : TGs) (gs : List (Vl → En → Option En)) : Prop where
  pg : PGs X es t
  gm : GvM X.K t gs
theorem gvnil : Gvx X [] gNil [] := ⟨pgs_nil, gvm_nil⟩
theorem gvcons {t : TG} {u : TGs} {g : Vl → En → Option En} {gs : List (Vl → En → Option En)} (h1 : Gx X e t g) (h2 : Gvx X es u gs) (hs : (assignEach (e :: es) X.env).map (·.2) = assign e X.env :: (assignEach es X.env).map (·.2) := by rfl) : Gvx X (e :: es) (gCons t u) (g :: gs) := ⟨pgs_cons h1.pg h2.pg hs, gvm_cons h1.gm h2.gm⟩
theorem gtupV {t : TGs} {gs : List (Vl → En → Option En)} {n k : Nat} (hc : X.calm = true) (h : Gvx X es t gs) (hl : gs.length = n) (hn : (assignEach es X.env).length = n := by rfl) (hst : (assignEach es X.env).findIdx? (·.1) = none := by rfl) : Gx X (.Tuple es k pos) (gTup X.K n t) (tupV gs) := ⟨pg_tup hc h.pg hn hst, gm_tupV hl h.gm⟩
end
end Hk
/-! Hk31: dicts whose keys are tuples. -/
namespace Hk
open PySem PySem.Spec PyProof.Rows L2 Evl
def tGet (k : List Key) : List (List Key) → List Dt → Option Dt
  | j :: ks, d :: ds => if j = k then some d else tGet k ks ds
  | _, _ => none
def tHas (k : List Key) (ks : List (List Key)) : Bool := ks.any fun j => decide (j = k)
def tPutN (k : List Key) (ks : List (List Key)) : List (List Key) := if tHas k ks = true then ks else ks ++ [k]
def tRep (k : List Key) (d : Dt) : List (List Key) → List Dt → List Dt
  | j :: ks, e :: ds => (if j = k then d else e) :: tRep k d ks ds
  | _, _ => []
def tPutD (k : List Key) (d : Dt) (ks : List (List Key)) (ds : List Dt) : List Dt := if tHas k ks = true then tRep k d ks ds else ds ++ [d]
section
variable {K : PySem.W.Frag} {H Hd : Hp}
theorem tGet_ok {k : List Key} : ∀ {kvs : List (List Key × V)} {ds : List Dt} {d : Dt}, RpA K H ds (kvs.map (·.2)) → tGet k (kvs.map (·.1)) ds = some d → ∃ v, valV kvs k = some v ∧ Rp K H d v
  | [], ds, d, _, e => by
    cases ds <;> cases e
  | (j, x) :: kvs, [], d, h, e => by cases e
  | (j, x) :: kvs, y :: ds, d, h, e => by
    obtain ⟨x', r, e0, h2, h3⟩ := h
    cases e0
    have e : (if j = k then some y else tGet k (kvs.map (·.1)) ds) = some d := e
    by_cases hj : j = k
    · rw [if_pos hj] at e
      cases e
      exact ⟨x, by unfold valV; simp [hj], h2⟩
    · rw [if_neg hj] at e
      obtain ⟨v, h4, h5⟩ := tGet_ok h3 e
      refine ⟨v, ?_, h5⟩
      rw [← h4]
      unfold valV
      simp [hj]
theorem tGet_no {k : List Key} : ∀ {kvs : List (List Key × V)} {ds : List Dt}, RpA K H ds (kvs.map (·.2)) → tGet k (kvs.map (·.1)) ds = none → valV kvs k = none
  | [], ds, _, e => rfl
  | (j, x) :: kvs, [], h, e => by
    have := h.len
    simp at this
  | (j, x) :: kvs, y :: ds, h, e => by
    obtain ⟨x', r, e0, h2, h3⟩ := h
    cases e0
    have e : (if j = k then some y else tGet k (kvs.map (·.1)) ds) = none := e
    by_cases hj : j = k
    · rw [if_pos hj] at e
      cases e
    · rw [if_neg hj] at e
      rw [← tGet_no h3 e]
      unfold valV
      simp [hj]
theorem tRep_ok {k : List Key} {d : Dt} {v : V} (hv : Rp K H d v) : ∀ {kvs : List (List Key × V)} {ds : List Dt}, RpA K H ds (kvs.map (·.2)) → RpA K H (tRep k d (kvs.map (·.1)) ds) ((kvs.map fun kv => if kv.1 = k then (kv.1, v) else kv).map (·.2))
  | [], ds, h => by
    cases ds <;> exact (rfl : ([] : List V) = [])
  | (j, x) :: kvs, [], h => by
    have := h.len
    simp at this
  | (j, x) :: kvs, y :: ds, h => by
    obtain ⟨x', r, e0, h2, h3⟩ := h
    cases e0
    have ih := tRep_ok hv h3 (k := k)
    by_cases hj : j = k
    · refine ⟨v, _, ?_, ?_, ih⟩
      · simp [hj]
      · show Rp K H (if j = k then d else y) v
        rw [if_pos hj]
        exact hv
    · refine ⟨x, _, ?_, ?_, ih⟩
      · simp [hj]
      · show Rp K H (if j = k then d else y) x
        rw [if_neg hj]
        exact h2
theorem any_hasT {k : List Key} : ∀ kvs : List (List Key × V), (kvs.any fun kv => decide (kv.1 = k)) = tHas k (kvs.map (·.1)) := fun kvs => by
  unfold tHas
  rw [List.any_map]
  rfl
theorem tPut_ok {k : List Key} {d : Dt} {v : V} (hv : Rp K H d v) {kvs : List (List Key × V)} {ds : List Dt} (h : RpA K H ds (kvs.map (·.2))) : (putK kvs k v).map (·.1) = tPutN k (kvs.map (·.1)) ∧ RpA K H (tPutD k d (kvs.map (·.1)) ds) ((putK kvs k v).map (·.2)) := by
  unfold putK tPutN tPutD
  rw [any_hasT]
  by_cases hm : tHas k (kvs.map (·.1)) = true
  · rw [if_pos hm, if_pos hm, if_pos hm]
    refine ⟨?_, tRep_ok hv h⟩
    rw [List.map_map]
    apply List.map_congr_left
    intro p _
    show (if p.1 = k then (p.1, v) else p).1 = p.1
    by_cases hp : p.1 = k
    · rw [if_pos hp]
    · rw [if_neg hp]
  · rw [if_neg hm, if_neg hm, if_neg hm]
    refine ⟨by simp, ?_⟩
    rw [List.map_append]
    exact h.app (RpA.one hv)
end

def keysT : List Vl → Option (List Key)
  | [] => some []
  | r :: rs => match keyV r, keysT rs with
    | some k, some ks => some (k :: ks)
    | _, _ => none
theorem keysT_ok {K : PySem.W.Frag} {μ : List Addr} {Hd : Hp} : ∀ {rs : List Vl} {vs : List V} {ks : List Key}, RvA K μ Hd rs vs → keysT rs = some ks → vs = ks.map kV
  | [], vs, ks, h, e => by
    cases h
    cases e
    rfl
  | r :: rs, vs, ks, h, e => by
    cases h with
    | cons h1 h2 =>
      unfold keysT at e
      split at e
      · rename_i k ks2 e1 e2
        cases e
        rw [keyV_ok h1 e1, keysT_ok h2 e2]
        rfl
      · cases e
def keyT : Vl → Option (List Key)
  | .t rs => keysT rs
  | _ => none
theorem keyT_ok {K : PySem.W.Frag} {μ : List Addr} {Hd H : Hp} {r : Vl} {v : V} {k : List Key} (w : ExS Hd H) (h : Rv K μ Hd r v) (e : keyT r = some k) : ∃ b, v = .ref b ∧ H b = some (.tup (k.map kV)) := by
  cases r with
  | t rs =>
    obtain ⟨b, vs, rfl, h2, h3⟩ := h
    rw [← keysT_ok (RvL.a h3) e]
    exact ⟨b, rfl, w b _ h2⟩
  | _ => cases e
def seeT (ce : List Ce) : Vl → Option (List (List Key) × List Dt)
  | .c k => match ce[k]? with
    | some (.dit ks ds) => some (ks, ds)
    | _ => none
  | _ => none
theorem seeT_ok {K : PySem.W.Frag} {Hd H : Hp} {μ : List Addr} {ce : List Ce} {r : Vl} {v : V} {ks : List (List Key)} {ds : List Dt} (w : Wo K μ Hd H ce) (hv : Rv K μ Hd r v) (h : seeT ce r = some (ks, ds)) : ∃ a kvs, v = .ref a ∧ H a = some (.dT kvs) ∧ kvs.map (·.1) = ks ∧ RpA K Hd ds (kvs.map (·.2)) := by
  cases r with
  | c k =>
    have h : (match ce[k]? with
      | some (.dit ks ds) => some (ks, ds)
      | _ => none) = some (ks, ds) := h
    split at h
    · rename_i ks0 ds0 e
      cases h
      obtain ⟨a, e1, rfl⟩ := hv
      obtain ⟨_, o, e2, kvs, rfl, e3, e4⟩ := w.at_ _ _ _ e e1 rfl
      exact ⟨a, kvs, rfl, e2, e3, e4⟩
    · cases h
  | _ => cases h
def dgTM (mo mi : M Vl) : M Vl := bindM mo fun x => bindM mi fun y => fun E => match seeT E.ce x, keyT y with
  | some (ks, ds), some k => (tGet k ks ds).map fun d => (.d d, E)
  | _, _ => none
def diTF (neg : Bool) : Vl → Vl → M Vl := fun y x => fun E => match seeT E.ce x, keyT y with
  | some (ks, ds), some k => some (.d (.bl (if (tGet k ks ds).isSome = true then !neg else neg)), E)
  | _, _ => none
def dnTM : M Vl := fun E => some (.c E.ce.length, ⟨E.sl, E.ce ++ [.dit [] []]⟩)
section
variable {X : Cx} {a b e o i : Expr} {ta tb te to ti : TE} {ma mb m mo mi : M Vl} {pos p3 : Pos}
theorem xdnT : Ex_ X (.Dict [] [] pos) tDNewT dnTM := ⟨pe_dnewT, fun {μ Hd H σ E z E'} R e Q q p hp => by
  cases e
  obtain ⟨g0, R0, r0⟩ := R.newX (c := .dit [] []) (o := .dT []) hp ⟨[], rfl, rfl, (rfl : ([] : List V) = [])⟩
  exact q _ _ _ _ g0 R0 r0⟩
theorem xdgT {kk : Nat} (hr : Room kk X.A) (ho : Ex_ X o to mo) (hi : Ex_ X i ti mi) (hs : NoSl i := by intro _ _; rfl) : Ex_ X (.Subscript o i pos) (tDGet to ti) (dgTM mo mi) := ⟨pe_dget (by have := hr.units; omega) ho.pe hi.pe hs, fun {μ Hd H σ E r E'} R q Q k => by
  obtain ⟨x, E1, e1, e2⟩ := bindM_some q
  obtain ⟨y, E2, e3, e4⟩ := bindM_some e2
  refine ho.em R e1 _ fun μ1 Hd1 H1 v g1 R1 r1 => ?_
  refine hi.em R1 e3 _ fun μ2 Hd2 H2 w g2 R2 r2 => ?_
  split at e4
  · rename_i ks ds kq s1 s2
    obtain ⟨d, e5, e6⟩ := Option.map_eq_some_iff.mp e4
    cases e6
    obtain ⟨c, kvs, rfl, h1, rfl, h3⟩ := seeT_ok R2.wo (Rv.gr g2 r1) s1
    obtain ⟨f, rfl, h4⟩ := keyT_ok R2.wo.ex r2 s2
    obtain ⟨u, h5, h6⟩ := tGet_ok h3 e5
    exact ⟨c, u, rfl, h5 ▸ .t h1 h4, k _ _ _ _ (g1.trans g2) R2 h6⟩
  · cases e4⟩
theorem em_diT {K : PySem.W.Frag} {neg : Bool} (ha : EM K ta ma) (hb : EM K tb mb) : EM K (fun σ H Q => ta σ H fun y H1 => tb σ H1 fun x H2 => ∃ a o, x = .ref a ∧ DGet H2 a y o ∧ Q (.bl (if o.isSome = true then !neg else neg)) H2) (bindM ma fun y => bindM mb (diTF neg y)) := fun {μ Hd H σ E r E'} R q Q k => by
  obtain ⟨y, E1, e1, e2⟩ := bindM_some q
  obtain ⟨x, E2, e3, e4⟩ := bindM_some e2
  refine ha R e1 _ fun μ1 Hd1 H1 v g1 R1 r1 => ?_
  refine hb R1 e3 _ fun μ2 Hd2 H2 w g2 R2 r2 => ?_
  unfold diTF at e4
  split at e4
  · rename_i ks ds kq s1 s2
    cases e4
    obtain ⟨c, kvs, rfl, h1, rfl, h3⟩ := seeT_ok R2.wo r2 s1
    obtain ⟨f, rfl, h4⟩ := keyT_ok R2.wo.ex (Rv.gr g2 r1) s2
    refine ⟨c, valV kvs kq, rfl, .t h1 h4, ?_⟩
    have hs : (valV kvs kq).isSome = (tGet kq (kvs.map (·.1)) ds).isSome := by
      cases e5 : tGet kq (kvs.map (·.1)) ds with
      | none => rw [tGet_no h3 e5]; rfl
      | some d =>
        obtain ⟨u, h4, _⟩ := tGet_ok h3 e5
        rw [h4]
        rfl
    rw [hs]
    exact k _ _ _ _ (g1.trans g2) R2 rfl
  · cases e4
end
end Hk
/-! Hk32: dicts whose keys are tuples: in, not in, stores. -/
namespace Hk
open PySem PySem.Spec PyProof.Rows L2 Evl
section
variable {X : Cx} {a b e o i : Expr} {ta tb te to ti : TE} {ma mb m mo mi : M Vl} {pos p3 : Pos}
theorem xdinT {kk : Nat} (hr : Room kk X.A) (ha : Ex_ X a ta ma) (hb : Ex_ X b tb mb) (h1 : behindInMarks .In b = false := by rfl) : Ex_ X (.Compare a [.In] [b] pos) (tDIn ta tb) (bindM ma fun y => bindM mb (diTF false y)) := ⟨pe_cmp (pc_din (by have := hr.units; omega) ha.pe hb.pe) h1, fun {μ Hd H σ E r E'} R q Q k => by
  have h := em_diT (neg := false) ha.em hb.em R q Q k
  have e : ∀ o : Option V, (if o.isSome = true then !false else false) = o.isSome := fun o => by cases o <;> rfl
  simp only [e] at h
  exact h⟩
theorem xdninT {kk : Nat} (hr : Room kk X.A) (ha : Ex_ X a ta ma) (hb : Ex_ X b tb mb) (h1 : behindInMarks .NotIn b = false := by rfl) : Ex_ X (.Compare a [.NotIn] [b] pos) (tDNotIn ta tb) (bindM ma fun y => bindM mb (diTF true y)) := ⟨pe_cmp (pc_dnotin (by have := hr.units; omega) ha.pe hb.pe) h1, fun {μ Hd H σ E r E'} R q Q k => by
  have h := em_diT (neg := true) ha.em hb.em R q Q k
  have e : ∀ o : Option V, (if o.isSome = true then !true else true) = !o.isSome := fun o => by cases o <;> rfl
  simp only [e] at h
  exact h⟩
theorem tdinT {kk : Nat} (hr : Room kk X.A) (ha : Ex_ X a ta ma) (hb : Ex_ X b tb mb) (h1 : behindInMarks .In b = false := by rfl) : Tx X (.Compare a [.In] [b] pos) (tB (tDIn ta tb)) (bindM (bindM ma fun y => bindM mb (diTF false y)) boolM) := ⟨pt_cmp (pc_din (by have := hr.units; omega) ha.pe hb.pe) h1, fun {μ Hd H σ E r E'} R q Q k => by
  obtain ⟨y, E1, e1, e2⟩ := bindM_some q
  obtain ⟨rfl, rfl⟩ := boolM_some e2
  exact (xdinT (pos := pos) hr ha hb h1).em R e1 _ fun μ' Hd' H' v g R' r' => ⟨_, r', k _ _ _ g R'⟩⟩
theorem tdninT {kk : Nat} (hr : Room kk X.A) (ha : Ex_ X a ta ma) (hb : Ex_ X b tb mb) (h1 : behindInMarks .NotIn b = false := by rfl) : Tx X (.Compare a [.NotIn] [b] pos) (tB (tDNotIn ta tb)) (bindM (bindM ma fun y => bindM mb (diTF true y)) boolM) := ⟨pt_cmp (pc_dnotin (by have := hr.units; omega) ha.pe hb.pe) h1, fun {μ Hd H σ E r E'} R q Q k => by
  obtain ⟨y, E1, e1, e2⟩ := bindM_some q
  obtain ⟨rfl, rfl⟩ := boolM_some e2
  exact (xdninT (pos := pos) hr ha hb h1).em R e1 _ fun μ' Hd' H' v g R' r' => ⟨_, r', k _ _ _ g R'⟩⟩

def setDTS (m mo mi : M Vl) : En → Option Rs := fun E => match (bindM m fun r => bindM mo fun o => bindM mi fun i => bindM (fzM r) fun d => fun E5 => match o, keyT i with
    | .c k, some kk => match E5.ce[k]? with
      | some (.dit ks es) => if ks.length < 100000 then some (Vl.d .non, ⟨E5.sl, E5.ce.set k (.dit (tPutN kk ks) (tPutD kk d ks es))⟩) else none
      | _ => none
    | _, _ => none) E with
  | some (_, E1) => some (.nx E1)
  | none => none
theorem ssetDT (h : Ex_ X e te m) (ho : Ex_ X o to mo) (hi : Ex_ X i ti mi) (pg : PG X (.Subscript o i p3) (gSub to ti rSetD))
    (hs : swapsWithSole [.Subscript o i p3] e pos.line X.env = pure false := by rfl) (hw : swappedStores [.Subscript o i p3] e X.env = pure none := by rfl) (h1 : (assignEach [.Subscript o i p3] X.env).map (·.2) = [assign (.Subscript o i p3) X.env] := by rfl) :
    Sx X (.Assign [.Subscript o i p3] e pos) (tAsg te (gSub to ti rSetD)) (setDTS m mo mi) := ⟨ps_asg h.pe pg hs hw h1, fun {μ Hd H σ E R} r q D d => by
  unfold setDTS at q
  split at q
  · rename_i u E1 e1
    cases q
    obtain ⟨x, E2, e2, e1⟩ := bindM_some e1
    obtain ⟨y, E3, e3, e1⟩ := bindM_some e1
    obtain ⟨z, E4, e4, e1⟩ := bindM_some e1
    obtain ⟨dd, E5, e5, e1⟩ := bindM_some e1
    refine h.em r e2 _ fun μ1 Hd1 H1 v g1 R1 r1 => ?_
    refine ho.em R1 e3 _ fun μ2 Hd2 H2 w g2 R2 r2 => ?_
    refine hi.em R2 e4 _ fun μ3 Hd3 H3 w3 g3 R3 r3 => ?_
    obtain ⟨Hd4, g4, R4, r4⟩ := fzM_ok R3 (Rv.gr (g2.trans g3) r1) e5
    split at e1
    · rename_i k kk q1 _ _
      split at e1
      · rename_i ks es q2
        split at e1
        · rename_i hz
          cases e1
          obtain ⟨a, ha, rfl⟩ := Rv.gr (g3.trans g4) r2
          obtain ⟨c1, ob, c2, kvs, rfl, c3, c4⟩ := R4.wo.at_ _ _ _ q2 ha rfl
          obtain ⟨f, rfl, h4⟩ := keyT_ok R3.wo.ex r3 q1
          have hlen : kvs.length = ks.length := by rw [← c3, List.length_map]
          obtain ⟨p1, p2⟩ := tPut_ok (k := kk) r4 c4
          rw [c3] at p1 p2
          exact ⟨a, _, rfl, .t c2 h4 (by rw [hlen]; exact sz_lt hz), d _ _ _ _ (((g1.trans g2).trans g3).trans g4) (R4.setX (c' := .dit (tPutN kk ks) (tPutD kk dd ks es)) (o := .dT (putK kvs kk _)) q2 rfl ha ⟨_, rfl, p1, p2⟩)⟩
        · cases e1
      · cases e1
    · cases e1
  · cases q⟩
end
end Hk
/-! Hk33: exceptions as data: made, their fields, isinstance. -/
namespace Hk
open PySem PySem.Spec PyProof.Rows L2 Evl
section
variable {K : PySem.W.Frag} {te ta : TE} {m ma : M Vl}
def mkEM (C f : Str) (m : M Vl) : M Vl := bindM m fun r => bindM (fzM r) fun d => retM (.d (.exc C [f] [d]))
theorem em_mkE {C f : Str} (h : EM K te m) : EM K (tMkE (clA K C) f te) (mkEM C f m) := fun {μ Hd H σ E r E'} R e Q q => by
  obtain ⟨x, E1, e1, e2⟩ := bindM_some e
  obtain ⟨d, E2, e3, e4⟩ := bindM_some e2
  cases e4
  refine h R e1 _ fun μ1 Hd1 H1 v g1 R1 r1 => ?_
  obtain ⟨Hd2, g2, R2, rd⟩ := fzM_ok R1 r1 e3
  intro a dx ha hdx ne
  obtain ⟨g3, R3⟩ := R2.newD (o := exd dx [(f, v)]) hdx rfl
  have ha2 : upd H1 dx (exd dx [(f, v)]) a = none := by
    rw [upd_ne (Ne.symm ne)]
    exact ha
  obtain ⟨g4, R4⟩ := R3.newD (o := exo a (clA K C) (some dx)) ha2 rfl
  refine q _ _ _ _ (((g1.trans g2).trans g3).trans g4) R4 ⟨a, [(f, v)], rfl, .inr ⟨dx, upd_same, ?_⟩, rfl, ?_⟩
  · rw [upd_ne ne]
    exact upd_same
  · exact RpA.one (Rp.ex (g3.ex.trans g4.ex) _ _ rd)
theorem em_mkE0 {C : Str} : EM K (fun _ H Q => ∀ a, H a = none → Q (.ref a) (upd H a (exo a (clA K C) none))) (retM (.d (.exc C [] []))) := fun {μ Hd H σ E r E'} R e Q q => by
  cases e
  intro a ha
  obtain ⟨g, R'⟩ := R.newD (o := exo a (clA K C) none) ha rfl
  exact q _ _ _ _ g R' ⟨a, [], rfl, .inl ⟨rfl, upd_same⟩, rfl, rfl⟩
/-- e.f -/
def fldEF (C f : Str) : Dt → Option Dt
  | .exc C' ns ds => if C' = C then look f ns ds else none
  | _ => none
theorem em_fldE {C n : Str} (h : EM K te m) : EM K (fun σ H Q => te σ H fun x H1 => ∃ (a dd : Addr) (fs : List (Str × V)) (v : V), x = .ref a ∧ H1 a = some (exo a (clA K C) (some dd)) ∧ H1 dd = some (exd dd fs) ∧ fs.lookup n = some v ∧ Q v H1) (bindM m (seeF (fldEF C n))) := fun {μ Hd H σ E r E'} R e Q q => by
  obtain ⟨x, E1, e1, e2⟩ := bindM_some e
  obtain ⟨d, z, e3, e4, rfl, rfl⟩ := seeF_some e2
  refine h R e1 _ fun μ1 Hd1 H1 v g1 R1 r1 => ?_
  unfold fldEF at e4
  split at e4
  · rename_i C' ns ds
    split at e4
    · rename_i hC
      subst hC
      have := see_dat e3 ⟨nofun, nofun, nofun⟩
      subst this
      obtain ⟨a, fs, rfl, hE, rfl, hds⟩ := r1
      obtain ⟨u, hu, ru⟩ := look_ok hds e4
      rcases hE with ⟨rfl, _⟩ | ⟨dx, h1, h2⟩
      · cases hu
      · exact ⟨a, dx, fs, u, rfl, R1.wo.ex a _ h1, R1.wo.ex dx _ h2, hu, q _ _ _ _ g1 R1 ru⟩
    · cases e4
  · cases e4
/-- isinstance(e, c) -/
def lookB (C : Str) : List (Str × Bool) → Option Bool
  | [] => none
  | (D, b) :: r => if C = D then some b else lookB C r
theorem lookB_mem {C : Str} : ∀ {tb : List (Str × Bool)} {b : Bool}, lookB C tb = some b → (C, b) ∈ tb
  | [], _, e => by cases e
  | (D, k) :: r, b, e => by
    have e : (if C = D then some k else lookB C r) = some b := e
    by_cases h : C = D
    · rw [if_pos h] at e
      cases e
      rw [h]
      exact List.mem_cons_self
    · rw [if_neg h] at e
      exact List.mem_cons_of_mem _ (lookB_mem e)
def isXF (tb : List (Str × Bool)) : Dt → Option Dt
  | .exc C _ _ => (lookB C tb).map .bl
  | _ => none
/-- what the written part says of the classes of a table beside cv -/
def KitT (K : PySem.W.Frag) (tb : List (Str × Bool)) (cv : Value) : Prop := ∀ p ∈ tb, ExcC K (clA K p.1) ∧ PySem.W.kitOne K (.ref (clA K p.1)) cv = some p.2
theorem em_isX {c : V} {cv : Value} {tb : List (Str × Bool)} (hc : ∀ u, RelV c u → u = cv) (ht : KitT K tb cv) (ha : EM K ta ma) : EM K (tCB (rIsX K) (tCons ta (tCons (tC c) tNil))) (bindM ma (seeF (isXF tb))) := fun {μ Hd H σ E r E'} R e Q q => by
  obtain ⟨x, E1, e1, e2⟩ := bindM_some e
  obtain ⟨d, z, e3, e4, rfl, rfl⟩ := seeF_some e2
  refine ha R e1 _ fun μ1 Hd1 H1 v g1 R1 r1 => ?_
  unfold isXF at e4
  split at e4
  · rename_i C ns ds
    cases hb : lookB C tb with
    | none =>
      rw [hb] at e4
      cases e4
    | some b =>
      rw [hb] at e4
      cases e4
      obtain ⟨h1, h2⟩ := ht _ (lookB_mem hb)
      have := see_dat e3 ⟨nofun, nofun, nofun⟩
      subst this
      obtain ⟨a, fs, rfl, hE, rfl, hds⟩ := r1
      rcases hE with ⟨rfl, h3⟩ | ⟨dx, h3, h4⟩
      · exact ⟨a, clA K C, none, c, cv, b, rfl, R1.wo.ex a _ h3, fun _ z => (by cases z), h1, hc, h2, q _ _ _ _ g1 R1 rfl⟩
      · exact ⟨a, clA K C, some dx, c, cv, b, rfl, R1.wo.ex a _ h3, fun dd z => by cases z; exact ⟨fs, R1.wo.ex dx _ h4⟩, h1, hc, h2, q _ _ _ _ g1 R1 rfl⟩
  · cases e4
end
/-- an own exception class with an own __init__ at fI -/
structure EmkC (K : PySem.W.Frag) (C fI : Addr) : Prop where
  cls : OexC K C
  ini : PySem.W.findIn K (.ref C) "__init__" = some (some (.ref fI))
  typ : PySem.W.typeIn K (.ref fI) = some (.type "function")
section
variable {X : Cx} {a e : Expr} {ta te : TE} {ma m : M Vl} {pos p p2 p3 kpos : Pos} {x y par f : Str} {CX : CXT} {k : Nat} {fI : Addr} {fd : FuncData}
theorem xmkE (T : EmkC X.K (clA X.K x) fI) (F1 : FnOk X.prog X.w X.K X.mg X.base CX k fI fd ["self", par] (spI X.K (clA X.K x) f)) (hr : Room (k + 1) X.A) (hm : X.mg x = some (.ref (clA X.K x))) (hb : Binds X.K fd ["self", par] [])
    (he : Ex_ X e te m) (hx : Passes CX X (fun _ _ _ => False)) (hg : Gl X x := by rfl) (hdb : (x == ("__debug__" : Str)) = false := by decide) (hs : starEach [e] X.env = (false, eval e X.env) :: starEach [] X.env := by rfl) (hpl : (backTo pos (starEach [] X.env)).any (·.1) = false := by rfl) :
    Ex_ X (.Call (.Name x p) [e] [] pos) (tMkE (clA X.K x) f te) (mkEM x f m) := ⟨pe_mkE T.cls T.ini T.typ F1 hr hb hx hg hm he.pe hdb hs hpl, em_mkE he.em⟩
theorem xmkEk (T : EmkC X.K (clA X.K x) fI) (F1 : FnOk X.prog X.w X.K X.mg X.base CX k fI fd ["self", par] (spI X.K (clA X.K x) f)) (hr : Room (k + 1) X.A) (hm : X.mg x = some (.ref (clA X.K x)))
    (hb : ∀ (s : Shared) (u v : Value), PySem.W.Frag.In X.K s.heap → BindsTo s fd ⟨[u], [(par, v)]⟩ ((["self", par] : List Str).zip [u, v]))
    (he : Ex_ X e te m) (hx : Passes CX X (fun _ _ _ => False)) (hg : Gl X x := by rfl) (hdb : (x == ("__debug__" : Str)) = false := by decide)
    (hall : (backToKw pos (keywordEach [⟨some par, e, kpos⟩] X.env)).all (·.1.isSome) = true := by rfl) (hks : (backToKw pos (keywordEach [⟨some par, e, kpos⟩] X.env)).filterMap (·.1) = [par] := by rfl)
    (hpl : ((backTo pos (starEach [] X.env)).any (·.1) || (backToKw pos (keywordEach [⟨some par, e, kpos⟩] X.env)).any (·.1.isNone)) = false := by rfl) :
    Ex_ X (.Call (.Name x p) [] [⟨some par, e, kpos⟩] pos) (tMkE (clA X.K x) f te) (mkEM x f m) := ⟨pe_mkEk T.cls T.ini T.typ F1 hr hb hx hg hm he.pe hdb hall hks hpl, em_mkE he.em⟩
theorem xmkE0 (q : PySem.W.excIn X.K (clA X.K x) [.type "ValueError", .type "Exception", .type "BaseException", .type "object"] "ValueError.__new__" = true) (kC : PySem.W.keepIn X.K (.ref (clA X.K x)) = true) (hm : X.mg x = some (.ref (clA X.K x))) (hg : Gl X x := by rfl) (hdb : (x == ("__debug__" : Str)) = false := by decide) :
    Ex_ X (.Call (.Name x p) [] [] pos) (fun σ H Q => ∀ a, H a = none → Q (.ref a) (upd H a (exo a (clA X.K x) none))) (retM (.d (.exc x [] []))) := ⟨pe_mkE0 PySem.F.excBase_ValueError q hm kC hg hdb, em_mkE0⟩
theorem xfldE {o : Expr} {n : Str} (T : XfC X.K (clA X.K x)) (hno : PySem.W.findIn X.K (.ref (clA X.K x)) n = some none) (he : Ex_ X o te m) (hb : attributeBase o n X.env (eval o X.env) = eval o X.env := by rfl) :
    Ex_ X (.Attribute o n pos) (fun σ H Q => te σ H fun x' H1 => ∃ (a dd : Addr) (fs : List (Str × V)) (v : V), x' = .ref a ∧ H1 a = some (exo a (clA X.K x) (some dd)) ∧ H1 dd = some (exd dd fs) ∧ fs.lookup n = some v ∧ Q v H1) (bindM m (seeF (fldEF x n))) := ⟨pe_xfV T hno he.pe hb, em_fldE he.em⟩
theorem xisX {tb : List (Str × Bool)} (hm : X.mg "isinstance" = none) (hk : KitT X.K tb (.ref (clA X.K x))) (ha : Ex_ X a ta ma) (hmx : X.mg x = some (.ref (clA X.K x))) (hg : Gl X "isinstance" := by rfl) (hgx : Gl X x := by rfl) (hdb : (x == ("__debug__" : Str)) = false := by decide)
    (h1 : starEach [a, .Name x p2] X.env = (false, eval a X.env) :: starEach [.Name x p2] X.env := by rfl) (h2 : starEach [.Name x p2] X.env = [(false, eval (.Name x p2) X.env)] := by rfl) (h3 : (backTo pos (starEach [.Name x p2] X.env)).any (·.1) = false := by rfl) :
    Ex_ X (.Call (.Name "isinstance" p) [a, .Name x p2] [] pos) (tCB (rIsX X.K) (tCons ta (tCons (tC (.ref (clA X.K x))) tNil))) (bindM ma (seeF (isXF tb))) :=
  ⟨pe_callB call_isX hg hm (by decide +kernel) (pa_cons ha.pe (pa_cons (pe_glob hgx hmx (v := .ref (clA X.K x)) rfl hdb) pa_nil h2) h1) (by decide) (by decide) h1 h3, em_isX (fun u (h : RelV (.ref _) u) => h) hk ha.em⟩
theorem xisXt {tb : List (Str × Bool)} {n : String} (hm : X.mg "isinstance" = none) (hk : KitT X.K tb (.type n)) (ha : Ex_ X a ta ma) (hmx : X.mg x = none) (hv : bootBuiltins x = some (.type n)) (hg : Gl X "isinstance" := by rfl) (hgx : Gl X x := by rfl) (hn : x ≠ "__name__" := by decide) (hdb : (x == ("__debug__" : Str)) = false := by decide)
    (h1 : starEach [a, .Name x p2] X.env = (false, eval a X.env) :: starEach [.Name x p2] X.env := by rfl) (h2 : starEach [.Name x p2] X.env = [(false, eval (.Name x p2) X.env)] := by rfl) (h3 : (backTo pos (starEach [.Name x p2] X.env)).any (·.1) = false := by rfl) :
    Ex_ X (.Call (.Name "isinstance" p) [a, .Name x p2] [] pos) (tCB (rIsX X.K) (tCons ta (tCons (tC (.ty n)) tNil))) (bindM ma (seeF (isXF tb))) :=
  ⟨pe_callB call_isX hg hm (by decide +kernel) (pa_cons ha.pe (pa_cons (pe_bltn hgx hmx hv (v := .ty n) rfl hn hdb) pa_nil h2) h1) (by decide) (by decide) h1 h3, em_isX (fun u (h : RelV (.ty n) u) => h) hk ha.em⟩
end
end Hk
/-! Hk34: the facts of exception classes, put together. -/
namespace Hk
open PySem PySem.Spec PyProof.Rows L2 Evl NdefX
theorem fn_exI {CX : CXT} {P : Program} {w : World} {K : PySem.W.Frag} {mg : Str → Option Value} {base : Heap} {f C cc : Addr} {F : NF} {par msg fld : Str} {od an : Option Addr} {oc dV kV doc pm ctv : Value} {osl : Array (Option Value)}
    {p0 p1 p2 p3 p4 p5 q1 q2 q3 q4 : Pos} {j : Nat} (SC : SupC P K mg f C cc F)
    (lk : K.lookup f = some ⟨oc, od, .func (PySem.W.fnX F.name F.qual F.params F.body F.scope F.cl dV kV doc pm an (.ref F.c) ctv), osl⟩)
    (S : NScope ["self", par, "__class__"] ["self", par] ["__class__"] F.scope)
    (hF : F.body = [.Expr (.Call (.Attribute (.Call (.Name "super" p0) [] [] p1) "__init__" p2) [.Constant (.str msg) j p3] [] p4) p5, .Assign [.Attribute (.Name "self" q1) fld q2] (.Name par q3) q4])
    (hev : ∀ L : Addr, ∃ pl : Sem Bool, eval (.Call (.Attribute (.Call (.Name "super" p0) [] [] p1) "__init__" p2) [.Constant (.str msg) j p3] [] p4) (envF F f L) = (do
      let ov ← attributeBase (.Call (.Name "super" p0) [] [] p1) "__init__" (envF F f L) (eval (.Call (.Name "super" p0) [] [] p1) (envF F f L))
      standAt p2.atName
      let (f', first) ← holding [ov] (getMethod ov "__init__" pl)
      callWith p4 f' first (backTo p4 (starEach [.Constant (.str msg) j p3] (envF F f L))) []))
    (hsw : ∀ L : Addr, swapsWith (.Name par q3) (some (.Attribute (.Name "self" q1) fld q2)) q4.line (envF F f L) = pure false)
    (hno : PySem.W.findIn K (.ref C) fld = some none) (hd : (par == ("__debug__" : Str)) = false) (hcd : (par == ("__classdict__" : Str)) = false) :
    FnOk P w K mg base CX 1 f (PySem.W.fnX F.name F.qual F.params F.body F.scope F.cl dV kV doc pm an (.ref F.c) ctv) ["self", par] (spI K C fld) := by
  refine fn_super (k := 0) SC lk S hF hev (fun vs H Q E ⟨a, y, e, h, _⟩ => ⟨a, y, e, h⟩) fun A outer s H vs Q E hr h => ?_
  obtain ⟨a, y, rfl, ha, hq⟩ := h
  refine ⟨_, pss_one (ps_ost (pe_var (i := 0) rfl (.inl (S.par "self" (by simp)))) (pe_var (i := 1) rfl (.inl (S.par par (by simp))) hd hcd) (hsw _)), ?_⟩
  exact ⟨y, rfl, .ref a, rfl, a, C, rfl, SC.cls, hno, .inl ⟨ha, hq⟩⟩
def kitTB (K : PySem.W.Frag) (cv : Value) : List (Addr × Bool) → Bool
  | [] => true
  | (a, b) :: r => decide (PySem.W.kitOne K (.ref a) cv = some b) && kitTB K cv r
theorem kitT_mk {K : PySem.W.Frag} {cv : Value} : ∀ {tb : List (Str × Bool)}, (∀ p ∈ tb, ExcC K (clA K p.1)) → kitTB K cv (tb.map fun p => (clA K p.1, p.2)) = true → KitT K tb cv
  | [], _, _ => fun p hp => absurd hp List.not_mem_nil
  | (C, b) :: r, h, k => by
    obtain ⟨k1, k2⟩ := Bool.and_eq_true_iff.mp (show (decide (PySem.W.kitOne K (.ref (clA K C)) cv = some b) && kitTB K cv (r.map fun p => (clA K p.1, p.2))) = true from k)
    intro p hp
    rcases List.mem_cons.mp hp with rfl | hp
    · exact ⟨h _ List.mem_cons_self, of_decide_eq_true k1⟩
    · exact kitT_mk (fun q hq => h q (List.mem_cons_of_mem _ hq)) k2 p hp
end Hk
/-! Hk35: str(n). -/
namespace Hk
open PySem PySem.Spec PyProof.Rows L2 Evl
def strID : Dt → Option Dt
  | .int i => if i.natAbs.log2 < 1920 then some (.str (toString i)) else none
  | _ => none
def rStrI : List V → Hp → VK → Prop := fun xs H Q => ∃ i : Int, xs = [.int i] ∧ i.natAbs.log2 < 1920 ∧ Q (.str (toString i)) H
theorem cr_strI {X : Cx} : CallR X (.type "str") rStrI := call_str_int
theorem cm_strI {K : PySem.W.Frag} : CM K rStrI (fn1 strID) := cm_fn1 fun H a d v hv e Q q => by
  unfold strID at e
  split at e
  · rename_i i
    split at e
    · rename_i hz
      cases e
      cases (show v = .int i from hv)
      exact ⟨i, rfl, hz, q _ fun _ => rfl⟩
    · cases e
  · cases e
end Hk
namespace K21
open PySem PySem.Spec PyProof.Rows L2 Evl Hk
/-! ### the text by places -/
def topS (i : Nat) : Stmt := PySem.Challenge.pw_boxfall_k21_errors_made.main.body.getD i (.Pass ⟨0, 0, 0, 0⟩)
abbrev s__law_kinds : Stmt := topS 11
abbrev N__law_kinds : List Str := ["_law_e", "_law_found"]
theorem sc__law_kinds : FnScope N__law_kinds ["_law_e"] (defScope s__law_kinds) := ⟨rfl, rfl, rfl, by decide +kernel, rfl, by decide +kernel, by decide +kernel⟩
abbrev s__law_kept : Stmt := topS 12
abbrev N__law_kept : List Str := ["_law_thing", "_law_found"]
theorem sc__law_kept : FnScope N__law_kept ["_law_thing"] (defScope s__law_kept) := ⟨rfl, rfl, rfl, by decide +kernel, rfl, by decide +kernel, by decide +kernel⟩
abbrev s_law : Stmt := topS 13
abbrev N_law : List Str := ["_law_script", "_law_made", "_law_k", "_law_e", "_law_cell", "_law_thing", "_law_j"]
theorem sc_law : FnScope N_law ["_law_script"] (defScope s_law) := ⟨rfl, rfl, rfl, by decide +kernel, rfl, by decide +kernel, by decide +kernel⟩
def k_BoxError : List (Str × Bool) := [("BadRule", true), ("BadName", true), ("NoRow", true), ("NoActs", true), ("BadText", true), ("BadForm", true), ("BadTruth", true), ("NoPlayer", true), ("BoxError", true)]
def k_ValueError : List (Str × Bool) := [("BadRule", true), ("BadName", true), ("NoRow", true), ("NoActs", true), ("BadText", true), ("BadForm", true), ("BadTruth", true), ("NoPlayer", true), ("BoxError", true)]
def k_NoRow : List (Str × Bool) := [("BadRule", false), ("BadName", false), ("NoRow", true), ("NoActs", false), ("BadText", false), ("BadForm", false), ("BadTruth", false), ("NoPlayer", false), ("BoxError", false)]
def k_NoActs : List (Str × Bool) := [("BadRule", false), ("BadName", false), ("NoRow", false), ("NoActs", true), ("BadText", false), ("BadForm", false), ("BadTruth", false), ("NoPlayer", false), ("BoxError", false)]
def k_BadText : List (Str × Bool) := [("BadRule", false), ("BadName", false), ("NoRow", false), ("NoActs", false), ("BadText", true), ("BadForm", false), ("BadTruth", false), ("NoPlayer", false), ("BoxError", false)]
def k_BadForm : List (Str × Bool) := [("BadRule", false), ("BadName", false), ("NoRow", false), ("NoActs", false), ("BadText", false), ("BadForm", true), ("BadTruth", false), ("NoPlayer", false), ("BoxError", false)]
def k_NoPlayer : List (Str × Bool) := [("BadRule", false), ("BadName", false), ("NoRow", false), ("NoActs", false), ("BadText", false), ("BadForm", false), ("BadTruth", false), ("NoPlayer", true), ("BoxError", false)]
def k_BadRule : List (Str × Bool) := [("BadRule", true), ("BadName", false), ("NoRow", false), ("NoActs", false), ("BadText", false), ("BadForm", false), ("BadTruth", false), ("NoPlayer", false), ("BoxError", false)]
def k_BadName : List (Str × Bool) := [("BadRule", false), ("BadName", true), ("NoRow", false), ("NoActs", false), ("BadText", false), ("BadForm", false), ("BadTruth", false), ("NoPlayer", false), ("BoxError", false)]
def k_BadTruth : List (Str × Bool) := [("BadRule", false), ("BadName", false), ("NoRow", false), ("NoActs", false), ("BadText", false), ("BadForm", false), ("BadTruth", true), ("NoPlayer", false), ("BoxError", false)]
/-! ### what each def does -/
def m__law_kinds : En → Option Rs :=
  (seqS (setS 1 (lstM (consM (bindM (vM 0) (seeF (isXF k_BadForm))) (consM (bindM (vM 0) (seeF (isXF k_BadText))) (consM (bindM (vM 0) (seeF (isXF k_NoActs))) (consM (bindM (vM 0) (seeF (isXF k_NoRow))) (retM [])))))))
    (seqS (dropS (bmM "list" (vM 1) (consM (lstM (consM (bindM (vM 0) (seeF (isXF k_BadName))) (consM (bindM (vM 0) (seeF (isXF k_BadRule))) (consM (bindM (vM 0) (seeF (isXF k_NoPlayer))) (retM []))))) (retM [])) extF))
    (retS (bindM (vM 1) fun x => bindM (lstM (consM (bindM (vM 0) (seeF (isXF k_BadTruth))) (retM []))) (addF x)))))
def f__law_kinds : Fn := fnOf 1 (m__law_kinds)
def m__law_kept : En → Option Rs :=
  (seqS (setS 1 (lstM (consM (bindM (mkEM "BadForm" "path" (vM 0)) (seeF (fldEF "BadForm" "path"))) (consM (bindM (mkEM "BadForm" "path" (vM 0)) (seeF (fldEF "BadForm" "path"))) (consM (bindM (mkEM "NoRow" "name" (vM 0)) (seeF (fldEF "NoRow" "name"))) (consM (bindM (mkEM "NoRow" "name" (vM 0)) (seeF (fldEF "NoRow" "name"))) (retM [])))))))
    (seqS (dropS (bmM "list" (vM 1) (consM (lstM (consM (bindM (mkEM "BadName" "name" (vM 0)) (seeF (fldEF "BadName" "name"))) (consM (bindM (mkEM "BadName" "name" (vM 0)) (seeF (fldEF "BadName" "name"))) (consM (bindM (mkEM "NoPlayer" "name" (vM 0)) (seeF (fldEF "NoPlayer" "name"))) (retM []))))) (retM [])) extF))
    (seqS (dropS (bmM "list" (vM 1) (consM (lstM (consM (bindM (mkEM "NoPlayer" "name" (vM 0)) (seeF (fldEF "NoPlayer" "name"))) (consM (bindM (mkEM "BadTruth" "name" (vM 0)) (seeF (fldEF "BadTruth" "name"))) (consM (bindM (mkEM "BadTruth" "name" (vM 0)) (seeF (fldEF "BadTruth" "name"))) (retM []))))) (retM [])) extF))
    (retS (bindM (vM 1) fun x => bindM (bindM (lstM (consM (vM 0) (retM []))) fun x => bindM (bindM (consM (vM 1) (retM [])) (fn1 lenD)) (mulF x)) (op2 eqF x))))))
def f__law_kept : Fn := fnOf 1 (m__law_kept)
def m_law (g__law_kinds g__law_kept : Fn) : En → Option Rs :=
  (seqS (setS 1 (lstM (consM (mkEM "BadForm" "path" (tupM (consM (retM (.d (.int 1))) (retM [])))) (consM (retM (.d (.exc "BadText" [] []))) (consM (retM (.d (.exc "NoActs" [] []))) (consM (mkEM "NoRow" "name" (retM (.d (.str "p")))) (consM (mkEM "BadName" "name" (retM (.d .non))) (consM (retM (.d (.exc "BadRule" [] []))) (retM [])))))))))
    (seqS (dropS (bmM "list" (vM 1) (consM (lstM (consM (mkEM "NoPlayer" "name" (retM (.d (.int 5)))) (consM (mkEM "BadTruth" "name" (retM (.d (.str "a")))) (retM [])))) (retM [])) extF))
    (seqS (forS (enumM (consM (vM 1) (retM []))) (tupG [(nameG 2), (nameG 3)])
    (seqS (ifS (orM (bindM (bindM (callM g__law_kinds (consM (fzV (vM 3)) (retM []))) fun x => bindM (compM [6] (rng1M (consM (retM (.d (.int 8))) (retM []))) (nameG 6) (retM true) (bindM (vM 6) fun x => bindM (vM 2) (op2 eqF x))) (op2 neF x)) boolM) (notM (bindM (bindM (vM 3) (seeF (isXF k_BoxError))) truM)))
    (retS (retM (.d (.bl false))))
    nilS)
    (ifS (notM (bindM (bindM (vM 3) (seeF (isXF k_ValueError))) truM))
    (retS (retM (.d (.bl false))))
    nilS)))
    (seqS (ifS (orM (bindM (bindM (retM (.d (.bl true))) fun x => bindM (callM g__law_kinds (consM (fzV (retM (.d (.exc "BoxError" [] [])))) (retM []))) (op2 (inF false) x)) boolM) (notM (bindM (bindM (retM (.d (.exc "BoxError" [] []))) (seeF (isXF k_ValueError))) truM)))
    (retS (retM (.d (.bl false))))
    nilS)
    (seqS (forS (itemsM (bindM (bindM (bindM (consM (vM 0) (retM [])) (listF)) fun x => bindM (lstM (consM (retM (.d (.int 0))) (consM (retM (.d (.int 5))) (consM (negM (retM (.d (.int 3)))) (retM []))))) (addF x)) fun x => bindM (retM none) fun l => bindM (partM (retM (.d (.int 6)))) fun h => slF x l h)) (nameG 4)
    (forS (itemsM (lstM (consM (vM 4) (consM (bindM (retM (.d (.str "k"))) fun x => bindM (bindM (consM (bindM (bindM (consM (vM 4) (retM [])) (fn1 intD)) fun x => bindM (retM (.d (.int 1000))) (op2 modF x)) (retM [])) (fn1 strID)) (addF x)) (consM (retM (.d .non)) (consM (tupM (consM (retM (.d (.int 1))) (consM (bindM (bindM (consM (vM 4) (retM [])) (fn1 intD)) fun x => bindM (retM (.d (.int 7))) (op2 modF x)) (retM [])))) (consM (lstM (consM (bindM (bindM (consM (vM 4) (retM [])) (fn1 intD)) fun x => bindM (retM (.d (.int 5))) (op2 modF x)) (retM []))) (consM (bindM (retM (.d (.int 10))) fun x => bindM (retM (.d (.int 30))) (op2 powF x)) (retM []))))))))) (nameG 5)
    (ifS (notM (bindM (callM g__law_kept (consM (fzV (vM 5)) (retM []))) truM))
    (retS (retM (.d (.bl false))))
    nilS)))
    (retS (retM (.d (.bl true)))))))))
def f_law (g__law_kinds g__law_kept : Fn) : Fn := fnOf 6 (m_law g__law_kinds g__law_kept)
/-! ### the names -/
structure Ad where
  a__law_kinds : Addr
  d__law_kinds : FuncData
  a__law_kept : Addr
  d__law_kept : FuncData
  a_law : Addr
  d_law : FuncData
  a_x_BadName : Addr
  d_x_BadName : FuncData
  a_x_NoRow : Addr
  d_x_NoRow : FuncData
  a_x_BadForm : Addr
  d_x_BadForm : FuncData
  a_x_BadTruth : Addr
  d_x_BadTruth : FuncData
  a_x_NoPlayer : Addr
  d_x_NoPlayer : FuncData
structure Txt (K : PySem.W.Frag) (w : World) (mg : Str → Option Value) (A : Ad) : Prop where
  m_BadRule : mg "BadRule" = some (.ref (clA K "BadRule"))
  xq_BadRule : PySem.W.excIn K (clA K "BadRule") [.type "ValueError", .type "Exception", .type "BaseException", .type "object"] "ValueError.__new__" = true
  xk_BadRule : PySem.W.keepIn K (.ref (clA K "BadRule")) = true
  m_BadName : mg "BadName" = some (.ref (clA K "BadName"))
  e_BadName : EmkC K (clA K "BadName") A.a_x_BadName
  xb_BadName : Binds K A.d_x_BadName ["self", "name"] []
  xkb_BadName : ∀ (s : Shared) (u v : Value), PySem.W.Frag.In K s.heap → BindsTo s A.d_x_BadName ⟨[u], [("name", v)]⟩ ((["self", "name"] : List Str).zip [u, v])
  xf_BadName : XfC K (clA K "BadName")
  xn_BadName : PySem.W.findIn K (.ref (clA K "BadName")) "name" = some none
  m_NoRow : mg "NoRow" = some (.ref (clA K "NoRow"))
  e_NoRow : EmkC K (clA K "NoRow") A.a_x_NoRow
  xb_NoRow : Binds K A.d_x_NoRow ["self", "name"] []
  xkb_NoRow : ∀ (s : Shared) (u v : Value), PySem.W.Frag.In K s.heap → BindsTo s A.d_x_NoRow ⟨[u], [("name", v)]⟩ ((["self", "name"] : List Str).zip [u, v])
  xf_NoRow : XfC K (clA K "NoRow")
  xn_NoRow : PySem.W.findIn K (.ref (clA K "NoRow")) "name" = some none
  m_NoActs : mg "NoActs" = some (.ref (clA K "NoActs"))
  xq_NoActs : PySem.W.excIn K (clA K "NoActs") [.type "ValueError", .type "Exception", .type "BaseException", .type "object"] "ValueError.__new__" = true
  xk_NoActs : PySem.W.keepIn K (.ref (clA K "NoActs")) = true
  m_BadText : mg "BadText" = some (.ref (clA K "BadText"))
  xq_BadText : PySem.W.excIn K (clA K "BadText") [.type "ValueError", .type "Exception", .type "BaseException", .type "object"] "ValueError.__new__" = true
  xk_BadText : PySem.W.keepIn K (.ref (clA K "BadText")) = true
  m_BadForm : mg "BadForm" = some (.ref (clA K "BadForm"))
  e_BadForm : EmkC K (clA K "BadForm") A.a_x_BadForm
  xb_BadForm : Binds K A.d_x_BadForm ["self", "path"] []
  xkb_BadForm : ∀ (s : Shared) (u v : Value), PySem.W.Frag.In K s.heap → BindsTo s A.d_x_BadForm ⟨[u], [("path", v)]⟩ ((["self", "path"] : List Str).zip [u, v])
  xf_BadForm : XfC K (clA K "BadForm")
  xn_BadForm : PySem.W.findIn K (.ref (clA K "BadForm")) "path" = some none
  m_BadTruth : mg "BadTruth" = some (.ref (clA K "BadTruth"))
  e_BadTruth : EmkC K (clA K "BadTruth") A.a_x_BadTruth
  xb_BadTruth : Binds K A.d_x_BadTruth ["self", "name"] []
  xkb_BadTruth : ∀ (s : Shared) (u v : Value), PySem.W.Frag.In K s.heap → BindsTo s A.d_x_BadTruth ⟨[u], [("name", v)]⟩ ((["self", "name"] : List Str).zip [u, v])
  xf_BadTruth : XfC K (clA K "BadTruth")
  xn_BadTruth : PySem.W.findIn K (.ref (clA K "BadTruth")) "name" = some none
  m_NoPlayer : mg "NoPlayer" = some (.ref (clA K "NoPlayer"))
  e_NoPlayer : EmkC K (clA K "NoPlayer") A.a_x_NoPlayer
  xb_NoPlayer : Binds K A.d_x_NoPlayer ["self", "name"] []
  xkb_NoPlayer : ∀ (s : Shared) (u v : Value), PySem.W.Frag.In K s.heap → BindsTo s A.d_x_NoPlayer ⟨[u], [("name", v)]⟩ ((["self", "name"] : List Str).zip [u, v])
  xf_NoPlayer : XfC K (clA K "NoPlayer")
  xn_NoPlayer : PySem.W.findIn K (.ref (clA K "NoPlayer")) "name" = some none
  m_BoxError : mg "BoxError" = some (.ref (clA K "BoxError"))
  xq_BoxError : PySem.W.excIn K (clA K "BoxError") [.type "ValueError", .type "Exception", .type "BaseException", .type "object"] "ValueError.__new__" = true
  xk_BoxError : PySem.W.keepIn K (.ref (clA K "BoxError")) = true
  kt_BoxError : KitT K k_BoxError (.ref (clA K "BoxError"))
  kt_ValueError : KitT K k_ValueError (.type "ValueError")
  kt_NoRow : KitT K k_NoRow (.ref (clA K "NoRow"))
  kt_NoActs : KitT K k_NoActs (.ref (clA K "NoActs"))
  kt_BadText : KitT K k_BadText (.ref (clA K "BadText"))
  kt_BadForm : KitT K k_BadForm (.ref (clA K "BadForm"))
  kt_NoPlayer : KitT K k_NoPlayer (.ref (clA K "NoPlayer"))
  kt_BadRule : KitT K k_BadRule (.ref (clA K "BadRule"))
  kt_BadName : KitT K k_BadName (.ref (clA K "BadName"))
  kt_BadTruth : KitT K k_BadTruth (.ref (clA K "BadTruth"))
  F__law_kinds : Fun K "_law_kinds" "_law_kinds" s__law_kinds A.a__law_kinds A.d__law_kinds
  b__law_kinds : Binds K A.d__law_kinds ["_law_e"] []
  g__law_kinds : mg "_law_kinds" = some (.ref A.a__law_kinds)
  F__law_kept : Fun K "_law_kept" "_law_kept" s__law_kept A.a__law_kept A.d__law_kept
  b__law_kept : Binds K A.d__law_kept ["_law_thing"] []
  g__law_kept : mg "_law_kept" = some (.ref A.a__law_kept)
  F_law : Fun K "law" "law" s_law A.a_law A.d_law
  b_law : Binds K A.d_law ["_law_script"] []
  g_law : mg "law" = some (.ref A.a_law)
  z_ValueError : mg "ValueError" = none
  z_enumerate : mg "enumerate" = none
  z_int : mg "int" = none
  z_isinstance : mg "isinstance" = none
  z_len : mg "len" = none
  z_list : mg "list" = none
  z_range : mg "range" = none
  z_str : mg "str" = none
section
variable {P : Program} {w : World} {K : PySem.W.Frag} {mg : Str → Option Value} {base : Heap} {A : Ad}
theorem ok__law_kinds (T : Txt K w mg A) (G_x_NoRow : FnOk P w K mg base CX0 1 A.a_x_NoRow A.d_x_NoRow ["self", "name"] (spI K (clA K "NoRow") "name")) (G_x_BadForm : FnOk P w K mg base CX0 1 A.a_x_BadForm A.d_x_BadForm ["self", "path"] (spI K (clA K "BadForm") "path")) (G_x_NoPlayer : FnOk P w K mg base CX0 1 A.a_x_NoPlayer A.d_x_NoPlayer ["self", "name"] (spI K (clA K "NoPlayer") "name")) (G_x_BadName : FnOk P w K mg base CX0 1 A.a_x_BadName A.d_x_BadName ["self", "name"] (spI K (clA K "BadName") "name")) (G_x_BadTruth : FnOk P w K mg base CX0 1 A.a_x_BadTruth A.d_x_BadTruth ["self", "name"] (spI K (clA K "BadTruth") "name")) : FnOk P w K mg base CX0 3 A.a__law_kinds A.d__law_kinds ["_law_e"] (spM K 1 (f__law_kinds)) :=
  T.F__law_kinds.ok sc__law_kinds (spM_len rfl) fun cdv A outer s H vs Q E hr h => body_ok (n := 1) (nl := 1)
    (bcons (sset 1 (xlst (acons (xisX T.z_isinstance T.kt_BadForm (xv 0) T.m_BadForm) (acons (xisX T.z_isinstance T.kt_BadText (xv 0) T.m_BadText) (acons (xisX T.z_isinstance T.kt_NoActs (xv 0) T.m_NoActs) (acons (xisX T.z_isinstance T.kt_NoRow (xv 0) T.m_NoRow) anil))))) sc__law_kinds.nd)
    (bcons (sexpr (xlm PySem.F.slot_list_extend PySem.F.type_list_extend mt_extend mm_extend (xv 1) (acons (xlst (acons (xisX T.z_isinstance T.kt_BadName (xv 0) T.m_BadName) (acons (xisX T.z_isinstance T.kt_BadRule (xv 0) T.m_BadRule) (acons (xisX T.z_isinstance T.kt_NoPlayer (xv 0) T.m_NoPlayer) anil)))) anil)))
    (bone (sret (xop op_addU om_add (xv 1) (xlst (acons (xisX T.z_isinstance T.kt_BadTruth (xv 0) T.m_BadTruth) anil))))))) rfl h
theorem ok__law_kept (T : Txt K w mg A) (G_x_NoRow : FnOk P w K mg base CX0 1 A.a_x_NoRow A.d_x_NoRow ["self", "name"] (spI K (clA K "NoRow") "name")) (G_x_BadForm : FnOk P w K mg base CX0 1 A.a_x_BadForm A.d_x_BadForm ["self", "path"] (spI K (clA K "BadForm") "path")) (G_x_NoPlayer : FnOk P w K mg base CX0 1 A.a_x_NoPlayer A.d_x_NoPlayer ["self", "name"] (spI K (clA K "NoPlayer") "name")) (G_x_BadName : FnOk P w K mg base CX0 1 A.a_x_BadName A.d_x_BadName ["self", "name"] (spI K (clA K "BadName") "name")) (G_x_BadTruth : FnOk P w K mg base CX0 1 A.a_x_BadTruth A.d_x_BadTruth ["self", "name"] (spI K (clA K "BadTruth") "name")) : FnOk P w K mg base CX0 3 A.a__law_kept A.d__law_kept ["_law_thing"] (spM K 1 (f__law_kept)) :=
  T.F__law_kept.ok sc__law_kept (spM_len rfl) fun cdv A outer s H vs Q E hr h => body_ok (n := 1) (nl := 1)
    (bcons (sset 1 (xlst (acons (xfldE T.xf_BadForm T.xn_BadForm (xmkE T.e_BadForm G_x_BadForm (hr.mono (by decide)) T.m_BadForm T.xb_BadForm (xv 0) pass0)) (acons (xfldE T.xf_BadForm T.xn_BadForm (xmkEk T.e_BadForm G_x_BadForm (hr.mono (by decide)) T.m_BadForm T.xkb_BadForm (xv 0) pass0)) (acons (xfldE T.xf_NoRow T.xn_NoRow (xmkE T.e_NoRow G_x_NoRow (hr.mono (by decide)) T.m_NoRow T.xb_NoRow (xv 0) pass0)) (acons (xfldE T.xf_NoRow T.xn_NoRow (xmkEk T.e_NoRow G_x_NoRow (hr.mono (by decide)) T.m_NoRow T.xkb_NoRow (xv 0) pass0)) anil))))) sc__law_kept.nd)
    (bcons (sexpr (xlm PySem.F.slot_list_extend PySem.F.type_list_extend mt_extend mm_extend (xv 1) (acons (xlst (acons (xfldE T.xf_BadName T.xn_BadName (xmkE T.e_BadName G_x_BadName (hr.mono (by decide)) T.m_BadName T.xb_BadName (xv 0) pass0)) (acons (xfldE T.xf_BadName T.xn_BadName (xmkEk T.e_BadName G_x_BadName (hr.mono (by decide)) T.m_BadName T.xkb_BadName (xv 0) pass0)) (acons (xfldE T.xf_NoPlayer T.xn_NoPlayer (xmkE T.e_NoPlayer G_x_NoPlayer (hr.mono (by decide)) T.m_NoPlayer T.xb_NoPlayer (xv 0) pass0)) anil)))) anil)))
    (bcons (sexpr (xlm PySem.F.slot_list_extend PySem.F.type_list_extend mt_extend mm_extend (xv 1) (acons (xlst (acons (xfldE T.xf_NoPlayer T.xn_NoPlayer (xmkEk T.e_NoPlayer G_x_NoPlayer (hr.mono (by decide)) T.m_NoPlayer T.xkb_NoPlayer (xv 0) pass0)) (acons (xfldE T.xf_BadTruth T.xn_BadTruth (xmkE T.e_BadTruth G_x_BadTruth (hr.mono (by decide)) T.m_BadTruth T.xb_BadTruth (xv 0) pass0)) (acons (xfldE T.xf_BadTruth T.xn_BadTruth (xmkEk T.e_BadTruth G_x_BadTruth (hr.mono (by decide)) T.m_BadTruth T.xkb_BadTruth (xv 0) pass0)) anil)))) anil)))
    (bone (sret (xcmp (op_eqD hr.units) om_eq (xv 1) (xop op_mulU om_mul (xlst (acons (xv 0) anil)) (xlen T.z_len (acons (xv 1) anil))) (nomark _))))))) rfl h
theorem ok_law (T : Txt K w mg A) {g__law_kinds : Fn} (G__law_kinds : FnOk P w K mg base CX0 3 A.a__law_kinds A.d__law_kinds ["_law_e"] (spM K 1 g__law_kinds)) {g__law_kept : Fn} (G__law_kept : FnOk P w K mg base CX0 3 A.a__law_kept A.d__law_kept ["_law_thing"] (spM K 1 g__law_kept)) (G_x_BadName : FnOk P w K mg base CX0 1 A.a_x_BadName A.d_x_BadName ["self", "name"] (spI K (clA K "BadName") "name")) (G_x_NoRow : FnOk P w K mg base CX0 1 A.a_x_NoRow A.d_x_NoRow ["self", "name"] (spI K (clA K "NoRow") "name")) (G_x_BadForm : FnOk P w K mg base CX0 1 A.a_x_BadForm A.d_x_BadForm ["self", "path"] (spI K (clA K "BadForm") "path")) (G_x_BadTruth : FnOk P w K mg base CX0 1 A.a_x_BadTruth A.d_x_BadTruth ["self", "name"] (spI K (clA K "BadTruth") "name")) (G_x_NoPlayer : FnOk P w K mg base CX0 1 A.a_x_NoPlayer A.d_x_NoPlayer ["self", "name"] (spI K (clA K "NoPlayer") "name")) : FnOk P w K mg base CX0 6 A.a_law A.d_law ["_law_script"] (spM K 1 (f_law g__law_kinds g__law_kept)) :=
  T.F_law.ok sc_law (spM_len rfl) fun cdv A outer s H vs Q E hr h => body_ok (n := 1) (nl := 6)
    (bcons (sset 1 (xlst (acons (xmkE T.e_BadForm G_x_BadForm (hr.mono (by decide)) T.m_BadForm T.xb_BadForm (xtup (acons xint anil)) pass0) (acons (xmkE0 T.xq_BadText T.xk_BadText T.m_BadText) (acons (xmkE0 T.xq_NoActs T.xk_NoActs T.m_NoActs) (acons (xmkE T.e_NoRow G_x_NoRow (hr.mono (by decide)) T.m_NoRow T.xb_NoRow xstr pass0) (acons (xmkE T.e_BadName G_x_BadName (hr.mono (by decide)) T.m_BadName T.xb_BadName xnon pass0) (acons (xmkE0 T.xq_BadRule T.xk_BadRule T.m_BadRule) anil))))))) sc_law.nd)
    (bcons (sexpr (xlm PySem.F.slot_list_extend PySem.F.type_list_extend mt_extend mm_extend (xv 1) (acons (xlst (acons (xmkE T.e_NoPlayer G_x_NoPlayer (hr.mono (by decide)) T.m_NoPlayer T.xb_NoPlayer xint pass0) (acons (xmkE T.e_BadTruth G_x_BadTruth (hr.mono (by decide)) T.m_BadTruth T.xb_BadTruth xstr pass0) anil))) anil)))
    (bcons (sfor PassesOwn.never rfl (ienum T.z_enumerate (acons (xv 1) anil)) (gtupX rfl (gscons (gname 2 sc_law.nd) (gscons (gname 3 sc_law.nd) gsnil)) rfl)
    (bcons (sif (tbool (wor (tcmp (op_neD hr.units) om_ne (xcall G__law_kinds (hr.mono (by decide)) T.g__law_kinds T.F__law_kinds.kp T.b__law_kinds (acons (xfz (xv 3)) anil) (cons_len (nil_len rfl) rfl) pass0) (xcomp (own := [("_law_j", 6)]) rfl sc_law.nd (irng1 T.z_range (acons xint anil)) (blkOk_by (own := [("_law_j", 6)]) (N := N_law) (sc := defScope s_law) (by decide +kernel)) (fun _ _ _ _ _ => by exact (gcname 6 (by decide) sc_law.nd)) (fun _ _ _ _ _ => pnil) (fun _ _ _ _ _ => by apply re_te; (case h => exact (xcmp (op_eqD hr.units) om_eq (xv 6) (xv 2) (nomark _))); (case q => (dsimp only [Cx.blk] <;> rfl)))) (nomark _)) (wor1 (tnot (ttru (xisX T.z_isinstance T.kt_BoxError (xv 3) T.m_BoxError))))))
    (bone (sret xbl))
    bnil)
    (bone (sif (tnot (ttru (xisXt T.z_isinstance T.kt_ValueError (xv 3) T.z_ValueError (by decide +kernel))))
    (bone (sret xbl))
    bnil))))
    (bcons (sif (tbool (wor (tcmp op_in_seq (om_in false) xbl (xcall G__law_kinds (hr.mono (by decide)) T.g__law_kinds T.F__law_kinds.kp T.b__law_kinds (acons (xfz (xmkE0 T.xq_BoxError T.xk_BoxError T.m_BoxError)) anil) (cons_len (nil_len rfl) rfl) pass0) (by rfl)) (wor1 (tnot (ttru (xisXt T.z_isinstance T.kt_ValueError (xmkE0 T.xq_BoxError T.xk_BoxError T.m_BoxError) T.z_ValueError (by decide +kernel)))))))
    (bone (sret xbl))
    bnil)
    (bcons (sfor PassesOwn.never rfl (iseq (xsl (xop op_addU om_add (xbty call_listU cm_list T.z_list (by decide +kernel) (acons (xv 0) anil)) (xlst (acons xint (acons xint (acons (xneg xint) anil))))) onone (osome xint))) (gname 4 sc_law.nd)
    (bone (sfor PassesOwn.never rfl (iseq (xlst (acons (xv 4) (acons (xop op_addU om_add xstr (xbty cr_strI cm_strI T.z_str (by decide +kernel) (acons (xop op_modN om_mod (xbty call_intU cm_int T.z_int (by decide +kernel) (acons (xv 4) anil)) xint) anil))) (acons xnon (acons (xtup (acons xint (acons (xop op_modN om_mod (xbty call_intU cm_int T.z_int (by decide +kernel) (acons (xv 4) anil)) xint) anil))) (acons (xlst (acons (xop op_modN om_mod (xbty call_intU cm_int T.z_int (by decide +kernel) (acons (xv 4) anil)) xint) anil)) (acons (xop op_pow om_pow xint xint) anil)))))))) (gname 5 sc_law.nd)
    (bone (sif (tnot (ttru (xcall G__law_kept (hr.mono (by decide)) T.g__law_kept T.F__law_kept.kp T.b__law_kept (acons (xfz (xv 5)) anil) (cons_len (nil_len rfl) rfl) pass0)))
    (bone (sret xbl))
    bnil)))))
    (bone (sret xbl))))))) rfl h
end
/-- all but the last loop and the end -/
def preS : En → Option Rs :=
  (seqS (setS 1 (lstM (consM (mkEM "BadForm" "path" (tupM (consM (retM (.d (.int 1))) (retM [])))) (consM (retM (.d (.exc "BadText" [] []))) (consM (retM (.d (.exc "NoActs" [] []))) (consM (mkEM "NoRow" "name" (retM (.d (.str "p")))) (consM (mkEM "BadName" "name" (retM (.d .non))) (consM (retM (.d (.exc "BadRule" [] []))) (retM [])))))))))
    (seqS (dropS (bmM "list" (vM 1) (consM (lstM (consM (mkEM "NoPlayer" "name" (retM (.d (.int 5)))) (consM (mkEM "BadTruth" "name" (retM (.d (.str "a")))) (retM [])))) (retM [])) extF))
    (seqS (forS (enumM (consM (vM 1) (retM []))) (tupG [(nameG 2), (nameG 3)])
    (seqS (ifS (orM (bindM (bindM (callM f__law_kinds (consM (fzV (vM 3)) (retM []))) fun x => bindM (compM [6] (rng1M (consM (retM (.d (.int 8))) (retM []))) (nameG 6) (retM true) (bindM (vM 6) fun x => bindM (vM 2) (op2 eqF x))) (op2 neF x)) boolM) (notM (bindM (bindM (vM 3) (seeF (isXF k_BoxError))) truM)))
    (retS (retM (.d (.bl false))))
    nilS)
    (ifS (notM (bindM (bindM (vM 3) (seeF (isXF k_ValueError))) truM))
    (retS (retM (.d (.bl false))))
    nilS)))
    (ifS (orM (bindM (bindM (retM (.d (.bl true))) fun x => bindM (callM f__law_kinds (consM (fzV (retM (.d (.exc "BoxError" [] [])))) (retM []))) (op2 (inF false) x)) boolM) (notM (bindM (bindM (retM (.d (.exc "BoxError" [] []))) (seeF (isXF k_ValueError))) truM)))
    (retS (retM (.d (.bl false))))
    nilS))))
theorem zv_ext {E : En} {mo : M Vl} {ma : M (List Vl)} {c : Nat} {r : Vl} {as0 acc ds : List Dt} {sl sl2 : List (Option Vl)} {ce ce2 : List Ce} (ho : mo E = some (.c c, ⟨sl, ce⟩)) (h0 : see ce (.c c) = some (.lst as0)) (ha : ma ⟨sl, ce⟩ = some ([r], ⟨sl2, ce2⟩)) (hr : see ce2 r = some (.lst ds)) (h3 : ce2[c]? = some (.lst acc)) (hl : acc.length + ds.length ≤ 100000) :
    bmM "list" mo ma extF E = some (.d .non, ⟨sl2, ce2.set c (.lst (acc ++ ds))⟩) := by
  refine zv_bind ho ?_
  show (match see ce (.c c) with
    | some d => if tyB "list" d = true then (Hk.bindM ma fun xs => extF (.c c) xs) ⟨sl, ce⟩ else none
    | none => none) = _
  rw [h0]
  refine zv_bind (m := ma) ha ?_
  show (match see ce2 r with
    | some (.lst ds) => onC (fun acc => if acc.length + ds.length ≤ 100000 then some (.non, acc ++ ds) else none) (.c c) ⟨sl2, ce2⟩
    | _ => none) = _
  rw [hr]
  show (match ce2[c]? with
    | some (.lst xs) => match (if xs.length + ds.length ≤ 100000 then some (Dt.non, xs ++ ds) else none) with
      | some (d, ys) => some (Vl.d d, (⟨sl2, ce2.set c (.lst ys)⟩ : En))
      | none => none
    | _ => none) = _
  rw [h3]
  simp only [if_pos hl]

theorem zv_mkE {C f : Str} {m : M Vl} {E E1 E2 : En} {r : Vl} {d : Dt} (h : m E = some (r, E1)) (g : fzM r E1 = some (d, E2)) : mkEM C f m E = some (.d (.exc C [f] [d]), E2) := zv_bind h (zv_bind g zv_ret)
def endP (s : Dt) : Option Rs → Bool × Option (Option Vl) × Nat
  | some (.nx E) => (true, none, E.sl.length)
  | _ => (false, none, 0)
theorem pre_ok (s : Dt) : ∃ E, preS ⟨[some (.d s), none, none, none, none, none, none], []⟩ = some (.nx E) ∧ E.sl[0]? = some (some (.d s)) ∧ E.sl.length = 7 := by
  have h : (match preS ⟨[some (.d s), none, none, none, none, none, none], []⟩ with
    | some (.nx E) => some (E.sl[0]?, E.sl.length)
    | _ => none) = some (some (some (.d s)), 7) := by kernel_rfl
  split at h
  · rename_i E e
    have h := Option.some.inj h
    have h1 := congrArg Prod.fst h
    have h2 := congrArg Prod.snd h
    exact ⟨E, e, h1, h2⟩
  · cases h
/-- data that is like itself -/
def Good (d : Dt) : Prop := ∃ p, toP d = some p ∧ p.canLay0 = true ∧ p.depth ≤ 3
theorem eqd_self {d : Dt} (h : Good d) : eqd (.lst (List.replicate 10 d)) (.lst (List.replicate 10 d)) = some true := by
  obtain ⟨p, h1, h2, h3⟩ := h
  have e : toP (.lst (List.replicate 10 d)) = some (.list (List.replicate 10 p)) := by
    simp [List.replicate, toP, toPA, h1]
  have hc : (PyData.list (List.replicate 10 p)).canLay0 = true := by simp [List.replicate, PyData.canLay0, PyData.canLayAll0, h2]
  have hs : SeqAt.shaped (.list (List.replicate 10 p)) = true := by
    unfold SeqAt.shaped
    rw [hc]
    simp [List.replicate, PyData.depth, PyData.depthAll]
    omega
  unfold eqd
  rw [e]
  show (if SeqAt.shaped (.list (List.replicate 10 p)) = true ∧ SeqAt.shaped (.list (List.replicate 10 p)) = true then some _ else none) = _
  rw [if_pos ⟨hs, hs⟩, SeqAt.eqv_refl _ hc]
theorem newL_at {xs : List Dt} {sl : List (Option Vl)} {ce L : List Ce} : newL xs ⟨sl, ce ++ L⟩ = some (.c (ce.length + L.length), ⟨sl, ce ++ (L ++ [.lst xs])⟩) := by
  show some (Vl.c (ce ++ L).length, (⟨sl, (ce ++ L) ++ [.lst xs]⟩ : En)) = _
  rw [List.length_append, List.append_assoc]
theorem kept_ok {d : Dt} {ce : List Ce} (hd : Good d) : f__law_kept [.d d] ce = some (.d (.bl true), ce) := by
  have one : ∀ (C f : Str) (x : Option Vl) (ce : List Ce), Hk.bindM (mkEM C f (vM 0)) (seeF (fldEF C f)) ⟨[some (.d d), x], ce⟩ = some (.d d, ⟨[some (.d d), x], ce⟩) := fun C f x ce => zv_bind (zv_mkE (zv_var rfl) zv_fzD) (zv_see zv_seeD (by
    show (if C = C then look f [f] [d] else none) = _
    rw [if_pos rfl]
    show (if f = f then some d else none) = _
    rw [if_pos rfl]))
  have s1 := zk_set (i := 1) (zv_lst (zv_cons (one "BadForm" "path" none (ce ++ [])) (zv_cons (one "BadForm" "path" none (ce ++ [])) (zv_cons (one "NoRow" "name" none (ce ++ [])) (zv_cons (one "NoRow" "name" none (ce ++ [])) zv_ret)))) (by show 4 ≤ 100000; decide) (zv_fzA1 zv_fzD (zv_fzA1 zv_fzD (zv_fzA1 zv_fzD (zv_fzA1 zv_fzD zv_fzA0)))) newL_at)
  have l2 := zv_lst (zv_cons (one "BadName" "name" (some (.c (ce.length + 0))) (ce ++ [Ce.lst [d, d, d, d]])) (zv_cons (one "BadName" "name" (some (.c (ce.length + 0))) (ce ++ [Ce.lst [d, d, d, d]])) (zv_cons (one "NoPlayer" "name" (some (.c (ce.length + 0))) (ce ++ [Ce.lst [d, d, d, d]])) zv_ret))) (by show 3 ≤ 100000; decide) (zv_fzA1 zv_fzD (zv_fzA1 zv_fzD (zv_fzA1 zv_fzD zv_fzA0))) (newL_at (L := [Ce.lst [d, d, d, d]]))
  have s2 := zk_drop (zv_ext (zv_var (i := 1) (sl := [some (.d d), some (.c (ce.length + 0))]) (ce := ce ++ [Ce.lst [d, d, d, d]]) rfl) (zv_seeC (get_L rfl)) (zv_cons l2 zv_ret) (zv_seeC (get_L (i := 1) rfl)) (get_L (i := 0) rfl) (by show 4 + 3 ≤ 100000; decide))
  rw [set_L] at s2
  have l3 := zv_lst (zv_cons (one "NoPlayer" "name" (some (.c (ce.length + 0))) (ce ++ [Ce.lst [d, d, d, d, d, d, d], Ce.lst [d, d, d]])) (zv_cons (one "BadTruth" "name" (some (.c (ce.length + 0))) (ce ++ [Ce.lst [d, d, d, d, d, d, d], Ce.lst [d, d, d]])) (zv_cons (one "BadTruth" "name" (some (.c (ce.length + 0))) (ce ++ [Ce.lst [d, d, d, d, d, d, d], Ce.lst [d, d, d]])) zv_ret))) (by show 3 ≤ 100000; decide) (zv_fzA1 zv_fzD (zv_fzA1 zv_fzD (zv_fzA1 zv_fzD zv_fzA0))) (newL_at (L := [Ce.lst [d, d, d, d, d, d, d], Ce.lst [d, d, d]]))
  have s3 := zk_drop (zv_ext (zv_var (i := 1) (sl := [some (.d d), some (.c (ce.length + 0))]) (ce := ce ++ [Ce.lst [d, d, d, d, d, d, d], Ce.lst [d, d, d]]) rfl) (zv_seeC (get_L rfl)) (zv_cons l3 zv_ret) (zv_seeC (get_L (i := 2) rfl)) (get_L (i := 0) rfl) (by show 7 + 3 ≤ 100000; decide))
  rw [set_L] at s3
  have l4 := zv_lst (zv_cons (zv_var (i := 0) (r := .d d) (sl := [some (.d d), some (.c (ce.length + 0))]) (ce := ce ++ [Ce.lst [d, d, d, d, d, d, d, d, d, d], Ce.lst [d, d, d], Ce.lst [d, d, d]]) rfl) zv_ret) (by show 1 ≤ 100000; decide) (zv_fzA1 zv_fzD zv_fzA0) (newL_at (L := [Ce.lst [d, d, d, d, d, d, d, d, d, d], Ce.lst [d, d, d], Ce.lst [d, d, d]]))
  have l5 := zv_bind (zv_cons (zv_var (i := 1) (sl := [some (.d d), some (.c (ce.length + 0))]) (ce := ce ++ [Ce.lst [d, d, d, d, d, d, d, d, d, d], Ce.lst [d, d, d], Ce.lst [d, d, d], Ce.lst [d]]) rfl) zv_ret) (zv_fn1 (f := lenD) (zv_seeC (get_L rfl)) zw_lenL)
  have l6 := zv_bind (f := fun x => Hk.bindM (Hk.bindM (consM (vM 1) (retM [])) (fn1 lenD)) (mulF x)) l4 (zv_bind l5 (zv_mulL (zv_seeC (get_L (i := 3) rfl)) zv_seeD (by show -1000 ≤ (10 : Int) ∧ (10 : Int) ≤ 1000 ∧ 1 ≤ 1000; decide) (newL_at (L := [Ce.lst [d, d, d, d, d, d, d, d, d, d], Ce.lst [d, d, d], Ce.lst [d, d, d], Ce.lst [d]]))))
  have l7 := zv_bind (f := fun x => Hk.bindM (Hk.bindM (lstM (consM (vM 0) (retM []))) fun x => Hk.bindM (Hk.bindM (consM (vM 1) (retM [])) (fn1 lenD)) (mulF x)) (op2 eqF x)) (zv_var (i := 1) (sl := [some (.d d), some (.c (ce.length + 0))]) (ce := ce ++ [Ce.lst [d, d, d, d, d, d, d, d, d, d], Ce.lst [d, d, d], Ce.lst [d, d, d]]) rfl) (zv_bind l6 (zv_op2 (zv_seeC (get_L (i := 0) rfl)) (zv_seeC (get_L (i := 4) rfl)) (zw_eq (eqd_self hd))))
  have h : m__law_kept ⟨[some (.d d), none], ce ++ []⟩ = _ := zk_seq s1 (zk_nx (zk_seq s2 (zk_nx (zk_seq s3 (zk_nx (zk_ret l7))))))
  rw [List.append_nil] at h
  exact zf_rt h (trim_d (List.take_left' rfl))

/-- what the last loop goes through for a cell -/
def THINGS (i : Int) : List Dt := [.int i, .str ("k" ++ (toString (i.fmod 1000) : Str)), .non, .tup [.int 1, .int (i.fmod 7)], .lst [.int (i.fmod 5)], .int (10 ^ 30)]
theorem kstr_ok : ∀ m : Nat, m < 1000 → PyData.strOk ("k" ++ ((toString (m : Int) : String) : Str)) = true ∧ ("k" : Str).length + ((toString (m : Int) : String) : Str).length ≤ 10 ∧ ((m : Int).natAbs).log2 < 1920 := by decide +kernel
theorem things_good {i : Int} : ∀ d ∈ THINGS i, Good d := by
  obtain ⟨m, hm⟩ : ∃ m : Nat, i.fmod 1000 = (m : Int) := ⟨(i.fmod 1000).toNat, by have := Int.fmod_nonneg_of_pos i (b := 1000) (by decide); omega⟩
  have hl : m < 1000 := by
    have := Int.fmod_lt_of_pos i (b := 1000) (by decide)
    omega
  intro d hd
  unfold THINGS at hd
  simp only [List.mem_cons, List.not_mem_nil, or_false] at hd
  rcases hd with rfl | rfl | rfl | rfl | rfl | rfl
  · exact ⟨.int i, rfl, rfl, by simp [PyData.depth]⟩
  · refine ⟨.str _, rfl, ?_, by simp [PyData.depth]⟩
    rw [hm]
    exact (kstr_ok m hl).1
  · exact ⟨.none, rfl, rfl, by simp [PyData.depth]⟩
  · exact ⟨.tuple [.int 1, .int _], rfl, rfl, by simp [PyData.depth, PyData.depthAll]⟩
  · exact ⟨.list [.int _], rfl, rfl, by simp [PyData.depth, PyData.depthAll]⟩
  · exact ⟨.int _, rfl, rfl, by simp [PyData.depth]⟩

def thingsM : M (List Dt) := (itemsM (lstM (consM (vM 4) (consM (Hk.bindM (retM (.d (.str "k"))) fun x => Hk.bindM (Hk.bindM (consM (Hk.bindM (Hk.bindM (consM (vM 4) (retM [])) (fn1 intD)) fun x => Hk.bindM (retM (.d (.int 1000))) (op2 modF x)) (retM [])) (fn1 strID)) (addF x)) (consM (retM (.d .non)) (consM (tupM (consM (retM (.d (.int 1))) (consM (Hk.bindM (Hk.bindM (consM (vM 4) (retM [])) (fn1 intD)) fun x => Hk.bindM (retM (.d (.int 7))) (op2 modF x)) (retM [])))) (consM (lstM (consM (Hk.bindM (Hk.bindM (consM (vM 4) (retM [])) (fn1 intD)) fun x => Hk.bindM (retM (.d (.int 5))) (op2 modF x)) (retM []))) (consM (Hk.bindM (retM (.d (.int 10))) fun x => Hk.bindM (retM (.d (.int 30))) (op2 powF x)) (retM [])))))))))
def keptS : En → Option Rs := (ifS (notM (Hk.bindM (callM f__law_kept (consM (fzV (vM 5)) (retM []))) truM))
    (retS (retM (.d (.bl false))))
    nilS)
def cellsM : M (List Dt) := (itemsM (Hk.bindM (Hk.bindM (Hk.bindM (consM (vM 0) (retM [])) (listF)) fun x => Hk.bindM (lstM (consM (retM (.d (.int 0))) (consM (retM (.d (.int 5))) (consM (negM (retM (.d (.int 3)))) (retM []))))) (addF x)) fun x => Hk.bindM (retM none) fun l => Hk.bindM (partM (retM (.d (.int 6)))) fun h => slF x l h))
theorem seqS_assoc {a b c : En → Option Rs} : seqS (seqS a b) c = seqS a (seqS b c) := by
  funext E
  unfold seqS
  cases a E with
  | none => rfl
  | some Q => cases Q <;> rfl
theorem law_is : m_law f__law_kinds f__law_kept = seqS preS (seqS (forS cellsM (nameG 4) (forS thingsM (nameG 5) keptS)) (retS (retM (.d (.bl true))))) := by
  unfold preS
  rw [seqS_assoc, seqS_assoc, seqS_assoc]
  rfl
theorem mod_ok {i j : Int} {sl : List (Option Vl)} {ce : List Ce} (h4 : sl[4]? = some (some (.d (.int i)))) (hj : j ≠ 0) : (Hk.bindM (Hk.bindM (consM (vM 4) (retM [])) (fn1 intD)) fun x => Hk.bindM (retM (.d (.int j))) (op2 modF x)) ⟨sl, ce⟩ = some (.d (.int (i.fmod j)), ⟨sl, ce⟩) :=
  zv_bind (zv_bind (zv_cons (zv_var h4) zv_ret) (zv_fn1 zv_seeD zw_intI)) (zv_bind zv_ret (zv_op2 zv_seeD zv_seeD (zw_mod hj)))
theorem things_ok {i : Int} {sl : List (Option Vl)} {ce : List Ce} (h4 : sl[4]? = some (some (.d (.int i)))) : ∃ E1, thingsM ⟨sl, ce⟩ = some (THINGS i, E1) ∧ E1.sl.length = sl.length := by
  obtain ⟨m, hm⟩ : ∃ m : Nat, i.fmod 1000 = (m : Int) := ⟨(i.fmod 1000).toNat, by have := Int.fmod_nonneg_of_pos i (b := 1000) (by decide); omega⟩
  have hl : m < 1000 := by
    have := Int.fmod_lt_of_pos i (b := 1000) (by decide)
    omega
  obtain ⟨k1, k2, k3⟩ := kstr_ok m hl
  have a1 : (Hk.bindM (retM (.d (.str "k"))) fun x => Hk.bindM (Hk.bindM (consM (Hk.bindM (Hk.bindM (consM (vM 4) (retM [])) (fn1 intD)) fun x => Hk.bindM (retM (.d (.int 1000))) (op2 modF x)) (retM [])) (fn1 strID)) (addF x)) ⟨sl, ce⟩ = some (.d (.str ("k" ++ (toString (i.fmod 1000) : Str))), ⟨sl, ce⟩) := by
    refine zv_bind zv_ret (zv_bind (zv_bind (zv_cons (mod_ok h4 (by decide)) zv_ret) (zv_fn1 zv_seeD ?_)) (zv_addS zv_seeD zv_seeD ?_))
    · show (if _ then _ else _) = _
      rw [hm, if_pos k3]
    · rw [hm]
      exact Nat.le_trans k2 (by rw [sizeLine_eq]; decide)
  have a2 := zv_tup (zv_cons (E := ⟨sl, ce⟩) (zv_ret (a := Vl.d (.int 1))) (zv_cons (mod_ok h4 (j := 7) (by decide)) zv_ret)) (by show 2 ≤ 100000; decide) (zv_fzA1 zv_fzD (zv_fzA1 zv_fzD zv_fzA0))
  have a3 := zv_lst (zv_cons (mod_ok (ce := ce) h4 (j := 5) (by decide)) zv_ret) (by show 1 ≤ 100000; decide) (zv_fzA1 zv_fzD zv_fzA0) zv_newL
  have a4 : (Hk.bindM (retM (.d (.int 10))) fun x => Hk.bindM (retM (.d (.int 30))) (op2 powF x)) ⟨sl, ce ++ [.lst [.int (i.fmod 5)]]⟩ = some (.d (.int (10 ^ 30)), ⟨sl, ce ++ [.lst [.int (i.fmod 5)]]⟩) := zv_bind zv_ret (zv_bind zv_ret (zv_op2 zv_seeD zv_seeD (zw_pow ⟨by decide, by decide, by decide⟩)))
  have b := zv_lst (zv_cons (zv_var h4) (zv_cons a1 (zv_cons (zv_ret (a := Vl.d .non)) (zv_cons a2 (zv_cons a3 (zv_cons a4 zv_ret)))))) (by show 6 ≤ 100000; decide) (zv_fzA1 zv_fzD (zv_fzA1 zv_fzD (zv_fzA1 zv_fzD (zv_fzA1 zv_fzD (zv_fzA1 (zv_fzC (get_new _ _)) (zv_fzA1 zv_fzD zv_fzA0)))))) zv_newL
  exact ⟨_, zv_items b (zv_fzC (get_new _ _)) rfl, by simp⟩
theorem inner_ok {i : Int} {sl : List (Option Vl)} {ce : List Ce} (h4 : sl[4]? = some (some (.d (.int i)))) (hl : sl.length = 7) : ∃ E2, forS thingsM (nameG 5) keptS ⟨sl, ce⟩ = some (.nx E2) ∧ E2.sl.length = 7 := by
  obtain ⟨E1, e1, l1⟩ := things_ok (ce := ce) h4
  obtain ⟨E2, e2, l2⟩ := for_inv (g := nameG 5) (m := keptS) (fun _ E => E.sl.length = 7) (THINGS i) 0 E1 (l1.trans hl) fun k d E hd hp => by
    have hg := things_good d (List.mem_of_getElem? hd)
    obtain ⟨sl, ce⟩ := E
    have hp : sl.length = 7 := hp
    have h5 : (sl.set 5 (some (.d d)))[5]? = some (some (.d d)) := by simp [hp]
    refine ⟨_, _, rfl, zk_if (zv_not (zv_bind (zv_call (zv_cons (zv_fzV (zv_var h5) zv_fzD) zv_ret) (kept_ok hg)) (zv_tru zv_seeD rfl))) (zps_F rfl zk_nil), ?_⟩
    simp [hp]
  exact ⟨E2, zk_for e1 e2, l2⟩
theorem cells_ok {ns : List Int} (hn : ns.length ≤ 63) {sl : List (Option Vl)} {ce : List Ce} (h0 : sl[0]? = some (some (.d (.sq (ns.map .int))))) : ∃ E1, cellsM ⟨sl, ce⟩ = some (cutD (ns.map Dt.int ++ [.int 0, .int 5, .int (-3)]) none (some 6), E1) ∧ E1.sl.length = sl.length := by
  have a1 := zv_bind (f := listF) (zv_cons (zv_var (ce := ce) h0) zv_ret) (zv_list zv_seeD rfl zv_newL)
  have a2 := zv_lst (zv_cons (E := ⟨sl, ce ++ [.lst (ns.map Dt.int)]⟩) (zv_ret (a := Vl.d (.int 0))) (zv_cons (zv_ret (a := Vl.d (.int 5))) (zv_cons (zv_neg (i := 3) zv_ret) zv_ret))) (by show 3 ≤ 100000; decide) (zv_fzA1 zv_fzD (zv_fzA1 zv_fzD (zv_fzA1 zv_fzD zv_fzA0))) (newL_at (L := [.lst (ns.map Dt.int)]))
  have a3 := zv_bind (f := fun x => Hk.bindM (lstM (consM (retM (.d (.int 0))) (consM (retM (.d (.int 5))) (consM (negM (retM (.d (.int 3)))) (retM []))))) (addF x)) a1 (zv_bind a2 (zv_addL (zv_seeC (get_L (i := 0) rfl)) (zv_seeC (get_L (i := 1) rfl)) (by simp; omega) (newL_at (L := [.lst (ns.map Dt.int), .lst [.int 0, .int 5, .int (-3)]]))))
  have a4 := zv_bind (f := fun x => Hk.bindM (retM none) fun l => Hk.bindM (partM (retM (.d (.int 6)))) fun h => slF x l h) a3 (zv_bind zv_ret (zv_bind (zv_part zv_ret) (zv_slL (zv_seeC (get_L (i := 2) rfl)) (newL_at (L := [.lst (ns.map Dt.int), .lst [.int 0, .int 5, .int (-3)], .lst (ns.map Dt.int ++ [.int 0, .int 5, .int (-3)])])))))
  exact ⟨_, zv_items a4 (zv_fzC (get_L (i := 3) rfl)) rfl, by simp⟩
theorem law_true (ns : List Int) (hn : ns.length ≤ 63) : f_law f__law_kinds f__law_kept [.d (.sq (ns.map .int))] [] = some (.d (.bl true), []) := by
  obtain ⟨E1, e1, s0, s7⟩ := pre_ok (.sq (ns.map .int))
  obtain ⟨sl, ce⟩ := E1
  have s7 : sl.length = 7 := s7
  obtain ⟨E2, e2, l2⟩ := cells_ok (ce := ce) hn s0
  obtain ⟨E3, e3, l3⟩ := for_inv (g := nameG 4) (m := forS thingsM (nameG 5) keptS) (fun _ E => E.sl.length = 7) (Hk.cutD (ns.map Dt.int ++ [.int 0, .int 5, .int (-3)]) none (some 6)) 0 E2 (l2.trans s7) fun k d E hd hp => by
    obtain ⟨i, rfl⟩ : ∃ i, d = .int i := by
      have h0 : d ∈ Hk.cutD (ns.map Dt.int ++ [.int 0, .int 5, .int (-3)]) none (some 6) := List.mem_of_getElem? hd
      unfold Hk.cutD at h0
      have h1 := List.mem_of_mem_drop (List.mem_of_mem_take h0)
      rcases List.mem_append.mp h1 with h1 | h1
      · obtain ⟨j, _, rfl⟩ := List.mem_map.mp h1
        exact ⟨j, rfl⟩
      · simp only [List.mem_cons, List.not_mem_nil, or_false] at h1
        rcases h1 with rfl | rfl | rfl <;> exact ⟨_, rfl⟩
    obtain ⟨sl, ce⟩ := E
    have hp : sl.length = 7 := hp
    obtain ⟨E4, e4, l4⟩ := inner_ok (i := i) (sl := sl.set 4 (some (.d (.int i)))) (ce := ce) (by simp [hp]) (by simp [hp])
    exact ⟨_, E4, rfl, e4, l4⟩
  have h : m_law f__law_kinds f__law_kept ⟨[some (.d (.sq (ns.map .int))), none, none, none, none, none, none], []⟩ = some (.rt (.d (.bl true)) E3) := by
    rw [law_is]
    exact zk_seq e1 (zk_nx (zk_seq (zk_for e2 e3) (zk_nx (zk_ret zv_ret))))
  exact zf_rt h (trim_d (List.take_zero ..))
end K21
namespace K21
open PySem PySem.Spec PyProof.Rows L2 Evl Hk NdefX
theorem all_mk {l : PySem.W.OpenLaw} {w : World} {K : PySem.W.Frag} {h : Heap} {mg : Str → Option Value} {fa : Addr} (X : K.In h) (G : h.Ns mainGlobals mg) (hfa : mg "law" = some (.ref fa))
    {f1 f2 f3 : Addr}
    {od1 an1 od2 an2 od3 an3 : Option Addr}
    {sl1 sl2 sl3 : Array (Option Value)}
    {oc1 kV1 dc1 pm1 cd1 ct1 oc2 kV2 dc2 pm2 cd2 ct2 oc3 kV3 dc3 pm3 cd3 ct3 : Value}
    {y1 y2 y3 y4 y5 y6 y7 y8 y9 yf2 yc2 ycd2 xN2 yf3 yc3 ycd3 xN3 yf6 yc6 ycd6 xN6 yf7 yc7 ycd7 xN7 yf8 yc8 ycd8 xN8 : Addr}
    {xnm2 xqn2 yfile2 xnm3 xqn3 yfile3 xnm6 xqn6 yfile6 xnm7 xqn7 yfile7 xnm8 xqn8 yfile8 : Str}
    {xbs2 xbm2 xsub2 xbs3 xbm3 xsub3 xbs6 xbm6 xsub6 xbs7 xbm7 xsub7 xbs8 xbm8 xsub8 : List Value}
    {xsn2 xsn3 xsn6 xsn7 xsn8 : List Str}
    {xab2 xab3 xab6 xab7 xab8 : Bool}
    {xcol2 xcol3 xcol6 xcol7 xcol8 : Option Bool}
    {xdd2 yod2 yan2 ycb2 ydb2 xdd3 yod3 yan3 ycb3 ydb3 xdd6 yod6 yan6 ycb6 ydb6 xdd7 yod7 yan7 ycb7 ydb7 xdd8 yod8 yan8 ycb8 ydb8 : Option Addr}
    {xk02 xk12 xk22 xk32 xk52 xk03 xk13 xk23 xk33 xk53 xk06 xk16 xk26 xk36 xk56 xk07 xk17 xk27 xk37 xk57 xk08 xk18 xk28 xk38 xk58 : Option Value}
    {yoc2 ykV2 ydc2 ypm2 yct2 yca2 yda2 yoc3 ykV3 ydc3 ypm3 yct3 yca3 yda3 yoc6 ykV6 ydc6 ypm6 yct6 yca6 yda6 yoc7 ykV7 ydc7 ypm7 yct7 yca7 yda7 yoc8 ykV8 ydc8 ypm8 yct8 yca8 yda8 : Value}
    {ysl2 yce2 yde2 ysl3 yce3 yde3 ysl6 yce6 yde6 ysl7 yce7 yde7 ysl8 yce8 yde8 : Array (Option Value)}
    {yvs2 yvs3 yvs6 yvs7 yvs8 : Array Value}
    {ytf2 ytf3 ytf6 ytf7 ytf8 : Tok}
    (xg1 : PySem.W.nsIn K mainGlobals "BadRule" = some (some (.ref y1)))
    (xh1_0 : PySem.W.findIn K (.ref y1) "__getattribute__" = some (some (.builtin "BaseException.__getattribute__")))
    (xh1_1 : PySem.W.findIn K (.ref y1) "__getattr__" = some none)
    (xh1_2 : PySem.W.subIn K (.ref y1) (.type "BaseException") = some true)
    (xh1_3 : PySem.W.hasDictIn K y1 = true)
    (xh1_4 : PySem.W.findIn K (.ref y1) "__class__" = some (some (.builtin "object.__class__")))
    (xh1_5 : PySem.W.specialIn K (.builtin "object.__class__") "__get__" = some (some (.builtin "getset_descriptor.__get__")))
    (xh1_6 : PySem.W.takesIn K (.builtin "object.__class__") = some true)
    (xh1_7 : PySem.W.mroIn K y1 (.type "object") = some true)
    (xk1 : PySem.W.keepIn K (.ref y1) = true)
    (xq1 : PySem.W.excIn K y1 [.type "ValueError", .type "Exception", .type "BaseException", .type "object"] "ValueError.__new__" = true)
    (xg2 : PySem.W.nsIn K mainGlobals "BadName" = some (some (.ref y2)))
    (xh2_0 : PySem.W.findIn K (.ref y2) "__getattribute__" = some (some (.builtin "BaseException.__getattribute__")))
    (xh2_1 : PySem.W.findIn K (.ref y2) "__getattr__" = some none)
    (xh2_2 : PySem.W.subIn K (.ref y2) (.type "BaseException") = some true)
    (xh2_3 : PySem.W.hasDictIn K y2 = true)
    (xh2_4 : PySem.W.findIn K (.ref y2) "__class__" = some (some (.builtin "object.__class__")))
    (xh2_5 : PySem.W.specialIn K (.builtin "object.__class__") "__get__" = some (some (.builtin "getset_descriptor.__get__")))
    (xh2_6 : PySem.W.takesIn K (.builtin "object.__class__") = some true)
    (xh2_7 : PySem.W.mroIn K y2 (.type "object") = some true)
    (xk2 : PySem.W.keepIn K (.ref y2) = true)
    (xa2 : K.lookup y2 = some (PySem.excClassObj xnm2 xqn2 y2 xN2 xbs2 xbm2 true xsn2 xsub2 xab2 xcol2 xdd2 xk02 xk12 xk22 xk32 xk52 "ValueError.__new__"))
    (xb2 : PySem.HandSPX.refsVE xbm2 = true)
    (xc2 : PySem.W.findIn K (.ref y2) "__setattr__" = some (some (.builtin "object.__setattr__")))
    (xd2 : PySem.W.typeIn K (.ref y2) = some (.type "type"))
    (xe2 : PySem.W.findIn K (.ref y2) "__init__" = some (some (.ref yf2)))
    (xf2 : PySem.W.typeIn K (.ref yf2) = some (.type "function"))
    (xl2 : K.lookup yf2 = some ⟨yoc2, yod2, .func (PySem.W.fnX "__init__" "BadName.__init__" (defArgs (inClass (topS 6) 0)) (defBody (inClass (topS 6) 0)) (defScope (inClass (topS 6) 0)) [(("__class__" : Str), yc2)] .none ykV2 ydc2 ypm2 yan2 (.ref ycd2) yct2), ysl2⟩)
    (xm2 : K.lookup yc2 = some ⟨yca2, ycb2, .cell (some (.ref y2)), yce2⟩)
    (xo2 : K.lookup ycd2 = some ⟨yda2, ydb2, .fields yvs2, yde2⟩)
    (xp2 : yvs2[2]? = some (.str yfile2 ytf2))
    (xr2 : ((l.prog.main.file : Str) == yfile2) = true)
    (xs2 : PySem.W.codeIn K (.ref ycd2) "BadName.__init__" = true)
    (xt2 : PySem.W.mroIn K y2 (.ref y2) = some true)
    (xu2 : PySem.W.ks_superIn K y2 y2 "__init__" = some (some (.builtin "ValueError.__init__")))
    (xv2 : PySem.W.subIn K (.ref y2) (.type "ValueError") = some true)
    (xw2 : PySem.W.findIn K (.ref y2) "name" = some none)
    (xg3 : PySem.W.nsIn K mainGlobals "NoRow" = some (some (.ref y3)))
    (xh3_0 : PySem.W.findIn K (.ref y3) "__getattribute__" = some (some (.builtin "BaseException.__getattribute__")))
    (xh3_1 : PySem.W.findIn K (.ref y3) "__getattr__" = some none)
    (xh3_2 : PySem.W.subIn K (.ref y3) (.type "BaseException") = some true)
    (xh3_3 : PySem.W.hasDictIn K y3 = true)
    (xh3_4 : PySem.W.findIn K (.ref y3) "__class__" = some (some (.builtin "object.__class__")))
    (xh3_5 : PySem.W.specialIn K (.builtin "object.__class__") "__get__" = some (some (.builtin "getset_descriptor.__get__")))
    (xh3_6 : PySem.W.takesIn K (.builtin "object.__class__") = some true)
    (xh3_7 : PySem.W.mroIn K y3 (.type "object") = some true)
    (xk3 : PySem.W.keepIn K (.ref y3) = true)
    (xa3 : K.lookup y3 = some (PySem.excClassObj xnm3 xqn3 y3 xN3 xbs3 xbm3 true xsn3 xsub3 xab3 xcol3 xdd3 xk03 xk13 xk23 xk33 xk53 "ValueError.__new__"))
    (xb3 : PySem.HandSPX.refsVE xbm3 = true)
    (xc3 : PySem.W.findIn K (.ref y3) "__setattr__" = some (some (.builtin "object.__setattr__")))
    (xd3 : PySem.W.typeIn K (.ref y3) = some (.type "type"))
    (xe3 : PySem.W.findIn K (.ref y3) "__init__" = some (some (.ref yf3)))
    (xf3 : PySem.W.typeIn K (.ref yf3) = some (.type "function"))
    (xl3 : K.lookup yf3 = some ⟨yoc3, yod3, .func (PySem.W.fnX "__init__" "NoRow.__init__" (defArgs (inClass (topS 5) 0)) (defBody (inClass (topS 5) 0)) (defScope (inClass (topS 5) 0)) [(("__class__" : Str), yc3)] .none ykV3 ydc3 ypm3 yan3 (.ref ycd3) yct3), ysl3⟩)
    (xm3 : K.lookup yc3 = some ⟨yca3, ycb3, .cell (some (.ref y3)), yce3⟩)
    (xo3 : K.lookup ycd3 = some ⟨yda3, ydb3, .fields yvs3, yde3⟩)
    (xp3 : yvs3[2]? = some (.str yfile3 ytf3))
    (xr3 : ((l.prog.main.file : Str) == yfile3) = true)
    (xs3 : PySem.W.codeIn K (.ref ycd3) "NoRow.__init__" = true)
    (xt3 : PySem.W.mroIn K y3 (.ref y3) = some true)
    (xu3 : PySem.W.ks_superIn K y3 y3 "__init__" = some (some (.builtin "ValueError.__init__")))
    (xv3 : PySem.W.subIn K (.ref y3) (.type "ValueError") = some true)
    (xw3 : PySem.W.findIn K (.ref y3) "name" = some none)
    (xg4 : PySem.W.nsIn K mainGlobals "NoActs" = some (some (.ref y4)))
    (xh4_0 : PySem.W.findIn K (.ref y4) "__getattribute__" = some (some (.builtin "BaseException.__getattribute__")))
    (xh4_1 : PySem.W.findIn K (.ref y4) "__getattr__" = some none)
    (xh4_2 : PySem.W.subIn K (.ref y4) (.type "BaseException") = some true)
    (xh4_3 : PySem.W.hasDictIn K y4 = true)
    (xh4_4 : PySem.W.findIn K (.ref y4) "__class__" = some (some (.builtin "object.__class__")))
    (xh4_5 : PySem.W.specialIn K (.builtin "object.__class__") "__get__" = some (some (.builtin "getset_descriptor.__get__")))
    (xh4_6 : PySem.W.takesIn K (.builtin "object.__class__") = some true)
    (xh4_7 : PySem.W.mroIn K y4 (.type "object") = some true)
    (xk4 : PySem.W.keepIn K (.ref y4) = true)
    (xq4 : PySem.W.excIn K y4 [.type "ValueError", .type "Exception", .type "BaseException", .type "object"] "ValueError.__new__" = true)
    (xg5 : PySem.W.nsIn K mainGlobals "BadText" = some (some (.ref y5)))
    (xh5_0 : PySem.W.findIn K (.ref y5) "__getattribute__" = some (some (.builtin "BaseException.__getattribute__")))
    (xh5_1 : PySem.W.findIn K (.ref y5) "__getattr__" = some none)
    (xh5_2 : PySem.W.subIn K (.ref y5) (.type "BaseException") = some true)
    (xh5_3 : PySem.W.hasDictIn K y5 = true)
    (xh5_4 : PySem.W.findIn K (.ref y5) "__class__" = some (some (.builtin "object.__class__")))
    (xh5_5 : PySem.W.specialIn K (.builtin "object.__class__") "__get__" = some (some (.builtin "getset_descriptor.__get__")))
    (xh5_6 : PySem.W.takesIn K (.builtin "object.__class__") = some true)
    (xh5_7 : PySem.W.mroIn K y5 (.type "object") = some true)
    (xk5 : PySem.W.keepIn K (.ref y5) = true)
    (xq5 : PySem.W.excIn K y5 [.type "ValueError", .type "Exception", .type "BaseException", .type "object"] "ValueError.__new__" = true)
    (xg6 : PySem.W.nsIn K mainGlobals "BadForm" = some (some (.ref y6)))
    (xh6_0 : PySem.W.findIn K (.ref y6) "__getattribute__" = some (some (.builtin "BaseException.__getattribute__")))
    (xh6_1 : PySem.W.findIn K (.ref y6) "__getattr__" = some none)
    (xh6_2 : PySem.W.subIn K (.ref y6) (.type "BaseException") = some true)
    (xh6_3 : PySem.W.hasDictIn K y6 = true)
    (xh6_4 : PySem.W.findIn K (.ref y6) "__class__" = some (some (.builtin "object.__class__")))
    (xh6_5 : PySem.W.specialIn K (.builtin "object.__class__") "__get__" = some (some (.builtin "getset_descriptor.__get__")))
    (xh6_6 : PySem.W.takesIn K (.builtin "object.__class__") = some true)
    (xh6_7 : PySem.W.mroIn K y6 (.type "object") = some true)
    (xk6 : PySem.W.keepIn K (.ref y6) = true)
    (xa6 : K.lookup y6 = some (PySem.excClassObj xnm6 xqn6 y6 xN6 xbs6 xbm6 true xsn6 xsub6 xab6 xcol6 xdd6 xk06 xk16 xk26 xk36 xk56 "ValueError.__new__"))
    (xb6 : PySem.HandSPX.refsVE xbm6 = true)
    (xc6 : PySem.W.findIn K (.ref y6) "__setattr__" = some (some (.builtin "object.__setattr__")))
    (xd6 : PySem.W.typeIn K (.ref y6) = some (.type "type"))
    (xe6 : PySem.W.findIn K (.ref y6) "__init__" = some (some (.ref yf6)))
    (xf6 : PySem.W.typeIn K (.ref yf6) = some (.type "function"))
    (xl6 : K.lookup yf6 = some ⟨yoc6, yod6, .func (PySem.W.fnX "__init__" "BadForm.__init__" (defArgs (inClass (topS 2) 0)) (defBody (inClass (topS 2) 0)) (defScope (inClass (topS 2) 0)) [(("__class__" : Str), yc6)] .none ykV6 ydc6 ypm6 yan6 (.ref ycd6) yct6), ysl6⟩)
    (xm6 : K.lookup yc6 = some ⟨yca6, ycb6, .cell (some (.ref y6)), yce6⟩)
    (xo6 : K.lookup ycd6 = some ⟨yda6, ydb6, .fields yvs6, yde6⟩)
    (xp6 : yvs6[2]? = some (.str yfile6 ytf6))
    (xr6 : ((l.prog.main.file : Str) == yfile6) = true)
    (xs6 : PySem.W.codeIn K (.ref ycd6) "BadForm.__init__" = true)
    (xt6 : PySem.W.mroIn K y6 (.ref y6) = some true)
    (xu6 : PySem.W.ks_superIn K y6 y6 "__init__" = some (some (.builtin "ValueError.__init__")))
    (xv6 : PySem.W.subIn K (.ref y6) (.type "ValueError") = some true)
    (xw6 : PySem.W.findIn K (.ref y6) "path" = some none)
    (xg7 : PySem.W.nsIn K mainGlobals "BadTruth" = some (some (.ref y7)))
    (xh7_0 : PySem.W.findIn K (.ref y7) "__getattribute__" = some (some (.builtin "BaseException.__getattribute__")))
    (xh7_1 : PySem.W.findIn K (.ref y7) "__getattr__" = some none)
    (xh7_2 : PySem.W.subIn K (.ref y7) (.type "BaseException") = some true)
    (xh7_3 : PySem.W.hasDictIn K y7 = true)
    (xh7_4 : PySem.W.findIn K (.ref y7) "__class__" = some (some (.builtin "object.__class__")))
    (xh7_5 : PySem.W.specialIn K (.builtin "object.__class__") "__get__" = some (some (.builtin "getset_descriptor.__get__")))
    (xh7_6 : PySem.W.takesIn K (.builtin "object.__class__") = some true)
    (xh7_7 : PySem.W.mroIn K y7 (.type "object") = some true)
    (xk7 : PySem.W.keepIn K (.ref y7) = true)
    (xa7 : K.lookup y7 = some (PySem.excClassObj xnm7 xqn7 y7 xN7 xbs7 xbm7 true xsn7 xsub7 xab7 xcol7 xdd7 xk07 xk17 xk27 xk37 xk57 "ValueError.__new__"))
    (xb7 : PySem.HandSPX.refsVE xbm7 = true)
    (xc7 : PySem.W.findIn K (.ref y7) "__setattr__" = some (some (.builtin "object.__setattr__")))
    (xd7 : PySem.W.typeIn K (.ref y7) = some (.type "type"))
    (xe7 : PySem.W.findIn K (.ref y7) "__init__" = some (some (.ref yf7)))
    (xf7 : PySem.W.typeIn K (.ref yf7) = some (.type "function"))
    (xl7 : K.lookup yf7 = some ⟨yoc7, yod7, .func (PySem.W.fnX "__init__" "BadTruth.__init__" (defArgs (inClass (topS 9) 0)) (defBody (inClass (topS 9) 0)) (defScope (inClass (topS 9) 0)) [(("__class__" : Str), yc7)] .none ykV7 ydc7 ypm7 yan7 (.ref ycd7) yct7), ysl7⟩)
    (xm7 : K.lookup yc7 = some ⟨yca7, ycb7, .cell (some (.ref y7)), yce7⟩)
    (xo7 : K.lookup ycd7 = some ⟨yda7, ydb7, .fields yvs7, yde7⟩)
    (xp7 : yvs7[2]? = some (.str yfile7 ytf7))
    (xr7 : ((l.prog.main.file : Str) == yfile7) = true)
    (xs7 : PySem.W.codeIn K (.ref ycd7) "BadTruth.__init__" = true)
    (xt7 : PySem.W.mroIn K y7 (.ref y7) = some true)
    (xu7 : PySem.W.ks_superIn K y7 y7 "__init__" = some (some (.builtin "ValueError.__init__")))
    (xv7 : PySem.W.subIn K (.ref y7) (.type "ValueError") = some true)
    (xw7 : PySem.W.findIn K (.ref y7) "name" = some none)
    (xg8 : PySem.W.nsIn K mainGlobals "NoPlayer" = some (some (.ref y8)))
    (xh8_0 : PySem.W.findIn K (.ref y8) "__getattribute__" = some (some (.builtin "BaseException.__getattribute__")))
    (xh8_1 : PySem.W.findIn K (.ref y8) "__getattr__" = some none)
    (xh8_2 : PySem.W.subIn K (.ref y8) (.type "BaseException") = some true)
    (xh8_3 : PySem.W.hasDictIn K y8 = true)
    (xh8_4 : PySem.W.findIn K (.ref y8) "__class__" = some (some (.builtin "object.__class__")))
    (xh8_5 : PySem.W.specialIn K (.builtin "object.__class__") "__get__" = some (some (.builtin "getset_descriptor.__get__")))
    (xh8_6 : PySem.W.takesIn K (.builtin "object.__class__") = some true)
    (xh8_7 : PySem.W.mroIn K y8 (.type "object") = some true)
    (xk8 : PySem.W.keepIn K (.ref y8) = true)
    (xa8 : K.lookup y8 = some (PySem.excClassObj xnm8 xqn8 y8 xN8 xbs8 xbm8 true xsn8 xsub8 xab8 xcol8 xdd8 xk08 xk18 xk28 xk38 xk58 "ValueError.__new__"))
    (xb8 : PySem.HandSPX.refsVE xbm8 = true)
    (xc8 : PySem.W.findIn K (.ref y8) "__setattr__" = some (some (.builtin "object.__setattr__")))
    (xd8 : PySem.W.typeIn K (.ref y8) = some (.type "type"))
    (xe8 : PySem.W.findIn K (.ref y8) "__init__" = some (some (.ref yf8)))
    (xf8 : PySem.W.typeIn K (.ref yf8) = some (.type "function"))
    (xl8 : K.lookup yf8 = some ⟨yoc8, yod8, .func (PySem.W.fnX "__init__" "NoPlayer.__init__" (defArgs (inClass (topS 8) 0)) (defBody (inClass (topS 8) 0)) (defScope (inClass (topS 8) 0)) [(("__class__" : Str), yc8)] .none ykV8 ydc8 ypm8 yan8 (.ref ycd8) yct8), ysl8⟩)
    (xm8 : K.lookup yc8 = some ⟨yca8, ycb8, .cell (some (.ref y8)), yce8⟩)
    (xo8 : K.lookup ycd8 = some ⟨yda8, ydb8, .fields yvs8, yde8⟩)
    (xp8 : yvs8[2]? = some (.str yfile8 ytf8))
    (xr8 : ((l.prog.main.file : Str) == yfile8) = true)
    (xs8 : PySem.W.codeIn K (.ref ycd8) "NoPlayer.__init__" = true)
    (xt8 : PySem.W.mroIn K y8 (.ref y8) = some true)
    (xu8 : PySem.W.ks_superIn K y8 y8 "__init__" = some (some (.builtin "ValueError.__init__")))
    (xv8 : PySem.W.subIn K (.ref y8) (.type "ValueError") = some true)
    (xw8 : PySem.W.findIn K (.ref y8) "name" = some none)
    (xg9 : PySem.W.nsIn K mainGlobals "BoxError" = some (some (.ref y9)))
    (xh9_0 : PySem.W.findIn K (.ref y9) "__getattribute__" = some (some (.builtin "BaseException.__getattribute__")))
    (xh9_1 : PySem.W.findIn K (.ref y9) "__getattr__" = some none)
    (xh9_2 : PySem.W.subIn K (.ref y9) (.type "BaseException") = some true)
    (xh9_3 : PySem.W.hasDictIn K y9 = true)
    (xh9_4 : PySem.W.findIn K (.ref y9) "__class__" = some (some (.builtin "object.__class__")))
    (xh9_5 : PySem.W.specialIn K (.builtin "object.__class__") "__get__" = some (some (.builtin "getset_descriptor.__get__")))
    (xh9_6 : PySem.W.takesIn K (.builtin "object.__class__") = some true)
    (xh9_7 : PySem.W.mroIn K y9 (.type "object") = some true)
    (xk9 : PySem.W.keepIn K (.ref y9) = true)
    (xq9 : PySem.W.excIn K y9 [.type "ValueError", .type "Exception", .type "BaseException", .type "object"] "ValueError.__new__" = true)
    (xtop : (l.prog.main.scope.names.lookup ("super" : Str)).isSome = false)
    (xsup : PySem.W.nsIn K mainGlobals "super" = some none)
    (xopq : PySem.W.nsIn K PySem.cStatics "thirdparty.any" = some none)
    (xkt_BoxError : kitTB K (.ref y9) [(y1, true), (y2, true), (y3, true), (y4, true), (y5, true), (y6, true), (y7, true), (y8, true), (y9, true)] = true)
    (xkt_ValueError : kitTB K (.type "ValueError") [(y1, true), (y2, true), (y3, true), (y4, true), (y5, true), (y6, true), (y7, true), (y8, true), (y9, true)] = true)
    (xkt_NoRow : kitTB K (.ref y3) [(y1, false), (y2, false), (y3, true), (y4, false), (y5, false), (y6, false), (y7, false), (y8, false), (y9, false)] = true)
    (xkt_NoActs : kitTB K (.ref y4) [(y1, false), (y2, false), (y3, false), (y4, true), (y5, false), (y6, false), (y7, false), (y8, false), (y9, false)] = true)
    (xkt_BadText : kitTB K (.ref y5) [(y1, false), (y2, false), (y3, false), (y4, false), (y5, true), (y6, false), (y7, false), (y8, false), (y9, false)] = true)
    (xkt_BadForm : kitTB K (.ref y6) [(y1, false), (y2, false), (y3, false), (y4, false), (y5, false), (y6, true), (y7, false), (y8, false), (y9, false)] = true)
    (xkt_NoPlayer : kitTB K (.ref y8) [(y1, false), (y2, false), (y3, false), (y4, false), (y5, false), (y6, false), (y7, false), (y8, true), (y9, false)] = true)
    (xkt_BadRule : kitTB K (.ref y1) [(y1, true), (y2, false), (y3, false), (y4, false), (y5, false), (y6, false), (y7, false), (y8, false), (y9, false)] = true)
    (xkt_BadName : kitTB K (.ref y2) [(y1, false), (y2, true), (y3, false), (y4, false), (y5, false), (y6, false), (y7, false), (y8, false), (y9, false)] = true)
    (xkt_BadTruth : kitTB K (.ref y7) [(y1, false), (y2, false), (y3, false), (y4, false), (y5, false), (y6, false), (y7, true), (y8, false), (y9, false)] = true)
    (a1 : PySem.W.nsIn K mainGlobals "_law_kinds" = some (some (.ref f1)))
    (l1 : K.lookup f1 = some ⟨oc1, od1, .func (PySem.W.fnOf "_law_kinds" "_law_kinds" (defArgs s__law_kinds) (defBody s__law_kinds) (defScope s__law_kinds) .none kV1 dc1 pm1 an1 cd1 ct1), sl1⟩)
    (c1 : PySem.W.codeIn K cd1 "_law_kinds" = true)
    (k1 : PySem.W.keepIn K (.ref f1) = true)
    (a2 : PySem.W.nsIn K mainGlobals "_law_kept" = some (some (.ref f2)))
    (l2 : K.lookup f2 = some ⟨oc2, od2, .func (PySem.W.fnOf "_law_kept" "_law_kept" (defArgs s__law_kept) (defBody s__law_kept) (defScope s__law_kept) .none kV2 dc2 pm2 an2 cd2 ct2), sl2⟩)
    (c2 : PySem.W.codeIn K cd2 "_law_kept" = true)
    (k2 : PySem.W.keepIn K (.ref f2) = true)
    (a3 : PySem.W.nsIn K mainGlobals "law" = some (some (.ref f3)))
    (l3 : K.lookup f3 = some ⟨oc3, od3, .func (PySem.W.fnOf "law" "law" (defArgs s_law) (defBody s_law) (defScope s_law) .none kV3 dc3 pm3 an3 cd3 ct3), sl3⟩)
    (c3 : PySem.W.codeIn K cd3 "law" = true)
    (k3 : PySem.W.keepIn K (.ref f3) = true)
    (z_ValueError : PySem.W.nsIn K mainGlobals "ValueError" = some none)
    (z_enumerate : PySem.W.nsIn K mainGlobals "enumerate" = some none)
    (z_int : PySem.W.nsIn K mainGlobals "int" = some none)
    (z_isinstance : PySem.W.nsIn K mainGlobals "isinstance" = some none)
    (z_len : PySem.W.nsIn K mainGlobals "len" = some none)
    (z_list : PySem.W.nsIn K mainGlobals "list" = some none)
    (z_range : PySem.W.nsIn K mainGlobals "range" = some none)
    (z_str : PySem.W.nsIn K mainGlobals "str" = some none)
    : ∃ fd : FuncData, (∀ (s : Shared) (v : Value), BindsTo s fd ⟨[v], []⟩ [("_law_script", v)]) ∧ ∀ base : Heap, K.In base → base.Ns mainGlobals mg → FnOk l.prog w K mg base CX0 6 fa fd ["_law_script"] (spLaw K) := by
  have e := hfa.symm.trans (PySem.W.mg_of X G a3)
  cases e
  have Y1 : clA K "BadRule" = y1 := by
    unfold clA
    rw [xg1]
  subst Y1
  have Y2 : clA K "BadName" = y2 := by
    unfold clA
    rw [xg2]
  subst Y2
  have Y3 : clA K "NoRow" = y3 := by
    unfold clA
    rw [xg3]
  subst Y3
  have Y4 : clA K "NoActs" = y4 := by
    unfold clA
    rw [xg4]
  subst Y4
  have Y5 : clA K "BadText" = y5 := by
    unfold clA
    rw [xg5]
  subst Y5
  have Y6 : clA K "BadForm" = y6 := by
    unfold clA
    rw [xg6]
  subst Y6
  have Y7 : clA K "BadTruth" = y7 := by
    unfold clA
    rw [xg7]
  subst Y7
  have Y8 : clA K "NoPlayer" = y8 := by
    unfold clA
    rw [xg8]
  subst Y8
  have Y9 : clA K "BoxError" = y9 := by
    unfold clA
    rw [xg9]
  subst Y9
  have XC1 : ExcC K (clA K "BadRule") := ⟨xh1_0, xh1_1, xh1_2, xh1_3, xh1_4, xh1_5, xh1_6, xh1_7⟩
  have XC2 : ExcC K (clA K "BadName") := ⟨xh2_0, xh2_1, xh2_2, xh2_3, xh2_4, xh2_5, xh2_6, xh2_7⟩
  have XO2 : OexC K (clA K "BadName") := ⟨⟨_, _, _, _, _, _, _, _, _, _, _, _, _, _, _, xa2, xb2⟩, xc2, xh2_2, xd2, xk2⟩
  have XC3 : ExcC K (clA K "NoRow") := ⟨xh3_0, xh3_1, xh3_2, xh3_3, xh3_4, xh3_5, xh3_6, xh3_7⟩
  have XO3 : OexC K (clA K "NoRow") := ⟨⟨_, _, _, _, _, _, _, _, _, _, _, _, _, _, _, xa3, xb3⟩, xc3, xh3_2, xd3, xk3⟩
  have XC4 : ExcC K (clA K "NoActs") := ⟨xh4_0, xh4_1, xh4_2, xh4_3, xh4_4, xh4_5, xh4_6, xh4_7⟩
  have XC5 : ExcC K (clA K "BadText") := ⟨xh5_0, xh5_1, xh5_2, xh5_3, xh5_4, xh5_5, xh5_6, xh5_7⟩
  have XC6 : ExcC K (clA K "BadForm") := ⟨xh6_0, xh6_1, xh6_2, xh6_3, xh6_4, xh6_5, xh6_6, xh6_7⟩
  have XO6 : OexC K (clA K "BadForm") := ⟨⟨_, _, _, _, _, _, _, _, _, _, _, _, _, _, _, xa6, xb6⟩, xc6, xh6_2, xd6, xk6⟩
  have XC7 : ExcC K (clA K "BadTruth") := ⟨xh7_0, xh7_1, xh7_2, xh7_3, xh7_4, xh7_5, xh7_6, xh7_7⟩
  have XO7 : OexC K (clA K "BadTruth") := ⟨⟨_, _, _, _, _, _, _, _, _, _, _, _, _, _, _, xa7, xb7⟩, xc7, xh7_2, xd7, xk7⟩
  have XC8 : ExcC K (clA K "NoPlayer") := ⟨xh8_0, xh8_1, xh8_2, xh8_3, xh8_4, xh8_5, xh8_6, xh8_7⟩
  have XO8 : OexC K (clA K "NoPlayer") := ⟨⟨_, _, _, _, _, _, _, _, _, _, _, _, _, _, _, xa8, xb8⟩, xc8, xh8_2, xd8, xk8⟩
  have XC9 : ExcC K (clA K "BoxError") := ⟨xh9_0, xh9_1, xh9_2, xh9_3, xh9_4, xh9_5, xh9_6, xh9_7⟩

  have F1 := fun_mk (st := s__law_kinds) l1 c1 k1
  have F2 := fun_mk (st := s__law_kept) l2 c2 k2
  have F3 := fun_mk (st := s_law) l3 c3 k3
  have T : Txt K w mg ⟨f1, _, f2, _, fa, _, yf2, PySem.W.fnX "__init__" "BadName.__init__" (defArgs (inClass (topS 6) 0)) (defBody (inClass (topS 6) 0)) (defScope (inClass (topS 6) 0)) [(("__class__" : Str), yc2)] .none ykV2 ydc2 ypm2 yan2 (.ref ycd2) yct2, yf3, PySem.W.fnX "__init__" "NoRow.__init__" (defArgs (inClass (topS 5) 0)) (defBody (inClass (topS 5) 0)) (defScope (inClass (topS 5) 0)) [(("__class__" : Str), yc3)] .none ykV3 ydc3 ypm3 yan3 (.ref ycd3) yct3, yf6, PySem.W.fnX "__init__" "BadForm.__init__" (defArgs (inClass (topS 2) 0)) (defBody (inClass (topS 2) 0)) (defScope (inClass (topS 2) 0)) [(("__class__" : Str), yc6)] .none ykV6 ydc6 ypm6 yan6 (.ref ycd6) yct6, yf7, PySem.W.fnX "__init__" "BadTruth.__init__" (defArgs (inClass (topS 9) 0)) (defBody (inClass (topS 9) 0)) (defScope (inClass (topS 9) 0)) [(("__class__" : Str), yc7)] .none ykV7 ydc7 ypm7 yan7 (.ref ycd7) yct7, yf8, PySem.W.fnX "__init__" "NoPlayer.__init__" (defArgs (inClass (topS 8) 0)) (defBody (inClass (topS 8) 0)) (defScope (inClass (topS 8) 0)) [(("__class__" : Str), yc8)] .none ykV8 ydc8 ypm8 yan8 (.ref ycd8) yct8⟩ := {
    m_BadRule := PySem.W.mg_of X G xg1,
    xq_BadRule := xq1,
    xk_BadRule := xk1,
    m_BadName := PySem.W.mg_of X G xg2,
    e_BadName := ⟨XO2, xe2, xf2⟩,
    xb_BadName := fun s us _ hl => (match us, hl with | [_, _], _ => .of_eq rfl),
    xkb_BadName := fun s u v _ => .of_eq rfl,
    xf_BadName := ⟨xh2_0, xh2_1, xh2_2, xh2_3⟩,
    xn_BadName := xw2,
    m_NoRow := PySem.W.mg_of X G xg3,
    e_NoRow := ⟨XO3, xe3, xf3⟩,
    xb_NoRow := fun s us _ hl => (match us, hl with | [_, _], _ => .of_eq rfl),
    xkb_NoRow := fun s u v _ => .of_eq rfl,
    xf_NoRow := ⟨xh3_0, xh3_1, xh3_2, xh3_3⟩,
    xn_NoRow := xw3,
    m_NoActs := PySem.W.mg_of X G xg4,
    xq_NoActs := xq4,
    xk_NoActs := xk4,
    m_BadText := PySem.W.mg_of X G xg5,
    xq_BadText := xq5,
    xk_BadText := xk5,
    m_BadForm := PySem.W.mg_of X G xg6,
    e_BadForm := ⟨XO6, xe6, xf6⟩,
    xb_BadForm := fun s us _ hl => (match us, hl with | [_, _], _ => .of_eq rfl),
    xkb_BadForm := fun s u v _ => .of_eq rfl,
    xf_BadForm := ⟨xh6_0, xh6_1, xh6_2, xh6_3⟩,
    xn_BadForm := xw6,
    m_BadTruth := PySem.W.mg_of X G xg7,
    e_BadTruth := ⟨XO7, xe7, xf7⟩,
    xb_BadTruth := fun s us _ hl => (match us, hl with | [_, _], _ => .of_eq rfl),
    xkb_BadTruth := fun s u v _ => .of_eq rfl,
    xf_BadTruth := ⟨xh7_0, xh7_1, xh7_2, xh7_3⟩,
    xn_BadTruth := xw7,
    m_NoPlayer := PySem.W.mg_of X G xg8,
    e_NoPlayer := ⟨XO8, xe8, xf8⟩,
    xb_NoPlayer := fun s us _ hl => (match us, hl with | [_, _], _ => .of_eq rfl),
    xkb_NoPlayer := fun s u v _ => .of_eq rfl,
    xf_NoPlayer := ⟨xh8_0, xh8_1, xh8_2, xh8_3⟩,
    xn_NoPlayer := xw8,
    m_BoxError := PySem.W.mg_of X G xg9,
    xq_BoxError := xq9,
    xk_BoxError := xk9,
    kt_BoxError := kitT_mk (List.forall_mem_cons.mpr ⟨XC1, (List.forall_mem_cons.mpr ⟨XC2, (List.forall_mem_cons.mpr ⟨XC3, (List.forall_mem_cons.mpr ⟨XC4, (List.forall_mem_cons.mpr ⟨XC5, (List.forall_mem_cons.mpr ⟨XC6, (List.forall_mem_cons.mpr ⟨XC7, (List.forall_mem_cons.mpr ⟨XC8, (List.forall_mem_cons.mpr ⟨XC9, (fun _ h => absurd h List.not_mem_nil)⟩)⟩)⟩)⟩)⟩)⟩)⟩)⟩)⟩) xkt_BoxError,
    kt_ValueError := kitT_mk (List.forall_mem_cons.mpr ⟨XC1, (List.forall_mem_cons.mpr ⟨XC2, (List.forall_mem_cons.mpr ⟨XC3, (List.forall_mem_cons.mpr ⟨XC4, (List.forall_mem_cons.mpr ⟨XC5, (List.forall_mem_cons.mpr ⟨XC6, (List.forall_mem_cons.mpr ⟨XC7, (List.forall_mem_cons.mpr ⟨XC8, (List.forall_mem_cons.mpr ⟨XC9, (fun _ h => absurd h List.not_mem_nil)⟩)⟩)⟩)⟩)⟩)⟩)⟩)⟩)⟩) xkt_ValueError,
    kt_NoRow := kitT_mk (List.forall_mem_cons.mpr ⟨XC1, (List.forall_mem_cons.mpr ⟨XC2, (List.forall_mem_cons.mpr ⟨XC3, (List.forall_mem_cons.mpr ⟨XC4, (List.forall_mem_cons.mpr ⟨XC5, (List.forall_mem_cons.mpr ⟨XC6, (List.forall_mem_cons.mpr ⟨XC7, (List.forall_mem_cons.mpr ⟨XC8, (List.forall_mem_cons.mpr ⟨XC9, (fun _ h => absurd h List.not_mem_nil)⟩)⟩)⟩)⟩)⟩)⟩)⟩)⟩)⟩) xkt_NoRow,
    kt_NoActs := kitT_mk (List.forall_mem_cons.mpr ⟨XC1, (List.forall_mem_cons.mpr ⟨XC2, (List.forall_mem_cons.mpr ⟨XC3, (List.forall_mem_cons.mpr ⟨XC4, (List.forall_mem_cons.mpr ⟨XC5, (List.forall_mem_cons.mpr ⟨XC6, (List.forall_mem_cons.mpr ⟨XC7, (List.forall_mem_cons.mpr ⟨XC8, (List.forall_mem_cons.mpr ⟨XC9, (fun _ h => absurd h List.not_mem_nil)⟩)⟩)⟩)⟩)⟩)⟩)⟩)⟩)⟩) xkt_NoActs,
    kt_BadText := kitT_mk (List.forall_mem_cons.mpr ⟨XC1, (List.forall_mem_cons.mpr ⟨XC2, (List.forall_mem_cons.mpr ⟨XC3, (List.forall_mem_cons.mpr ⟨XC4, (List.forall_mem_cons.mpr ⟨XC5, (List.forall_mem_cons.mpr ⟨XC6, (List.forall_mem_cons.mpr ⟨XC7, (List.forall_mem_cons.mpr ⟨XC8, (List.forall_mem_cons.mpr ⟨XC9, (fun _ h => absurd h List.not_mem_nil)⟩)⟩)⟩)⟩)⟩)⟩)⟩)⟩)⟩) xkt_BadText,
    kt_BadForm := kitT_mk (List.forall_mem_cons.mpr ⟨XC1, (List.forall_mem_cons.mpr ⟨XC2, (List.forall_mem_cons.mpr ⟨XC3, (List.forall_mem_cons.mpr ⟨XC4, (List.forall_mem_cons.mpr ⟨XC5, (List.forall_mem_cons.mpr ⟨XC6, (List.forall_mem_cons.mpr ⟨XC7, (List.forall_mem_cons.mpr ⟨XC8, (List.forall_mem_cons.mpr ⟨XC9, (fun _ h => absurd h List.not_mem_nil)⟩)⟩)⟩)⟩)⟩)⟩)⟩)⟩)⟩) xkt_BadForm,
    kt_NoPlayer := kitT_mk (List.forall_mem_cons.mpr ⟨XC1, (List.forall_mem_cons.mpr ⟨XC2, (List.forall_mem_cons.mpr ⟨XC3, (List.forall_mem_cons.mpr ⟨XC4, (List.forall_mem_cons.mpr ⟨XC5, (List.forall_mem_cons.mpr ⟨XC6, (List.forall_mem_cons.mpr ⟨XC7, (List.forall_mem_cons.mpr ⟨XC8, (List.forall_mem_cons.mpr ⟨XC9, (fun _ h => absurd h List.not_mem_nil)⟩)⟩)⟩)⟩)⟩)⟩)⟩)⟩)⟩) xkt_NoPlayer,
    kt_BadRule := kitT_mk (List.forall_mem_cons.mpr ⟨XC1, (List.forall_mem_cons.mpr ⟨XC2, (List.forall_mem_cons.mpr ⟨XC3, (List.forall_mem_cons.mpr ⟨XC4, (List.forall_mem_cons.mpr ⟨XC5, (List.forall_mem_cons.mpr ⟨XC6, (List.forall_mem_cons.mpr ⟨XC7, (List.forall_mem_cons.mpr ⟨XC8, (List.forall_mem_cons.mpr ⟨XC9, (fun _ h => absurd h List.not_mem_nil)⟩)⟩)⟩)⟩)⟩)⟩)⟩)⟩)⟩) xkt_BadRule,
    kt_BadName := kitT_mk (List.forall_mem_cons.mpr ⟨XC1, (List.forall_mem_cons.mpr ⟨XC2, (List.forall_mem_cons.mpr ⟨XC3, (List.forall_mem_cons.mpr ⟨XC4, (List.forall_mem_cons.mpr ⟨XC5, (List.forall_mem_cons.mpr ⟨XC6, (List.forall_mem_cons.mpr ⟨XC7, (List.forall_mem_cons.mpr ⟨XC8, (List.forall_mem_cons.mpr ⟨XC9, (fun _ h => absurd h List.not_mem_nil)⟩)⟩)⟩)⟩)⟩)⟩)⟩)⟩)⟩) xkt_BadName,
    kt_BadTruth := kitT_mk (List.forall_mem_cons.mpr ⟨XC1, (List.forall_mem_cons.mpr ⟨XC2, (List.forall_mem_cons.mpr ⟨XC3, (List.forall_mem_cons.mpr ⟨XC4, (List.forall_mem_cons.mpr ⟨XC5, (List.forall_mem_cons.mpr ⟨XC6, (List.forall_mem_cons.mpr ⟨XC7, (List.forall_mem_cons.mpr ⟨XC8, (List.forall_mem_cons.mpr ⟨XC9, (fun _ h => absurd h List.not_mem_nil)⟩)⟩)⟩)⟩)⟩)⟩)⟩)⟩)⟩) xkt_BadTruth,
    F__law_kinds := F1,
    b__law_kinds := F1.binds (ps := ["_law_e"]) (fun _ _ _ _ _ _ us hl => match us, hl with | [_], _ => rfl),
    g__law_kinds := PySem.W.mg_of X G a1,
    F__law_kept := F2,
    b__law_kept := F2.binds (ps := ["_law_thing"]) (fun _ _ _ _ _ _ us hl => match us, hl with | [_], _ => rfl),
    g__law_kept := PySem.W.mg_of X G a2,
    F_law := F3,
    b_law := F3.binds (ps := ["_law_script"]) (fun _ _ _ _ _ _ us hl => match us, hl with | [_], _ => rfl),
    g_law := PySem.W.mg_of X G a3,
    z_ValueError := PySem.W.mg_none_of X G z_ValueError,
    z_enumerate := PySem.W.mg_none_of X G z_enumerate,
    z_int := PySem.W.mg_none_of X G z_int,
    z_isinstance := PySem.W.mg_none_of X G z_isinstance,
    z_len := PySem.W.mg_none_of X G z_len,
    z_list := PySem.W.mg_none_of X G z_list,
    z_range := PySem.W.mg_none_of X G z_range,
    z_str := PySem.W.mg_none_of X G z_str }
  refine ⟨PySem.W.fnOf "law" "law" (defArgs s_law) (defBody s_law) (defScope s_law) .none kV3 dc3 pm3 an3 cd3 ct3, fun s v => .of_eq rfl, fun base _ _ => ?_⟩
  have SC2 : SupC l.prog K mg yf2 (clA K "BadName") yc2 ⟨"__init__", "BadName.__init__", defArgs (inClass (topS 6) 0), defBody (inClass (topS 6) 0), defScope (inClass (topS 6) 0), [(("__class__" : Str), yc2)], ycd2⟩ := ⟨XO2, rfl, ⟨_, _, _, xm2⟩, ⟨_, _, _, _, _, _, xo2, xp2, xr2⟩, xs2, xtop, xt2, PySem.W.mg_none_of X G xsup, xu2, xv2, xopq, ⟨_, rfl, rfl⟩, rfl, rfl⟩
  have G_x_BadName := fn_exI (CX := CX0) (w := w) (base := base) (par := "name") (fld := "name") SC2 xl2 (nscope_by (sc := defScope (inClass (topS 6) 0)) (by decide +kernel)) rfl (fun L => ⟨_, rfl⟩) (fun L => rfl) xw2 (by decide) (by decide)
  have SC3 : SupC l.prog K mg yf3 (clA K "NoRow") yc3 ⟨"__init__", "NoRow.__init__", defArgs (inClass (topS 5) 0), defBody (inClass (topS 5) 0), defScope (inClass (topS 5) 0), [(("__class__" : Str), yc3)], ycd3⟩ := ⟨XO3, rfl, ⟨_, _, _, xm3⟩, ⟨_, _, _, _, _, _, xo3, xp3, xr3⟩, xs3, xtop, xt3, PySem.W.mg_none_of X G xsup, xu3, xv3, xopq, ⟨_, rfl, rfl⟩, rfl, rfl⟩
  have G_x_NoRow := fn_exI (CX := CX0) (w := w) (base := base) (par := "name") (fld := "name") SC3 xl3 (nscope_by (sc := defScope (inClass (topS 5) 0)) (by decide +kernel)) rfl (fun L => ⟨_, rfl⟩) (fun L => rfl) xw3 (by decide) (by decide)
  have SC6 : SupC l.prog K mg yf6 (clA K "BadForm") yc6 ⟨"__init__", "BadForm.__init__", defArgs (inClass (topS 2) 0), defBody (inClass (topS 2) 0), defScope (inClass (topS 2) 0), [(("__class__" : Str), yc6)], ycd6⟩ := ⟨XO6, rfl, ⟨_, _, _, xm6⟩, ⟨_, _, _, _, _, _, xo6, xp6, xr6⟩, xs6, xtop, xt6, PySem.W.mg_none_of X G xsup, xu6, xv6, xopq, ⟨_, rfl, rfl⟩, rfl, rfl⟩
  have G_x_BadForm := fn_exI (CX := CX0) (w := w) (base := base) (par := "path") (fld := "path") SC6 xl6 (nscope_by (sc := defScope (inClass (topS 2) 0)) (by decide +kernel)) rfl (fun L => ⟨_, rfl⟩) (fun L => rfl) xw6 (by decide) (by decide)
  have SC7 : SupC l.prog K mg yf7 (clA K "BadTruth") yc7 ⟨"__init__", "BadTruth.__init__", defArgs (inClass (topS 9) 0), defBody (inClass (topS 9) 0), defScope (inClass (topS 9) 0), [(("__class__" : Str), yc7)], ycd7⟩ := ⟨XO7, rfl, ⟨_, _, _, xm7⟩, ⟨_, _, _, _, _, _, xo7, xp7, xr7⟩, xs7, xtop, xt7, PySem.W.mg_none_of X G xsup, xu7, xv7, xopq, ⟨_, rfl, rfl⟩, rfl, rfl⟩
  have G_x_BadTruth := fn_exI (CX := CX0) (w := w) (base := base) (par := "name") (fld := "name") SC7 xl7 (nscope_by (sc := defScope (inClass (topS 9) 0)) (by decide +kernel)) rfl (fun L => ⟨_, rfl⟩) (fun L => rfl) xw7 (by decide) (by decide)
  have SC8 : SupC l.prog K mg yf8 (clA K "NoPlayer") yc8 ⟨"__init__", "NoPlayer.__init__", defArgs (inClass (topS 8) 0), defBody (inClass (topS 8) 0), defScope (inClass (topS 8) 0), [(("__class__" : Str), yc8)], ycd8⟩ := ⟨XO8, rfl, ⟨_, _, _, xm8⟩, ⟨_, _, _, _, _, _, xo8, xp8, xr8⟩, xs8, xtop, xt8, PySem.W.mg_none_of X G xsup, xu8, xv8, xopq, ⟨_, rfl, rfl⟩, rfl, rfl⟩
  have G_x_NoPlayer := fn_exI (CX := CX0) (w := w) (base := base) (par := "name") (fld := "name") SC8 xl8 (nscope_by (sc := defScope (inClass (topS 8) 0)) (by decide +kernel)) rfl (fun L => ⟨_, rfl⟩) (fun L => rfl) xw8 (by decide) (by decide)
  have G__law_kinds := ok__law_kinds (P := l.prog) (w := w) (base := base) T G_x_NoRow G_x_BadForm G_x_NoPlayer G_x_BadName G_x_BadTruth
  have G__law_kept := ok__law_kept (P := l.prog) (w := w) (base := base) T G_x_NoRow G_x_BadForm G_x_NoPlayer G_x_BadName G_x_BadTruth
  have G_law := ok_law (P := l.prog) (w := w) (base := base) T G__law_kinds G__law_kept G_x_BadName G_x_NoRow G_x_BadForm G_x_BadTruth G_x_NoPlayer
  exact G_law.imp (law_of fun ns hl => law_true ns hl)
end K21
open PySem PySem.W PyProof.Rows
set_option maxHeartbeats 0 in
theorem PySem.Challenge.cw_boxfall_k21_errors_made_holds : PySem.Challenge.rw_boxfall_k21_errors_made.Holds := by
  w_on; o_law; k_head; (case hw => w_witness2)
  k_fill
  refine L2.walk_of (l := PySem.Challenge.rw_boxfall_k21_errors_made) (n := 63) (k := 6) (x := "_law_script") (CX := fun _ => L2.CX0) (sp := fun w => Hk.spLaw _) rfl (by decide) rfl ⟨rfl, by decide, by decide⟩ (fun w h Y => PySem.W.kIn_of Y) ?F (fun _ _ a ns hl _ hS => ⟨a, ns, rfl, hS, hl, fun _ => rfl⟩) (fun _ _ _ _ _ h => h)
  case F =>
    intro w mg fa h KX G hmg
    refine' K21.all_mk KX G hmg ?xg1 ?xh1_0 ?xh1_1 ?xh1_2 ?xh1_3 ?xh1_4 ?xh1_5 ?xh1_6 ?xh1_7 ?xk1 ?xq1 ?xg2 ?xh2_0 ?xh2_1 ?xh2_2 ?xh2_3 ?xh2_4 ?xh2_5 ?xh2_6 ?xh2_7 ?xk2 ?xa2 ?xb2 ?xc2 ?xd2 ?xe2 ?xf2 ?xl2 ?xm2 ?xo2 ?xp2 ?xr2 ?xs2 ?xt2 ?xu2 ?xv2 ?xw2 ?xg3 ?xh3_0 ?xh3_1 ?xh3_2 ?xh3_3 ?xh3_4 ?xh3_5 ?xh3_6 ?xh3_7 ?xk3 ?xa3 ?xb3 ?xc3 ?xd3 ?xe3 ?xf3 ?xl3 ?xm3 ?xo3 ?xp3 ?xr3 ?xs3 ?xt3 ?xu3 ?xv3 ?xw3 ?xg4 ?xh4_0 ?xh4_1 ?xh4_2 ?xh4_3 ?xh4_4 ?xh4_5 ?xh4_6 ?xh4_7 ?xk4 ?xq4 ?xg5 ?xh5_0 ?xh5_1 ?xh5_2 ?xh5_3 ?xh5_4 ?xh5_5 ?xh5_6 ?xh5_7 ?xk5 ?xq5 ?xg6 ?xh6_0 ?xh6_1 ?xh6_2 ?xh6_3 ?xh6_4 ?xh6_5 ?xh6_6 ?xh6_7 ?xk6 ?xa6 ?xb6 ?xc6 ?xd6 ?xe6 ?xf6 ?xl6 ?xm6 ?xo6 ?xp6 ?xr6 ?xs6 ?xt6 ?xu6 ?xv6 ?xw6 ?xg7 ?xh7_0 ?xh7_1 ?xh7_2 ?xh7_3 ?xh7_4 ?xh7_5 ?xh7_6 ?xh7_7 ?xk7 ?xa7 ?xb7 ?xc7 ?xd7 ?xe7 ?xf7 ?xl7 ?xm7 ?xo7 ?xp7 ?xr7 ?xs7 ?xt7 ?xu7 ?xv7 ?xw7 ?xg8 ?xh8_0 ?xh8_1 ?xh8_2 ?xh8_3 ?xh8_4 ?xh8_5 ?xh8_6 ?xh8_7 ?xk8 ?xa8 ?xb8 ?xc8 ?xd8 ?xe8 ?xf8 ?xl8 ?xm8 ?xo8 ?xp8 ?xr8 ?xs8 ?xt8 ?xu8 ?xv8 ?xw8 ?xg9 ?xh9_0 ?xh9_1 ?xh9_2 ?xh9_3 ?xh9_4 ?xh9_5 ?xh9_6 ?xh9_7 ?xk9 ?xq9 ?xtop ?xsup ?xopq ?xkt_BoxError ?xkt_ValueError ?xkt_NoRow ?xkt_NoActs ?xkt_BadText ?xkt_BadForm ?xkt_NoPlayer ?xkt_BadRule ?xkt_BadName ?xkt_BadTruth ?a1 ?l1 ?c1 ?k1 ?a2 ?l2 ?c2 ?k2 ?a3 ?l3 ?c3 ?k3 ?z_ValueError ?z_enumerate ?z_int ?z_isinstance ?z_len ?z_list ?z_range ?z_str
    (case xg1 => k_is)
    (case xh1_0 => k_is)
    (case xh1_1 => k_is)
    (case xh1_2 => k_is)
    (case xh1_3 => k_is)
    (case xh1_4 => k_is)
    (case xh1_5 => k_is)
    (case xh1_6 => k_is)
    (case xh1_7 => k_is)
    (case xk1 => k_is)
    (case xq1 => k_exc)
    (case xg2 => k_is)
    (case xh2_0 => k_is)
    (case xh2_1 => k_is)
    (case xh2_2 => k_is)
    (case xh2_3 => k_is)
    (case xh2_4 => k_is)
    (case xh2_5 => k_is)
    (case xh2_6 => k_is)
    (case xh2_7 => k_is)
    (case xk2 => k_is)
    (case xa2 => k_is)
    (case xb2 => rfl)
    (case xc2 => k_is)
    (case xd2 => k_is)
    (case xe2 => k_is)
    (case xf2 => k_is)
    (case xl2 => k_is)
    (case xm2 => k_is)
    (case xo2 => k_is)
    (case xp2 => rfl)
    (case xr2 => (first | rfl | decide +kernel))
    (case xs2 => k_is)
    (case xt2 => k_is)
    (case xu2 => ks_is)
    (case xv2 => k_is)
    (case xw2 => k_is)
    (case xg3 => k_is)
    (case xh3_0 => k_is)
    (case xh3_1 => k_is)
    (case xh3_2 => k_is)
    (case xh3_3 => k_is)
    (case xh3_4 => k_is)
    (case xh3_5 => k_is)
    (case xh3_6 => k_is)
    (case xh3_7 => k_is)
    (case xk3 => k_is)
    (case xa3 => k_is)
    (case xb3 => rfl)
    (case xc3 => k_is)
    (case xd3 => k_is)
    (case xe3 => k_is)
    (case xf3 => k_is)
    (case xl3 => k_is)
    (case xm3 => k_is)
    (case xo3 => k_is)
    (case xp3 => rfl)
    (case xr3 => (first | rfl | decide +kernel))
    (case xs3 => k_is)
    (case xt3 => k_is)
    (case xu3 => ks_is)
    (case xv3 => k_is)
    (case xw3 => k_is)
    (case xg4 => k_is)
    (case xh4_0 => k_is)
    (case xh4_1 => k_is)
    (case xh4_2 => k_is)
    (case xh4_3 => k_is)
    (case xh4_4 => k_is)
    (case xh4_5 => k_is)
    (case xh4_6 => k_is)
    (case xh4_7 => k_is)
    (case xk4 => k_is)
    (case xq4 => k_exc)
    (case xg5 => k_is)
    (case xh5_0 => k_is)
    (case xh5_1 => k_is)
    (case xh5_2 => k_is)
    (case xh5_3 => k_is)
    (case xh5_4 => k_is)
    (case xh5_5 => k_is)
    (case xh5_6 => k_is)
    (case xh5_7 => k_is)
    (case xk5 => k_is)
    (case xq5 => k_exc)
    (case xg6 => k_is)
    (case xh6_0 => k_is)
    (case xh6_1 => k_is)
    (case xh6_2 => k_is)
    (case xh6_3 => k_is)
    (case xh6_4 => k_is)
    (case xh6_5 => k_is)
    (case xh6_6 => k_is)
    (case xh6_7 => k_is)
    (case xk6 => k_is)
    (case xa6 => k_is)
    (case xb6 => rfl)
    (case xc6 => k_is)
    (case xd6 => k_is)
    (case xe6 => k_is)
    (case xf6 => k_is)
    (case xl6 => k_is)
    (case xm6 => k_is)
    (case xo6 => k_is)
    (case xp6 => rfl)
    (case xr6 => (first | rfl | decide +kernel))
    (case xs6 => k_is)
    (case xt6 => k_is)
    (case xu6 => ks_is)
    (case xv6 => k_is)
    (case xw6 => k_is)
    (case xg7 => k_is)
    (case xh7_0 => k_is)
    (case xh7_1 => k_is)
    (case xh7_2 => k_is)
    (case xh7_3 => k_is)
    (case xh7_4 => k_is)
    (case xh7_5 => k_is)
    (case xh7_6 => k_is)
    (case xh7_7 => k_is)
    (case xk7 => k_is)
    (case xa7 => k_is)
    (case xb7 => rfl)
    (case xc7 => k_is)
    (case xd7 => k_is)
    (case xe7 => k_is)
    (case xf7 => k_is)
    (case xl7 => k_is)
    (case xm7 => k_is)
    (case xo7 => k_is)
    (case xp7 => rfl)
    (case xr7 => (first | rfl | decide +kernel))
    (case xs7 => k_is)
    (case xt7 => k_is)
    (case xu7 => ks_is)
    (case xv7 => k_is)
    (case xw7 => k_is)
    (case xg8 => k_is)
    (case xh8_0 => k_is)
    (case xh8_1 => k_is)
    (case xh8_2 => k_is)
    (case xh8_3 => k_is)
    (case xh8_4 => k_is)
    (case xh8_5 => k_is)
    (case xh8_6 => k_is)
    (case xh8_7 => k_is)
    (case xk8 => k_is)
    (case xa8 => k_is)
    (case xb8 => rfl)
    (case xc8 => k_is)
    (case xd8 => k_is)
    (case xe8 => k_is)
    (case xf8 => k_is)
    (case xl8 => k_is)
    (case xm8 => k_is)
    (case xo8 => k_is)
    (case xp8 => rfl)
    (case xr8 => (first | rfl | decide +kernel))
    (case xs8 => k_is)
    (case xt8 => k_is)
    (case xu8 => ks_is)
    (case xv8 => k_is)
    (case xw8 => k_is)
    (case xg9 => k_is)
    (case xh9_0 => k_is)
    (case xh9_1 => k_is)
    (case xh9_2 => k_is)
    (case xh9_3 => k_is)
    (case xh9_4 => k_is)
    (case xh9_5 => k_is)
    (case xh9_6 => k_is)
    (case xh9_7 => k_is)
    (case xk9 => k_is)
    (case xq9 => k_exc)
    (case xtop => (first | rfl | decide +kernel))
    (case xsup => k_is)
    (case xopq => k_is)
    (case xkt_BoxError => (first | kernel_rfl | decide +kernel))
    (case xkt_ValueError => (first | kernel_rfl | decide +kernel))
    (case xkt_NoRow => (first | kernel_rfl | decide +kernel))
    (case xkt_NoActs => (first | kernel_rfl | decide +kernel))
    (case xkt_BadText => (first | kernel_rfl | decide +kernel))
    (case xkt_BadForm => (first | kernel_rfl | decide +kernel))
    (case xkt_NoPlayer => (first | kernel_rfl | decide +kernel))
    (case xkt_BadRule => (first | kernel_rfl | decide +kernel))
    (case xkt_BadName => (first | kernel_rfl | decide +kernel))
    (case xkt_BadTruth => (first | kernel_rfl | decide +kernel))
    (case a1 => k_is)
    (case l1 => k_is)
    (case c1 => k_is)
    (case k1 => k_is)
    (case a2 => k_is)
    (case l2 => k_is)
    (case c2 => k_is)
    (case k2 => k_is)
    (case a3 => k_is)
    (case l3 => k_is)
    (case c3 => k_is)
    (case k3 => k_is)
    (case z_ValueError => k_is)
    (case z_enumerate => k_is)
    (case z_int => k_is)
    (case z_isinstance => k_is)
    (case z_len => k_is)
    (case z_list => k_is)
    (case z_range => k_is)
    (case z_str => k_is)
