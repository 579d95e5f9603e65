import PyProof.Rows.All
import Wide.All
import OpenK.AllK
import Wide.FinOn
import KE.KExcSuper
import KE.KExcIs
import PyProof.ReprRoads
import HandS.ForMost
import HandS.ForExc
import HandS.ExcInit
import HandS.IsInst
import HandS.Defaults
import HandS.MakeKwOnly
import HandS.Codes
import HandS.FStrTup
import HandS.NoneIn
import PySem.Challenge.RW_rerunrein_k01_errors_made
set_option Elab.async false
set_option linter.all false
set_option maxRecDepth 100000
set_option maxHeartbeats 4000000
/-! Exceptions whose __init__ begins with super().__init__(), walked as defs -/
namespace Rx
open PySem PySem.Spec PyProof.Rows L2

section
variable {prog : Program} {w : World} {A : Around} {E : Value → Shared → Prop} {h : Heap} {g : Array GenState} {d : Drawn} {t : Nat} {os : OsState}
variable {nm q : Str} {C N : Addr} {bs bm : List Value} {hdct : Bool} {sn : List Str} {sub : List Value} {ab : Bool} {col : Option Bool} {dd : Option Addr} {k0 k1 k2 k3 k5 : Option Value}
/-- the built-in __init__, bound to an exception, called -/
theorem call_bwV {wr ex tt : Addr} {ar : List Value} {Q : Value → Shared → Prop}
    (hK : h.get? C = some (excClassObj nm q C N bs bm hdct sn sub ab col dd k0 k1 k2 k3 k5 "ValueError.__new__")) (hex : h.get? ex = some (HandSPX.excO C tt))
    (hw : h.get? wr = some (PySem.W.kxs_mw "ValueError.__init__" ex)) (hlen : ar.length ≤ sizeLine)
    (hz : ∀ h' t1, (∀ b o, b ≠ ex → h.get? b = some o → h'.get? b = some o) → h'.get? ex = some (HandSPX.excO C t1) → Q .none ⟨h', g, d, t, os⟩) :
    wpAny (model prog w) A (call (.ref wr) ar) Q E ⟨h, g, d, t, os⟩ := by
  refine wpAny_call (codeAny_of_tree ?_)
  show wpAny _ A.in1 (callAny (.ref wr) ⟨ar, []⟩) _ _ _
  simp only [callAny]
  refine wpAny_bind (wpAny_load hw ?_)
  simp only [PySem.W.kxs_mw, show (Value.type "method-wrapper" == Value.type "method" || Value.type "method-wrapper" == Value.type "builtin_function_or_method" || Value.type "method-wrapper" == Value.type "method-wrapper") = true by decide, if_true]
  refine W.KFB.if_so (by decide) ?_
  refine wpAny_bind (PySem.W.check_bound_init F.excBase_ValueError.toExcCallFacts hK hex rfl ?_)
  refine wpAny_bind (wpAny_pure (wpAny_pure ?_))
  refine ⟨Code.quiet_builtin _ (by decide +kernel), codeAny_builtin F.excBase_ValueError.initEntry ?_⟩
  rw [Around.under_plainId F.excBase_ValueError.init.plain _]
  wp_walk
  refine hz _ h.objs.size (fun b o hb ho => ?_) ?_
  · rw [Heap.get?_update_other _ _ (Ne.symm hb)]
    exact Heap.get?_push_of_some _ ho
  · rw [Heap.get?_update_self _ (Heap.get?_push_of_some _ hex) rfl]
    rfl
end

/-- the names of such a def: parameters local, one free name, __class__ -/
structure ScopeS (N ps : List Str) (sc : Scope) : Prop where
  kind : sc.kind = .function
  co : sc.isCoroutine = false
  gen : sc.isGenerator = false
  nd : N.Nodup
  pre : N.take ps.length = ps
  par : ∀ x ∈ ps, sc.names.lookup x = some .local
  nocell : ∀ y ∈ sc.names, y.2 ≠ .cell
  free1 : ∀ y ∈ sc.names, y.2 = .free → y.1 = "__class__"
  ks : sc.names.lookup ("super" : Str) = some .globalImplicit
  kc : sc.names.lookup ("__class__" : Str) = some .free

theorem lookup_mem {l : List (Str × Value)} : ∀ {y : Str} {u : Value}, (l.map (·.1)).Nodup → (y, u) ∈ l → l.lookup y = some u := by
  induction l with
  | nil => intro y u _ h; cases h
  | cons p l ih =>
    obtain ⟨a, b⟩ := p
    intro y u nd hm
    rw [List.map_cons, List.nodup_cons] at nd
    rcases List.mem_cons.mp hm with e | hm
    · cases e
      simp [List.lookup]
    · have hne : y ≠ a := fun e => nd.1 (List.mem_map.mpr ⟨(y, u), hm, e⟩)
      have hb : (y == a) = false := by simpa using hne
      simp [List.lookup, hb, ih nd.2 hm]
theorem lookup_rev {l : List (Str × Value)} {y : Str} {u : Value} (nd : (l.map (·.1)).Nodup) (hm : (y, u) ∈ l) : l.reverse.lookup y = some u :=
  lookup_mem (by rw [List.map_reverse]; exact (List.pairwise_reverse.mpr (List.Pairwise.imp (fun h => h.symm) nd))) (List.mem_reverse.mpr hm)
theorem zip_mem {ps : List Str} {us : List Value} {i : Nat} {y : Str} {u : Value} (h1 : ps[i]? = some y) (h2 : us[i]? = some u) : (y, u) ∈ ps.zip us := by
  have : (ps.zip us)[i]? = some (y, u) := by
    rw [List.getElem?_zip_eq_some]
    exact ⟨h1, h2⟩
  exact List.mem_of_getElem? this
theorem zip_nd : ∀ {ps : List Str} {us : List Value}, ps.Nodup → ((ps.zip us).map (·.1)).Nodup
  | [], _, _ => by simp
  | _ :: _, [], _ => by simp
  | a :: ps, b :: us, h => by
    rw [List.nodup_cons] at h
    rw [List.zip_cons_cons, List.map_cons, List.nodup_cons]
    refine ⟨fun q => h.1 ?_, zip_nd h.2⟩
    obtain ⟨⟨c, e⟩, hm, rfl⟩ := List.mem_map.mp q
    exact (List.of_mem_zip hm).1

/-- the context of such a body -/
def cxS (CX : CXT) (P : Program) (w : World) (K : PySem.W.Frag) (mg : Str → Option Value) (base : Heap) (N : List Str) (qual : Str) (scope : Scope) (f : Addr) (cd : Value) (cc : Addr) (A : Around) (outer : List Env) (s : Shared) (H : Hp) (E : XK) : Cx where
  prog := P
  w := w
  K := K
  mg := mg
  base := base
  A := A.deeper (PySem.W.ksEnv qual scope s.heap.objs.size f cd cc)
  N := N
  s_0 := s
  H_0 := H
  env := PySem.W.ksEnv qual scope s.heap.objs.size f cd cc
  outer := outer
  stack := PySem.W.ksEnv qual scope s.heap.objs.size f cd cc :: outer
  ex := []
  calm := true
  fn := fun _ => false
  pn := []
  xe := fun e s' => wpAny (model P w) (A.deeper (PySem.W.ksEnv qual scope s.heap.objs.size f cd cc)) (leaving (PySem.W.ksEnv qual scope s.heap.objs.size f cd cc) e) (fun _ s'' => CX outer H s E e s'') (fun e' s'' => CX outer H s E e' s'') s'

theorem inv_startS {CX : CXT} {P : Program} {w : World} {K : PySem.W.Frag} {mg : Str → Option Value} {base : Heap} {N ps : List Str} {qual : Str} {scope : Scope} {f : Addr} {cd : Value} {cc : Addr} {A : Around} {outer : List Env} {s : Shared} {H : Hp} {E : XK} {us : List Value} {vs : List V} {h1 : Heap} {tk : Nat} {D : Value} {cl : Value} {cld : Option Addr} {csl : Array (Option Value)}
    (S : ScopeS N ps scope) (hd : A.handled = none) (e0 : Env0 P w K mg base A outer s H) (hl : vs.length = ps.length) (r : Vals vs us) (hcell : K.lookup cc = some ⟨cl, cld, .cell (some D), csl⟩)
    (hns : h1.Ns s.heap.objs.size (fun nm => (ps.zip us).reverse.lookup nm)) (hk : ∀ b o, s.heap.get? b = some o → h1.get? b = some o) :
    Inv (cxS CX P w K mg base N qual scope f cd cc A outer s H E) [] (L2.start N vs) H { s with heap := h1, toks := tk } := by
  have hle : ps.length ≤ N.length := by have := congrArg List.length S.pre; rw [List.length_take] at this; omega
  have noX : ∀ b : Addr, b ∉ (cxS CX P w K mg base N qual scope f cd cc A outer s H E).ex := fun b z => absurd (show b ∈ ([] : List Addr) from z) (by simp)
  have hcb : base.get? cc = some ⟨cl, cld, .cell (some D), csl⟩ := e0.mod.kin _ _ hcell
  have one : ∀ {nm : Str} {c : Addr}, (cxS CX P w K mg base N qual scope f cd cc A outer s H E).env.cells.lookup nm = some c → nm = "__class__" ∧ c = cc := fun {nm c} q => by
    have q' : ([(("__class__" : Str), cc)] : List (Str × Addr)).lookup nm = some c := q
    rw [List.lookup] at q'
    split at q'
    · rename_i hnm
      cases q'
      exact ⟨by simpa using hnm, rfl⟩
    · cases q'
  refine ⟨⟨e0.mod, S.kind, rfl, rfl, Nat.le_refl _, fun nm z c h1 h2 => ?_, fun nm hnm => ?_, fun nm c z _ => absurd (show false = true from z) (by decide), fun _ => hd, Around.frames_deeper e0.frames, .inr ⟨rfl, rfl⟩, fun b z => absurd z (noX b), e0.bs, e0.bsz, fun b _ _ => noX b, fun b z => absurd z (noX b), e0.funs, e0.frf⟩,
    rfl, e0.bare, Un.kept hk, ⟨_, hns, fun i nm vv h1 h2 h3 => ?_⟩, fun nm c h => ?_, e0.hok.fresh (Nat.le_refl _), fun nm c h => ?_, fun p hpar => absurd (show p ∈ ([] : List (Addr × Obj)) from hpar) (by simp), e0.hok.kept hk, ?_⟩
  · rw [(one h1).1, (one h2).1]
  · have hnm : scope.names.lookup nm = some .cell ∨ scope.names.lookup nm = some .free := hnm
    rcases hnm with hnm | hnm
    · exact absurd rfl (S.nocell _ (PySem.mem_of_lookup hnm))
    · have e := S.free1 _ (PySem.mem_of_lookup hnm) rfl
      have e' : nm = "__class__" := e
      subst e'
      exact ⟨cc, rfl⟩
  · have hlt : i < vs.length := by
      unfold L2.start at h2
      by_cases hlt : i < vs.length
      · exact hlt
      · rw [List.getElem?_append_right (by simpa using hlt)] at h2
        rw [List.getElem?_replicate] at h2
        split at h2 <;> cases h2
    have hval : vs[i]? = some vv := by
      unfold L2.start at h2
      rw [List.getElem?_append_left (by simpa using hlt), List.getElem?_map] at h2
      cases e : vs[i]? with
      | none => rw [e] at h2; cases h2
      | some a => rw [e] at h2; cases h2; rfl
    obtain ⟨u, hus, rel⟩ := r.get hval
    have hpar : ps[i]? = some nm := by
      rw [← S.pre, List.getElem?_take_of_lt (by omega)]; exact h1
    have ndq : ps.Nodup := by rw [← S.pre]; exact S.nd.sublist (List.take_sublist _ _)
    exact ⟨u, rel, .inl ⟨S.par nm (List.mem_of_getElem? hpar), lookup_rev (zip_nd ndq) (zip_mem hpar hus)⟩⟩
  · obtain ⟨_, e⟩ := one h
    subst e
    exact ⟨_, _, hk _ _ (e0.bs _ _ hcb).1, rfl⟩
  · obtain ⟨_, e⟩ := one h
    subst e
    exact (e0.bs _ _ hcb).2
  · unfold L2.start
    show _ = N.length
    rw [List.length_append, List.length_map, List.length_replicate]
    omega

/-- what the written part says of the class and of its __init__ -/
structure SupC (P : Program) (K : PySem.W.Frag) (C cda cc : Addr) : Prop where
  oex : OexC K C
  code : ∃ (ccl : Value) (cdd : Option Addr) (vs : Array Value) (ccs : Array (Option Value)) (file : Str) (tf : Tok), K.lookup cda = some ⟨ccl, cdd, .fields vs, ccs⟩ ∧ vs[2]? = some (.str file tf) ∧ ((P.main.file : Str) == file) = true
  cell : ∃ (cl : Value) (cld : Option Addr) (csl : Array (Option Value)), K.lookup cc = some ⟨cl, cld, .cell (some (.ref C)), csl⟩
  sub : PySem.W.mroIn K C (.ref C) = some true
  sup : PySem.W.nsIn K mainGlobals "super" = some none
  opq : PySem.W.nsIn K cStatics "thirdparty.any" = some none
  ini : PySem.W.ks_superIn K C C "__init__" = some (some (.builtin "ValueError.__init__"))
  subB : PySem.W.subIn K (.ref C) (.type "ValueError") = some true
  htop : (P.main.scope.names.lookup ("super" : Str)).isSome = false

theorem fn_super {CX : CXT} {P : Program} {w : World} {K : PySem.W.Frag} {mg : Str → Option Value} {base : Heap} {k : Nat} {f C cda cc : Addr} {name qual : Str} {params : Arguments} {rest : List Stmt} {scope : Scope} {kV doc pm ct oc : Value} {an od : Option Addr}
    {osl : Array (Option Value)} {N ps : List Str} {sp : Sp} {p0 p1 p2 p3 p4 : Pos} {ar : Arg}
    (lk : K.lookup f = some ⟨oc, od, .func (PySem.W.ksFn name qual params (.Expr (.Call (.Attribute (.Call (.Name "super" p0) [] [] p1) "__init__" p2) [] [] p3) p4 :: rest) scope .none kV doc pm an (.ref cda) ct cc), osl⟩)
    (hcd : PySem.W.codeIn K (.ref cda) qual = true) (S : ScopeS N ps scope) (T : SupC P K C cda cc)
    (hp : (params.posonlyargs ++ params.args).head? = some ar) (hps : ps[0]? = some ar.arg)
    (len : ∀ vs H Q E, sp vs H Q E → vs.length = ps.length)
    (slf : ∀ vs H Q E, sp vs H Q E → ∃ a ws, vs = .ref a :: ws ∧ H a = some (exo a C none))
    (hbody : ∀ (A : Around) (outer : List Env) (s : Shared) (H : Hp) (vs : List V) (Q : VK) (E : XK), Room k (A.deeper (PySem.W.ksEnv qual scope s.heap.objs.size f (.ref cda) cc)) → sp vs H Q E →
      ∃ t, PSs (cxS CX P w K mg base N qual scope f (.ref cda) cc A outer s H E) rest t ∧ t { nx := fun _ H' => Q .non H', rt := Q } (L2.start N vs) H)
    (hi : ∀ L, interactive (PySem.W.ksEnv qual scope L f (.ref cda) cc) = false := by intro _; rfl)
    (hsw : ∀ L, swapsWith (.Call (.Attribute (.Call (.Name "super" p0) [] [] p1) "__init__" p2) [] [] p3) none p4.line (PySem.W.ksEnv qual scope L f (.ref cda) cc) = pure false := by intro _; rfl)
    (he : ∀ L, ∃ pl : Sem Bool, eval (.Call (.Attribute (.Call (.Name "super" p0) [] [] p1) "__init__" p2) [] [] p3) (PySem.W.ksEnv qual scope L f (.ref cda) cc) = (do
      let ov ← attributeBase (.Call (.Name "super" p0) [] [] p1) "__init__" (PySem.W.ksEnv qual scope L f (.ref cda) cc) (eval (.Call (.Name "super" p0) [] [] p1) (PySem.W.ksEnv qual scope L f (.ref cda) cc))
      standAt p2.atName
      let (fx, first) ← holding [ov] (getMethod ov "__init__" pl)
      callWith p3 fx first (backTo p3 (starEach [] (PySem.W.ksEnv qual scope L f (.ref cda) cc))) []) := by intro _; exact ⟨_, rfl⟩) :
    FnOk P w K mg base CX (k + 1) f (PySem.W.ksFn name qual params (.Expr (.Call (.Attribute (.Call (.Name "super" p0) [] [] p1) "__init__" p2) [] [] p3) p4 :: rest) scope .none kV doc pm an (.ref cda) ct cc) ps sp := by
  refine ⟨len, fun A outer s H args us vs Q E hr e0 hb r hsp => ?_⟩
  have hln := len _ _ _ _ hsp
  have KI : K.In s.heap := e0.mod.kin.keeps fun b o e => (e0.bs b o e).1
  have nolim : s.heap.NoLimit := e0.mod.nolimit.keeps fun b o e => (e0.bs b o e).1
  have hloc : ∀ y ∈ ps.zip us, scope.names.lookup y.1 = some .local := fun ⟨n, v⟩ hy => S.par n (List.of_mem_zip hy).1
  obtain ⟨cl, cld, csl, hcell⟩ := T.cell
  obtain ⟨ccl, cdd, cvs, ccs, file, tf, hcode, hvs, hfile⟩ := T.code
  obtain ⟨a, ws, rfl, ha⟩ := slf _ _ _ _ hsp
  obtain ⟨t, ht, hq⟩ := hbody A outer s H _ Q E (hr.deeper _) hsp
  refine ks_codeAny_call_defAt (fd := PySem.W.ksFn name qual params (.Expr (.Call (.Attribute (.Call (.Name "super" p0) [] [] p1) "__init__" p2) [] [] p3) p4 :: rest) scope .none kV doc pm an (.ref cda) ct cc) (binds := ps.zip us) hr.depth (KI _ _ lk) rfl nolim (PySem.W.codeRec_of KI hcd) rfl hb S.nocell hloc (fun h1 hns hk => ?_) S.co S.gen S.kind
  have I : Inv (cxS CX P w K mg base N qual scope f (.ref cda) cc A outer s H E) [] (L2.start N (.ref a :: ws)) H { s with heap := h1, toks := s.toks + (ps.zip us).length } := inv_startS (us := us) S hr.hd e0 hln r hcell hns hk
  have X1 : K.In h1 := I.kIn
  obtain ⟨nm, q, NN, bs, bm, sn, sub, ab, col, dd, k0, k1, k2, k3, k5, hC, hbm⟩ := T.oex.cls
  obtain ⟨t1, ho⟩ := exo_at I.hok ha
  obtain ⟨u0, hu0, ru0⟩ := r.get (i := 0) (x := .ref a) rfl
  cases (show u0 = Value.ref a from ru0)
  have hself : (ps.zip us).reverse.lookup ar.arg = some (Value.ref a) := lookup_rev (zip_nd (by rw [← S.pre]; exact S.nd.sublist (List.take_sublist _ _))) (zip_mem hps hu0)
  have hka : scope.names.lookup ar.arg = some .local := S.par _ (List.mem_of_getElem? hps)
  have hcl : PySem.W.clsIn K C = some { name := nm, bases := bs, mro := .ref C :: bm, ns := NN, qualname := q, hasDict := true, slotNames := sn, subclasses := sub, abstract := ab, collection := col, hasDel := false } := by unfold PySem.W.clsIn; rw [hC] <;> rfl
  have hmg : mg "super" = none := PySem.W.mg_none_of e0.mod.kin e0.mod.glob T.sup
  obtain ⟨mb, hbl, hbb⟩ := e0.mod.blt
  show PySem.wpAt (model P w) (A.deeper (PySem.W.ksEnv qual scope s.heap.objs.size f (.ref cda) cc)) (.func _ (PySem.W.ksEnv qual scope s.heap.objs.size f (.ref cda) cc)) (execs _ (PySem.W.ksEnv qual scope s.heap.objs.size f (.ref cda) cc)) _ _ _
  obtain ⟨pl, he⟩ := he s.heap.objs.size
  refine ks_wpAt_execs_cons (ks_wpAt_Expr_any (ks_wpAt_MethodCall (pl := pl) ?_ he) (hi _) (hsw _))
  refine ks_wpAt_super_base (env := PySem.W.ksEnv qual scope s.heap.objs.size f (.ref cda) cc) S.ks S.kc (by decide) rfl (X1 _ _ lk) rfl hp rfl (X1 _ _ hcode) rfl hvs hfile T.htop ?_
  refine PySem.W.ks_loadName_global S.kind S.ks (PySem.Calls.loadGlobal_builtin (env := PySem.W.ksEnv qual scope s.heap.objs.size f (.ref cda) cc) (e0.mod.glob.keeps I.bk) hmg (hbl.keeps I.bk) ((hbb _ (by decide +kernel)).trans (by first | boot_by_name | rfl | kernel_rfl)) ⟨rfl, ?_⟩)
  refine wpAny_loadName_free S.kind S.kc rfl ⟨_, X1 _ _ hcell, rfl⟩ ?_
  refine wpAny_loadName_local S.kind hka hns hself ?_
  refine ks_wpAny_isType_cls (X1 _ _ hC) rfl ⟨rfl, ?_⟩
  refine ks_wpAny_call_super (X1 _ _ hC) rfl ho rfl (fun c => nofun) (PySem.W.looks_mroIn X1 T.sub) (fun h2 e2 kk2 => ?_)
  have I2 : Inv (cxS CX P w K mg base N qual scope f (.ref cda) cc A outer s H E) [] (L2.start N (.ref a :: ws)) H { s with heap := h2, toks := s.toks + (ps.zip us).length } := I.kept kk2
  have hsup := T.ini
  unfold PySem.W.ks_superIn at hsup
  rw [hcl] at hsup
  have ne : a ≠ C := fun z => by
    rw [z, X1 _ _ hC] at ho
    cases ho
  have JI : PySem.W.InstAt h2 a { cls := .ref C, data := .fields #[.ref t1, .none, .none, .none, .bool false, .none] } C none := ⟨kk2 _ _ ho, rfl, rfl, trivial⟩
  have hI : PySem.W.Looks (model P w) h2 (isInstance (.ref a) (.type "ValueError")) true := JI.type.andThen (PySem.W.looks_subIn I2.kIn T.subB)
  refine PySem.W.kxs_getMethod PySem.W.kxs_ValueError e2 (PySem.W.looks_opaque I2.kIn T.opq) (l₀ := .ref C :: bm) (fun A Q E s k q => wpAny_bind ((PySem.W.looks_clsIn I2.kIn hcl) A _ E s k (wpAny_pure q))) rfl I2.kIn hsup hI ne (by decide) ?_
  have kk3 : ∀ b o, h2.get? b = some o → (h2.push (PySem.W.kxs_mw "ValueError.__init__" a)).get? b = some o := fun b o e => Heap.get?_push_of_some _ e
  have I3 : Inv (cxS CX P w K mg base N qual scope f (.ref cda) cc A outer s H E) [] (L2.start N (.ref a :: ws)) H { s with heap := h2.push (PySem.W.kxs_mw "ValueError.__init__" a), toks := s.toks + (ps.zip us).length + 1 } := I2.kept (t' := s.toks + (ps.zip us).length + 1) kk3
  have hmw : (h2.push (PySem.W.kxs_mw "ValueError.__init__" a)).get? h2.objs.size = some (PySem.W.kxs_mw "ValueError.__init__" a) := Heap.get?_push_size _ rfl
  refine PySem.W.kxs_callWith (i := "ValueError.__init__") (x := a) rfl (evalArgs_empty ⟨hmw, ?_⟩)
  refine call_bwV (I3.kIn _ _ hC) (kk3 _ _ (kk2 _ _ ho)) hmw (Nat.zero_le _) fun h4 t4 k4 e4 => ?_
  have J := I3.write (t' := s.toks + (ps.zip us).length + 1) (x := a) (e := a) (o := exo a C none) (by rw [ha]; exact True.intro) (.inl rfl) k4 ⟨_, e4⟩ (exo_ok e4)
  have back : upd H a (exo a C none) = H := by
    funext b
    by_cases hb : b = a
    · rw [hb, upd_same, ha]
    · rw [upd_ne hb]
  rw [back] at J
  refine wpAt_of_wpAny (wpAny_mono (ht.run [] _ (L2.start N (.ref a :: ws)) H _ J hq) (fun fl s' hs => ?_) fun e s' hs => hs)
  have done : ∀ {σ' : L2.St} {H' : Hp} {v : V} {u : Value}, Inv (cxS CX P w K mg base N qual scope f (.ref cda) cc A outer s H E) [] σ' H' s' → RelV v u → Q v H' → CE outer P w H s Q u s' :=
    fun {σ' H' v u} J rel q => ⟨v, H', J.os, J.bare, J.base, J.hok, rel, q⟩
  cases fl with
  | ret u =>
    obtain ⟨v, σ', H', J, rel, q⟩ := hs
    exact done J rel q
  | next =>
    obtain ⟨σ', H', J, q⟩ := hs
    exact done (v := V.non) (u := Value.none) J rfl q
  | brk =>
    obtain ⟨_, _, _, q⟩ := hs
    exact False.elim q
  | cont =>
    obtain ⟨_, _, _, q⟩ := hs
    exact False.elim q
end Rx

set_option Elab.async false
set_option linter.all false
set_option maxRecDepth 100000
set_option maxHeartbeats 4000000
namespace Rx
open PySem PySem.Spec PyProof.Rows L2
/-! ### C(..) of an exception class, with keywords -/
section
open Builtin Builtin.ObjectAttr HandSPX
variable {prog : Program} {w : World} {M : Model} {A : Around} {E : Value → Shared → Prop} {R : Result → Shared → Prop} {h : Heap} {g : Array GenState} {d : Drawn} {t : Nat} {os : OsState}
variable {nn q : Str} {C N : Addr} {bs bms bX : List Value} {hdc : Bool} {ss : List Str} {sb : List Value} {abs : Bool} {cl : Option Bool} {dv : Option Addr} {q0 q1 q2 q3 q5 : Option Value} {B nI iI : String} {kw : List (Str × Value)}
theorem check_new_ownK (FB : ExcBaseFacts B nI iI bX) (hIn : ∀ X : String, bms.contains (.type X) = bX.contains (.type X)) {ar : List Value} {Q : Unit → Shared → Prop}
    (hK : h.get? C = some (excClassObj nn q C N bs bms hdc ss sb abs cl dv q0 q1 q2 q3 q5 nI)) (hz : Q () ⟨h, g, d, t, os⟩) : wpAny M A (checkBuiltinCall nI ⟨.ref C :: ar, kw⟩) Q E ⟨h, g, d, t, os⟩ := by
  have hhas : (Value.ref C :: bms).contains (.type B) = true := by rw [List.contains_cons, hIn, FB.hasB, Bool.or_true]
  have hst := FB.noStar
  simp only [checkBuiltinCall, FB.newKind, FB.newSplit, FB.newRow]
  repeat (first | refine wpAny_loadPart_at hK ?_ | (refine wpAny_isSubtype_exc hK ?_; rw [hhas]) | refine wpAny_staticBase_exc hK ?_ | refine wpAny_madeBy_exc hK ?_ | simp only [bne_self_eq_false, Bool.false_eq_true, if_false] | wp_step)
  exact hz
theorem new_ownK (FB : ExcBaseFacts B nI iI bX) (hIn : ∀ X : String, bms.contains (.type X) = bX.contains (.type X)) {ar : List Value}
    (hK : h.get? C = some (excClassObj nn q C N bs bms hdc ss sb abs cl dv q0 q1 q2 q3 q5 nI))
    (hz : R (.ok (.ret (.ref (h.objs.size + 1)))) ⟨(h.push { cls := .type "tuple", data := .seq ar.toArray }).push
      { cls := .ref C, data := .fields #[.ref h.objs.size, .none, .none, .none, .bool false, .none] }, g, d, t, os⟩) (hlen : ar.length ≤ sizeLine) :
    codeAny (model prog w) A (.builtin nI ⟨.ref C :: ar, kw⟩) R ⟨h, g, d, t, os⟩ := by
  have hen := FB.ends
  have hB1 : (Value.ref C :: bms).contains (.type B) = true := by rw [List.contains_cons, hIn, FB.hasB, Bool.or_true]
  have hA1 : (Value.ref C :: bms).contains (.type "AttributeError") = false := by rw [List.contains_cons, hIn, FB.noAttr]; rfl
  have hN1 : (Value.ref C :: bms).contains (.type "NameError") = false := by rw [List.contains_cons, hIn, FB.noName]; rfl
  refine codeAny_builtinAt FB.entry ?_
  unfold Builtin.«BaseException.__new__»
  refine PySem.wpAt_bind ?_
  show PySem.wpAt _ _ _ (stack >>= _) _ _ _
  refine PySem.wpAt_bind (PySem.wpAt_stack fun p below => PySem.wpAt_of_wpAny ?_)
  wp_walk
  refine PySem.wpAt_of_wpAny ?_
  rw [FB.owner]
  repeat (first | with_reducible refine wpAny_madeHere_exc FB.canon hK ?_ | with_reducible refine wpAny_loadPart_at hK ?_ | (with_reducible refine wpAny_isSubtype_exc hK ?_; first | rw [hB1] | rw [hA1] | rw [hN1]) | wp_step)
  show R _ _
  rw [Heap.size_push]
  exact hz
theorem type_call_ownK (FB : ExcBaseFacts B nI iI bX) (hIn : ∀ X : String, bms.contains (.type X) = bX.contains (.type X)) {ar : List Value} {fN : Addr} {Q : Fin → Shared → Prop}
    (hK : h.get? C = some (excClassObj nn q C N bs bms hdc ss sb abs cl dv q0 q1 q2 q3 q5 nI))
    (hlook : W.Looks (model prog w) h (typeLookup (.ref C) "__init__") (some (.ref fN))) (hbnd : ∀ self, W.Looks (model prog w) h (bindSpecial (.ref fN) self) (.ref fN, [self])) (hlen : ar.length ≤ sizeLine)
    (hz : codeAny (model prog w) A (.call (.ref fN) ⟨.ref (h.objs.size + 1) :: ar, kw⟩)
      (fun r s' => match r with | .ok (.ret v) => v = .none ∧ Q (.done (.ret (.ref (h.objs.size + 1)))) s' | .ok _ => False | .error e => E e s')
      ⟨(h.push (W.kdv_tup ar)).push (excO C h.objs.size), g, d, t, os⟩) :
    wpAny (model prog w) A (Builtin.«type.__call__» ⟨.ref C :: ar, kw⟩) Q E ⟨h, g, d, t, os⟩ := by
  repeat (first | with_reducible refine wpAny_loadPart_at hK ?_ | with_reducible refine wpAny_madeBy_exc hK ?_ | wp_step)
  refine codeAny_call_builtin_code (Code.quiet_builtin _ FB.quiet) (check_new_ownK FB hIn hK ?_)
  refine new_ownK FB hIn hK ?_ hlen
  show wpAny _ _ _ _ _ _
  have k : ∀ b o, h.get? b = some o → ((h.push (W.kdv_tup ar)).push (excO C h.objs.size)).get? b = some o := fun b o e => Heap.get?_push_of_some _ (Heap.get?_push_of_some _ e)
  have hK1 := k _ _ hK
  have hgot : ((h.push (W.kdv_tup ar)).push (excO C h.objs.size)).get? (h.objs.size + 1) = some (excO C h.objs.size) := by heap_get
  have hC1 : (Value.ref C :: bms).contains (.ref C) = true := by simp
  have li := hlook.keeps k
  have lb := (hbnd (.ref (h.objs.size + 1))).keeps k
  unfold isInstance
  repeat (first | with_reducible refine wpAny_loadPart_at hgot ?_ | (with_reducible refine wpAny_isSubtype_exc hK1 ?_; rw [hC1]) | wp_step)
  show wpAny _ _ (typeLookup (.ref C) _) _ _ _
  refine li.at ?_
  refine wpAny_holding (wpAny_bind (lb.at ?_))
  refine wpAny_bind (wpAny_call (codeAny_mono hz fun r s' z => ?_))
  rcases r with e | (v | _ | _ | _) <;> first | exact z | exact z.elim | skip
  obtain ⟨rfl, z⟩ := z
  first
    | exact wpAny_pure (wpAny_pure z)
    | (wp_walk; exact z)
theorem check_type_callK {ar : List Value} {Q : Unit → Shared → Prop} (hK : h.get? C = some (excClassObj nn q C N bs bms hdc ss sb abs cl dv q0 q1 q2 q3 q5 nI))
    (hz : Q () ⟨h, g, d, t, os⟩) : wpAny M A (checkBuiltinCall "type.__call__" ⟨.ref C :: ar, kw⟩) Q E ⟨h, g, d, t, os⟩ := by
  have t3 := tc_sub
  have hIn : (⟨h, g, d, t, os⟩ : Shared).TypeIs (.ref C) "type" := ⟨_, hK, rfl⟩
  simp only [checkBuiltinCall, tc_kind, tc_split]
  repeat (any_goals (first | assumption | with_reducible refine wpAny_loadPart_at hK ?_ | with_reducible refine wpAny_onRaise ?_ | with_reducible refine wpAny_map ?_ | wp_step))
theorem call_ownK (FB : ExcBaseFacts B nI iI bX) (hIn : ∀ X : String, bms.contains (.type X) = bX.contains (.type X)) {ar : List Value} {fN : Addr}
    (hK : h.get? C = some (excClassObj nn q C N bs bms hdc ss sb abs cl dv q0 q1 q2 q3 q5 nI))
    (hlook : W.Looks (model prog w) h (typeLookup (.ref C) "__init__") (some (.ref fN))) (hbnd : ∀ self, W.Looks (model prog w) h (bindSpecial (.ref fN) self) (.ref fN, [self])) (hlen : ar.length ≤ sizeLine)
    (hz : codeAny (model prog w) (A.under (.builtin "type.__call__" ⟨.ref C :: ar, kw⟩)) (.call (.ref fN) ⟨.ref (h.objs.size + 1) :: ar, kw⟩) (W.InitBack (h.objs.size + 1) R)
      ⟨(h.push (W.kdv_tup ar)).push (excO C h.objs.size), g, d, t, os⟩) :
    codeAny (model prog w) A (.call (.ref C) ⟨ar, kw⟩) R ⟨h, g, d, t, os⟩ := by
  have t1 := tc_lookup
  have t2 := tc_bind (.ref C)
  have hty : (⟨h, g, d, t, os⟩ : Shared).TypeIs (.ref C) "type" := ⟨_, hK, rfl⟩
  refine codeAny_of_tree ?_
  show wpAny _ _ (callAny (.ref C) _) _ _ _
  repeat (any_goals (first | assumption | with_reducible refine wpAny_loadPart_at hK ?_ | wp_step))
  refine ⟨rfl, ?_⟩
  refine codeAny_call_builtin_at (Code.quiet_builtin _ (by decide +kernel)) entry_typeCall (check_type_callK hK (type_call_ownK FB hIn hK hlook hbnd hlen ?_))
  refine codeAny_mono hz fun r s' z => ?_
  rcases r with e | (v | _ | _ | _) <;> exact z
end

/-! ### an exception made as a value -/
/-- C(e, .., k = v, ..) -/
def tExv (C : Addr) (n m : Nat) (sp : Sp) (gV : List V → List V → List V) (t tk : TA) : TE := fun σ H Q => t σ H fun vs H1 => tk σ H1 fun zs H2 => vs.length = n ∧ zs.length = m ∧ ∀ a, H2 a = none →
  sp (gV (.ref a :: vs) zs) (upd H2 a (exo a C none)) (fun v H3 => v = .non ∧ Q (.ref a) H3) (fun _ _ _ => False)
section
variable {X : Cx} {CX : CXT} {k n : Nat} {f C : Addr} {fd : FuncData} {ps ks : List Str} {sp : Sp} {x : Str} {p pos : Pos} {e : Expr} {es : List Expr} {kws : List Keyword} {t tk : TA} {g : List Value → List Value → List Value} {gV : List V → List V → List V}
theorem run_exv {pins : List (Addr × Obj)} {σ : L2.St} {H : Hp} {s : Shared} {Q : VK} {us ws : List Value} {vs zs : List V} (T : OexC X.K C) (iC : PySem.W.findIn X.K (.ref C) "__init__" = some (some (.ref f))) (tI : PySem.W.typeIn X.K (.ref f) = some (.type "function"))
    (F1 : FnOk X.prog X.w X.K X.mg X.base CX k f fd ps sp) (hr : Room (k + 1) X.A) (hb : KBn X.K fd ps (n + 1) ks g gV) (hx : Passes CX X (fun _ _ _ => False))
    (I1 : Inv X pins σ H s) (r : Vals vs us) (rz : Vals zs ws) (l1 : vs.length = n) (l2 : zs.length = ks.length) (hn1 : n ≤ 1000)
    (h : ∀ a, H a = none → sp (gV (.ref a :: vs) zs) (upd H a (exo a C none)) (fun v H2 => v = .non ∧ Q (.ref a) H2) (fun _ _ _ => False)) :
    wpAny (model X.prog X.w) X.A (call (.ref C) us (ks.zip ws)) (EP X pins σ Q) X.xe s := by
  obtain ⟨nn, q, N, bs, bm, sn, sub, ab, col, dd, k0, k1, k2, k3, k5, hK, hms⟩ := T.cls
  obtain ⟨hp, gg, dr, tok, os⟩ := s
  have hup : hp.objs.size ≤ hp.objs.size + 1 := Nat.le_succ _
  have hn : H (hp.objs.size + 1) = none := I1.hok.fresh hup
  have hq := h (hp.objs.size + 1) hn
  have kept : ∀ b o, hp.get? b = some o → ((hp.push (PySem.W.kdv_tup us)).push (PySem.HandSPX.excO C hp.objs.size)).get? b = some o := fun b o e => Heap.get?_push_of_some _ (Heap.get?_push_of_some _ e)
  have hgot : ((hp.push (PySem.W.kdv_tup us)).push (PySem.HandSPX.excO C hp.objs.size)).get? (hp.objs.size + 1) = some (PySem.HandSPX.excO C hp.objs.size) := by heap_get
  have I2 : Inv X pins σ (upd H (hp.objs.size + 1) (exo (hp.objs.size + 1) C none)) ⟨(hp.push (PySem.W.kdv_tup us)).push (PySem.HandSPX.excO C hp.objs.size), gg, dr, tok, os⟩ :=
    I1.laid (t' := tok) (a := hp.objs.size + 1) (o := exo (hp.objs.size + 1) C none) (h' := (hp.push (PySem.W.kdv_tup us)).push (PySem.HandSPX.excO C hp.objs.size)) kept hup (exo_ok hgot)
  have r1 : Vals (V.ref (hp.objs.size + 1) :: vs) (Value.ref (hp.objs.size + 1) :: us) := .cons rfl r
  have r2 := hb.rel r1 rz
  have ln1 : (Value.ref (hp.objs.size + 1) :: us).length = n + 1 := by
    rw [List.length_cons, ← r.length, l1]
  have hlus : us.length ≤ sizeLine := by
    rw [← r.length, l1, sizeLine_eq]
    omega
  refine wpAny_call (call_ownK F.excBase_ValueError (fun Y => PySem.HandSPX.refsVE_contains Y bm hms) (I1.kIn _ _ hK) (PySem.W.looks_findIn I1.kIn iC) (fun self => PySem.W.bind_fn I1.kIn self tI) hlus
    (codeAny_mono (F1.run _ X.stack _ _ ⟨Value.ref (hp.objs.size + 1) :: us, ks.zip ws⟩ (g (Value.ref (hp.objs.size + 1) :: us) ws) _ _ (fun _ _ _ => False) (hr.make C us (ks.zip ws)) (I2.env0.make C us (ks.zip ws)) (hb.to _ (Value.ref (hp.objs.size + 1) :: us) ws I2.kIn ln1 (rz.length.symm.trans l2)) r2 hq) fun r s' hq' => ?_))
  cases r with
  | error ex => exact hx pins σ _ _ ex s' I2 hq'
  | ok fl =>
    cases fl with
    | ret u =>
      obtain ⟨v, H', J3, rr, en, q4⟩ := I2.after hq'
      subst en
      exact ⟨rr, ⟨V.ref (hp.objs.size + 1), H', J3, rfl, q4⟩⟩
    | next => exact False.elim hq'
    | brk => exact False.elim hq'
    | cont => exact False.elim hq'
/-- C(e, ..) -/
theorem pe_exv (T : OexC X.K C) (iC : PySem.W.findIn X.K (.ref C) "__init__" = some (some (.ref f))) (tI : PySem.W.typeIn X.K (.ref f) = some (.type "function"))
    (F1 : FnOk X.prog X.w X.K X.mg X.base CX k f fd ps sp) (hr : Room (k + 1) X.A) (hb : KBn X.K fd ps (n + 1) [] g gV) (hx : Passes CX X (fun _ _ _ => False)) (hg : Gl X x) (hm : X.mg x = some (.ref C)) (hn1 : n ≤ 1000) (ha : PA X (e :: es) t)
    (hdb : (x == ("__debug__" : Str)) = false := by decide) (he : starEach (e :: es) X.env = (false, eval e X.env) :: starEach es X.env := by rfl) (hpl : (backTo pos (starEach es X.env)).any (·.1) = false := by rfl) :
    PE X (.Call (.Name x p) (e :: es) [] pos) (tExv C n 0 sp gV t tNil) := by
  refine ⟨fun pins s σ H Q I h => ?_⟩
  refine wpAny_Call_Name_kw (ld_glob I hg hm ?_ hdb)
  refine PySem.W.callWith_K (h₀ := X.base) I.ok.mod.kin T.kC (thn (ha.run pos pins s σ H _ I h) fun us s1 ⟨vs, H1, I1, r1, q1⟩ => ⟨I1.kIn, ?_⟩) he hpl
  obtain ⟨l1, l2, q2⟩ := q1
  exact run_exv (ks := []) (ws := []) (zs := []) T iC tI F1 hr hb hx I1 r1 .nil l1 rfl hn1 q2
/-- C(k = v, ..) -/
theorem pe_exvK (T : OexC X.K C) (iC : PySem.W.findIn X.K (.ref C) "__init__" = some (some (.ref f))) (tI : PySem.W.typeIn X.K (.ref f) = some (.type "function"))
    (F1 : FnOk X.prog X.w X.K X.mg X.base CX k f fd ps sp) (hr : Room (k + 1) X.A) (hb : KBn X.K fd ps 1 ks g gV) (hx : Passes CX X (fun _ _ _ => False)) (hg : Gl X x) (hm : X.mg x = some (.ref C)) (hkw : PK X kws tk)
    (hall : (backToKw pos (keywordEach kws X.env)).all (·.1.isSome) = true := by rfl) (hks : (backToKw pos (keywordEach kws X.env)).filterMap (·.1) = ks := by rfl) (hdb : (x == ("__debug__" : Str)) = false := by decide)
    (hpl : ((backTo pos (starEach [] X.env)).any (·.1) || (backToKw pos (keywordEach kws X.env)).any (·.1.isNone)) = false := by rfl) :
    PE X (.Call (.Name x p) [] kws pos) (tExv C 0 ks.length sp gV tNil tk) := by
  refine ⟨fun pins s σ H Q I h => ?_⟩
  refine wpAny_Call_Name_kw (ld_glob I hg hm ?_ hdb)
  refine PySem.W.callWith_KW0 (h₀ := X.base) I.ok.mod.kin T.kC hall ?_ hpl
  refine thn (hkw.run pos pins s σ H _ I h) fun ws s2 ⟨zs, H2, I2, rz, l1, l2, q2⟩ => ⟨I2.kIn, ?_⟩
  rw [hks]
  exact run_exv (n := 0) (us := []) (vs := []) T iC tI F1 hr hb hx I2 .nil rz rfl l2 (Nat.zero_le _) q2
end
end Rx

set_option Elab.async false
set_option linter.all false
set_option maxRecDepth 100000
set_option maxHeartbeats 4000000
namespace Rx
open PySem PySem.Spec PyProof.Rows L2
/-! ### what is asked of an exception value -/
/-- what the written part says of its class -/
structure ErrC (K : PySem.W.Frag) (C : Addr) : Prop where
  hcl : (PySem.W.clsIn K C).isSome = true
  hga : PySem.W.findIn K (.ref C) "__getattribute__" = some (some (.builtin "BaseException.__getattribute__"))
  hgt : PySem.W.findIn K (.ref C) "__getattr__" = some none
  hsb : PySem.W.subIn K (.ref C) (.type "BaseException") = some true
  hdc : PySem.W.hasDictIn K C = true
  hac : PySem.W.findIn K (.ref C) "__class__" = some (some (.builtin "object.__class__"))
  hmo : PySem.W.mroIn K C (.type "object") = some true
/-- the descriptor of __class__ -/
structure ClsD (K : PySem.W.Frag) : Prop where
  hn : PySem.W.specialIn K (.builtin "object.__class__") "__get__" = some (some (.builtin "getset_descriptor.__get__"))
  ht : PySem.W.takesIn K (.builtin "object.__class__") = some true
section
variable {X : Cx}
theorem inst_exo {H : Hp} {hp : Heap} {P : Program} {w : World} {a C d : Addr} {fs : List (Str × V)} (ok : HOk P w H hp) (ea : H a = some (exo a C (some d))) (ed : H d = some (exd d fs)) :
    ∃ (ox od : Obj) (mA : Str → Option Value), PySem.W.InstAt hp a ox C (some od) ∧ (∀ name, PySem.W.lookIn name od = some (mA name)) ∧ ∀ f, RelO (fs.lookup f) (mA f) := by
  obtain ⟨t1, ho⟩ := exo_at ok ea
  obtain ⟨mA, hns, rel⟩ := exd_at ok ed
  obtain ⟨od, hod, hl⟩ := lookIn_ns hns
  exact ⟨_, od, mA, ⟨ho, rfl, rfl, hod⟩, hl, rel⟩
/-- e.f -/
def tExf (K : PySem.W.Frag) (f : Str) (te : TE) : TE := fun σ H Q => te σ H fun x H1 => ∃ (a C d : Addr) (fs : List (Str × V)) (v : V), x = .ref a ∧ ErrC K C ∧ PySem.W.findIn K (.ref C) f = some none ∧ H1 a = some (exo a C (some d)) ∧ H1 d = some (exd d fs) ∧ fs.lookup f = some v ∧ Q v H1
theorem pe_exf {e : Expr} {te : TE} {n : Str} {pos : Pos} (he : PE X e te) (hb : attributeBase e n X.env (eval e X.env) = eval e X.env := by rfl) : PE X (.Attribute e n pos) (tExf X.K n te) := by
  refine ⟨fun pins s σ H Q I h => attr_of hb (thn (he.run pins s σ H _ I h) fun u s1 hh => ?_)⟩
  obtain ⟨x, H1, I1, rx, a, C, d, fs, v, rfl, T, hno, ea, ed, l, q⟩ := hh
  cases (show u = Value.ref a from rx)
  obtain ⟨ox, od, mA, J, hl, rel⟩ := inst_exo I1.hok ea ed
  obtain ⟨z, hz, rz⟩ := RelO.some_of (v := v) (o := mA n) (by rw [← l]; exact rel n)
  exact HandSPX.exc_get I1.kIn J T.hga T.hgt T.hsb (PySem.W.findObj_own T.hdc hno rfl (by rw [hl, hz])) (handed_of rz) ⟨v, H1, I1.tok _, rz, q⟩
/-- isinstance(e, c) -/
def rIsX (K : PySem.W.Frag) : List V → Hp → VK → Prop := fun xs H Q => ∃ (a C d : Addr) (fs : List (Str × V)) (c : V) (u : Value) (b : Bool), xs = [.ref a, c] ∧ ClsV c u ∧ ErrC K C ∧ ClsD K ∧ H a = some (exo a C (some d)) ∧ H d = some (exd d fs) ∧ PySem.W.kitOne K (.ref C) u = some b ∧ Q (.bl b) H
theorem call_isX : CallR X (.builtin "isinstance") (rIsX X.K) := by
  intro pins s σ H xs us Q I r h
  obtain ⟨a, C, d, fs, c, u, b, rfl, k, T, D, ea, ed, e, q⟩ := h
  obtain ⟨u1, u2, rfl, r1, r2⟩ := vals2 r
  cases (show u1 = Value.ref a from r1)
  cases k.eq r2
  obtain ⟨ox, od, mA, J, _, _⟩ := inst_exo I.hok ea ed
  exact PySem.W.kia_one (PySem.W.kitx_exc T.hcl T.hga T.hgt T.hsb T.hac D.hn D.ht T.hmo) I.kIn J e (fun z => nomatch z) fun tk => ⟨.bl b, H, I.tok tk, rfl, q⟩
/-- str(x), x a list or a tuple of data -/
def rStrD (K : PySem.W.Frag) : List V → Hp → VK → Prop := fun xs H Q => ∃ (a : Addr) (d : PyData), xs = [.ref a] ∧ Dp K H (.ref a) d ∧ d.showable = true ∧ d.hasDict = false ∧ d.depth ≤ 64 ∧ d.shown.length ≤ sizeLine ∧ Q (.str d.shown) H
theorem call_strD (hg : X.A.guards = some []) (hu : X.A.units + 100 < cLine) : CallR X (.type "str") (rStrD X.K) := by
  intro pins s σ H xs us Q I r h
  obtain ⟨a, d, rfl, hd, hs, hn, hz, hl, q⟩ := h
  obtain ⟨u1, rfl, r1⟩ := vals1 r
  cases (show u1 = Value.ref a from r1)
  obtain ⟨as, rr⟩ := Dp.reads I d _ _ hd r1
  exact str_of_reads rr hs (PyData.noDict_hsm hn) hg (by omega) (fun _ _ e => e) (fun h' u tk k => ⟨.str _, H, I.kept k, ⟨u, rfl⟩, q⟩) hl
end
end Rx

set_option Elab.async false
set_option linter.all false
set_option maxRecDepth 100000
set_option maxHeartbeats 4000000
namespace Rx
open PySem PySem.Spec PyProof.Rows L2
/-! ### a law whose own body asks str(..) of data: nothing is being shown around it -/
/-- the promise of a def, where no __repr__ is under way -/
def FnG (P : Program) (w : World) (K : PySem.W.Frag) (mg : Str → Option Value) (base : Heap) (k : Nat) (f : Addr) (fd : FuncData) (ps : List Str) (sp : Sp) : Prop :=
  ∀ (A : Around) (outer : List Env) (s : Shared) (H : Hp) (args : Args) (us : List Value) (vs : List V) (Q : VK), A.guards = some [] → Room k A → Env0 P w K mg base A outer s H → BindsTo s fd args (ps.zip us) → Vals vs us → sp vs H Q E0 →
    codeAny (model P w) A (.call (.ref f) args) (CR CX0 outer P w H s Q E0) s
theorem fnG_of {P : Program} {w : World} {K : PySem.W.Frag} {mg : Str → Option Value} {base : Heap} {x qual : Str} {st : Stmt} {f : Addr} {fd : FuncData} {N ps : List Str} {k : Nat} {sp : Sp} (F : Fun K x qual st f fd) (S : FnScope N ps (defScope st)) (len : ∀ vs H Q E, sp vs H Q E → vs.length = ps.length)
    (hbody : ∀ (cdv : Value) (A : Around) (outer : List Env) (s : Shared) (H : Hp) (vs : List V) (Q : VK), A.guards = some [] → Room k (A.deeper (envOfC qual (defScope st) s.heap.objs.size f cdv)) → sp vs H Q E0 →
      ∃ t, PSs (cxOf CX0 P w K mg base N qual (defScope st) f cdv A outer s H E0).nox (defBody st) t ∧ t { nx := fun _ H' => Q .non H', rt := Q } (L2.start N vs) H) : FnG P w K mg base (k + 1) f fd ps sp := by
  obtain ⟨oc, od, kV, doc, pm, an, cdv, ct, osl, rfl, lk, hcd⟩ := F.ex
  intro A outer s H args us vs Q hg hr e0 hb r hsp
  have up : ∀ b o, base.get? b = some o → s.heap.get? b = some o := fun b o e => (e0.bs b o e).1
  have KX := e0.mod.kin.keeps up
  refine codeAny_call_function hr.depth (KX _ _ lk) rfl S.co S.gen rfl (PySem.W.codeRec_of KX hcd) (hb _ _ _ _ ?_)
  refine wpAny_newFunctionEnv_cells S.kind (fun y hy => ?_) fun env he s1 z => ?_
  · rcases S.par y.1 (List.of_mem_zip (a := y.1) (b := y.2) hy).1 with q | q
    · exact .inl q
    · exact .inr ⟨q, PySem.W.cellsFrom_some _ _ _ (.inl q)⟩
  subst he
  obtain ⟨t, ht, hq⟩ := hbody cdv A outer s H vs Q hg (hr.deeper _) hsp
  have I := inv_start (CX := CX0) (mg := mg) (base := base) (E := E0) S hr.hd e0 (len _ _ _ _ hsp) r z
  refine ⟨(e0.mod.nolimit.keeps up).keeps z.toInCall.keep, codeAny_func (wpAny_mono (ht.nox.run [] s1 _ H _ I hq) (fun fl s' hs => ?_) fun _ _ y => y)⟩
  match fl, hs with
  | .ret u, ⟨v, _, H', J, rv, q⟩ => exact ⟨v, H', J.os, J.bare, J.base, J.hok, rv, q⟩
  | .next, ⟨_, H', J, q⟩ => exact ⟨V.non, H', J.os, J.bare, J.base, J.hok, rfl, q⟩
  | .brk, ⟨_, _, _, q⟩ => exact q.elim
  | .cont, ⟨_, _, _, q⟩ => exact q.elim
/-- the call of the law -/
theorem law_callG {P : Program} {w : World} {K : PySem.W.Frag} {mg mb : Str → Option Value} {k : Nat} {fa a : Addr} {fd : FuncData} {x : Str} {sp : Sp} {s₁ : Shared} {vs : List Value} {ns : List Int}
    (KX : K.In s₁.heap) (hns : s₁.heap.Ns mainGlobals mg) (hb : s₁.heap.Ns builtinsNs mb) (hbb : ∀ y : Str, y ≠ "__name__" → mb y = bootBuiltins y) (hlim : s₁.heap.NoLimit) (hgen : s₁.gens = #[])
    (ha : s₁.heap.get? a = some { cls := .type "list", data := .seq vs.toArray }) (hi : IntsAre vs ns) (hl : ns.length ≤ sizeLine) (hr : Room k callerA)
    (F : ∀ base : Heap, K.In base → base.Ns mainGlobals mg → FnG P w K mg base k fa fd [x] sp) (hbind : ∀ (s : Shared) (u : Value), BindsTo s fd ⟨[u], []⟩ [(x, u)])
    (hsp : ∀ H : Hp, Only H → SqL K H a (ns.map V.int) → sp [.ref a] H (fun v _ => v = .bl true) E0) :
    codeAny (model P w) callerA (.call (.ref fa) ⟨[.ref a], []⟩) (fun r s' => r = .ok (.ret (.bool true)) ∧ OldK s₁.heap s'.heap ∧ s'.os = s₁.os ∧ AllBare s'.gens) s₁ := by
  have rv := vals_ints hi
  have lenV := hi.length
  obtain ⟨H, hO, hS, hok, hA⟩ : ∃ H : Hp, Only H ∧ SqL K H a (ns.map V.int) ∧ HOk P w H s₁.heap ∧ ∀ b u, H b = some u → b = a ∧ K.lookup a = none := by
    cases hk : K.lookup a with
    | some o =>
      have e := KX a o hk
      rw [ha] at e
      cases e
      exact ⟨fun _ => none, fun _ => .inl rfl, .inr ⟨_, vs.toArray, _, hk, rfl, rfl, rfl, by rw [List.size_toArray, lenV]; exact hl, by simpa using rv⟩, (fun _ _ z => nomatch z), fun _ _ z => nomatch z⟩
    | none =>
      have only : ∀ {b : Addr} {u v : HO}, (if b = a then some v else none) = some u → b = a ∧ v = u := fun {b u v} z => by
        split at z
        · rename_i hb
          exact ⟨hb, Option.some.inj z⟩
        · cases z
      refine ⟨fun b => if b = a then some (.frz { cls := .type "list", data := .seq vs.toArray } (.lst (ns.map V.int))) else none, fun b => ?_, .inl (.inr ⟨_, if_pos rfl⟩), fun b u z => ?_, fun b u z => ⟨(only z).1, rfl⟩⟩
      · by_cases hba : b = a
        · exact .inr ⟨_, _, if_pos hba⟩
        · exact .inl (if_neg hba)
      · obtain ⟨rfl, rfl⟩ := only z
        exact ⟨ha, by rw [List.length_map]; exact hl, vs, _, rv, ha⟩
  have free : ∀ {b : Addr} {o : Obj}, s₁.heap.get? b = some o → (b = a → K.lookup a = none → False) → (hidT s₁.heap H).get? b = some o := fun {b o} e n => hidT_get e (by
    cases q : H b with
    | none => rfl
    | some u => exact (n (hA b u q).1 (hA b u q).2).elim)
  have nsK : ∀ {b : Addr} {m : Str → Option Value}, s₁.heap.Ns b m → (hidT s₁.heap H).Ns b m := fun {b m} ⟨o, es, ep, e, dt, r⟩ => ⟨o, es, ep, free e (fun hba _ => by
    rw [hba, ha] at e
    cases e
    cases dt), dt, r⟩
  have hKb : K.In (hidT s₁.heap H) := fun b o e => free (KX b o e) fun hba hn => by
    rw [hba, hn] at e
    cases e
  have hM : Mod K mg (hidT s₁.heap H) := ⟨hKb, nsK hns, ⟨mb, nsK hb, hbb⟩, let ⟨mc, y1, y2⟩ := hlim; ⟨mc, nsK y1, y2⟩⟩
  have e0 : Env0 P w K mg (hidT s₁.heap H) callerA [] s₁ H := ⟨rfl, hM, (fun b o e => of_hidT e), Nat.le_of_eq (hidT_size _ _), trivial, (fun b z => by cases z), hok, .of_eq hgen⟩
  refine codeAny_mono (F _ hKb (nsK hns) callerA [] s₁ H ⟨[.ref a], []⟩ [.ref a] [.ref a] (fun v _ => v = .bl true) rfl hr e0 (hbind s₁ (.ref a)) (.cons rfl .nil) (hsp H hO hS)) fun r s' y => ?_
  match r, y with
  | .ok (.ret u), ⟨v, H', os, bare, un, hok', rr, q⟩ =>
    cases (show v = V.bl true from q)
    cases (show u = Value.bool true from rr)
    refine ⟨rfl, OldK.of_keep fun b o e => ?_, os, bare⟩
    rcases hO b with z | ⟨ob, xs, z⟩
    · exact un.keep b o e z (fun z => by cases z) (fun z => by cases z)
    · obtain ⟨g1, _⟩ := hok b _ z
      obtain ⟨g2, _⟩ := hok' b _ (un.frzs b ob _ z)
      rw [g1] at e
      cases e
      exact g2
/-- what k_head leaves -/
theorem walk_ofG {l : PySem.W.OpenLaw} {n k : Nat} {q : Program} {loose : List Str} {XP : (Str → Option Value) → Heap → Prop} {YP : World → Heap → Prop} {d : DefRec} {K : Params → PySem.W.Frag} {sp : PySem.W.Frag → Sp} {x : Str}
    (hn : l.most = some n) (hn2 : n ≤ sizeLine) (hdf : d.params.defaults = []) (hr : Room k callerA) (hY : ∀ (w : World) (h : Heap), YP w h → (K w.params).In h)
    (F : ∀ (w : World) (mg : Str → Option Value) (fa : Addr) (h : Heap), (K w.params).In h → h.Ns mainGlobals mg → mg d.name = some (.ref fa) →
      ∃ fd : FuncData, (∀ (s : Shared) (u : Value), BindsTo s fd ⟨[u], []⟩ [(x, u)]) ∧ ∀ base : Heap, (K w.params).In base → base.Ns mainGlobals mg → FnG l.prog w (K w.params) mg base k fa fd [x] (sp (K w.params)))
    (hsp : ∀ (K : PySem.W.Frag) (H : Hp) (a : Addr) (ns : List Int), ns.length ≤ n → Only H → SqL K H a (ns.map V.int) → sp K [.ref a] H (fun v _ => v = .bl true) E0) :
    PySem.W.WalkO q loose XP YP l.row.toRowW d [] (fun f vs => PySem.call f vs) := by
  refine Att.attach_call hn hdf fun w s₀ s₁ mg mb fa o pm cd doc a vs ns G Y ho hd hcd hmg hobj hints hlen hg => ?_
  obtain ⟨fd, hb, hF⟩ := F w mg fa _ (hY w _ Y) G.T.g hmg
  exact law_callG (hY w _ Y) G.T.g G.T.b G.T.builtins G.T.nolimit hg hobj hints (Nat.le_trans hlen hn2) hr hF hb fun H hO hS => hsp _ H a ns hlen hO hS
end Rx

set_option Elab.async false
set_option linter.all false
set_option maxRecDepth 100000
set_option maxHeartbeats 4000000
namespace Rx
open PySem PySem.Spec PyProof.Rows L2
/-! ### data with lists turned into tuples -/
mutual
def fix : PyData → PyData
  | .list xs => .tuple (fixAll xs)
  | .tuple xs => .tuple (fixAll xs)
  | .none => .none
  | .bool b => .bool b
  | .int i => .int i
  | .str x => .str x
  | .dict kvs => .dict kvs
def fixAll : List PyData → List PyData
  | [] => []
  | x :: xs => fix x :: fixAll xs
end
mutual
def sz : PyData → Nat
  | .list xs => 2 + szAll xs
  | .tuple xs => 2 + szAll xs
  | _ => 1
def szAll : List PyData → Nat
  | [] => 0
  | x :: xs => sz x + szAll xs
end
def kids : PyData → Option (List PyData)
  | .list xs => some xs
  | .tuple xs => some xs
  | _ => none
theorem fixAll_map : ∀ xs : List PyData, fixAll xs = xs.map fix
  | [] => by simp [fixAll]
  | x :: xs => by simp [fixAll, fixAll_map xs]
theorem fix_kids {c : PyData} {xs : List PyData} (h : kids c = some xs) : fix c = .tuple (fixAll xs) := by
  cases c <;> simp [kids] at h <;> subst h <;> simp [fix]
theorem sz_kids {c : PyData} {xs : List PyData} (h : kids c = some xs) : sz c = 2 + szAll xs := by
  cases c <;> simp [kids] at h <;> subst h <;> simp [sz]
theorem sz_pos (c : PyData) : 1 ≤ sz c := by cases c <;> simp [sz] <;> omega
theorem szAll_drop : ∀ {xs : List PyData} {n : Nat} {c : PyData}, xs[n]? = some c → szAll (xs.drop n) = sz c + szAll (xs.drop (n + 1))
  | [], _, _, h => by simp at h
  | x :: xs, 0, c, h => by
    simp at h
    subst h
    simp [szAll]
  | x :: xs, n + 1, c, h => by
    simp only [List.getElem?_cons_succ] at h
    simpa using szAll_drop h
theorem sz_le_all : ∀ {xs : List PyData} {c : PyData}, c ∈ xs → sz c ≤ szAll xs
  | [], _, h => by cases h
  | x :: xs, c, h => by
    rcases List.mem_cons.mp h with rfl | h
    · simp [szAll]
    · have := sz_le_all h
      simp only [szAll]
      omega
theorem len_le_sz : ∀ xs : List PyData, xs.length ≤ szAll xs
  | [] => by simp
  | x :: xs => by
    have h1 := sz_pos x
    have h2 := len_le_sz xs
    simp only [List.length_cons, szAll]
    omega
/-! ### data in a heap -/
/-! no list in it -/
mutual
def noList : PyData → Bool
  | .list _ => false
  | .tuple xs => noListAll xs
  | _ => true
def noListAll : List PyData → Bool
  | [] => true
  | x :: xs => noList x && noListAll xs
end
mutual
theorem fix_noList : ∀ d : PyData, noList (fix d) = true
  | .list xs => by simp only [fix, noList]; exact fixAll_noList xs
  | .tuple xs => by simp only [fix, noList]; exact fixAll_noList xs
  | .none => by simp [fix, noList]
  | .bool _ => by simp [fix, noList]
  | .int _ => by simp [fix, noList]
  | .str _ => by simp [fix, noList]
  | .dict _ => by simp [fix, noList]
theorem fixAll_noList : ∀ xs : List PyData, noListAll (fixAll xs) = true
  | [] => by simp [fixAll, noListAll]
  | x :: xs => by simp only [fixAll, noListAll, fix_noList x, fixAll_noList xs, Bool.and_self]
end
section
variable {K : PySem.W.Frag} {H H' : Hp}
theorem sqT_keep (k : ∀ a xs, H a = some (.tup xs) → H' a = some (.tup xs)) (kf : ∀ a o u, H a = some (.frz o u) → H' a = some (.frz o u)) {a : Addr} {xs : List V} (h : SqT K H a xs) : SqT K H' a xs := by
  rcases h with (h | ⟨o, h⟩) | h
  · exact .inl (.inl (k _ _ h))
  · exact .inl (.inr ⟨o, kf _ _ _ h⟩)
  · exact .inr h
theorem sqL_same (e : Same H H') {a : Addr} {xs : List V} (h : SqL K H a xs) : SqL K H' a xs := Same.seq e h
theorem sqT_same (e : Same H H') {a : Addr} {xs : List V} (h : SqT K H a xs) : SqT K H' a xs := sqT_keep (fun a xs => e a _) (fun a o u => e a _) h
mutual
theorem dp_keep (k : ∀ a xs, H a = some (.tup xs) → H' a = some (.tup xs)) (kf : ∀ a o u, H a = some (.frz o u) → H' a = some (.frz o u)) : ∀ {v : V} {d : PyData}, Dp K H v d → noList d = true → Dp K H' v d
  | _, _, .non, _ => .non
  | _, _, .bl b, _ => .bl b
  | _, _, .int i, _ => .int i
  | _, _, .str x, _ => .str x
  | _, _, .lst _ _, h => by simp [noList] at h
  | _, _, .tup h1 h2, h => .tup (sqT_keep k kf h1) (dpAll_keep k kf h2 (by simpa [noList] using h))
theorem dpAll_keep (k : ∀ a xs, H a = some (.tup xs) → H' a = some (.tup xs)) (kf : ∀ a o u, H a = some (.frz o u) → H' a = some (.frz o u)) : ∀ {vs : List V} {ds : List PyData}, DpAll K H vs ds → noListAll ds = true → DpAll K H' vs ds
  | _, _, .nil, _ => .nil
  | _, _, .cons h1 h2, h => by
    simp only [noListAll, Bool.and_eq_true] at h
    exact .cons (dp_keep k kf h1 h.1) (dpAll_keep k kf h2 h.2)
end
mutual
theorem dp_same (e : Same H H') : ∀ {v : V} {d : PyData}, Dp K H v d → Dp K H' v d
  | _, _, .non => .non
  | _, _, .bl b => .bl b
  | _, _, .int i => .int i
  | _, _, .str x => .str x
  | _, _, .lst h1 h2 => .lst (sqL_same e h1) (dpAll_same e h2)
  | _, _, .tup h1 h2 => .tup (sqT_same e h1) (dpAll_same e h2)
theorem dpAll_same (e : Same H H') : ∀ {vs : List V} {ds : List PyData}, DpAll K H vs ds → DpAll K H' vs ds
  | _, _, .nil => .nil
  | _, _, .cons h1 h2 => .cons (dp_same e h1) (dpAll_same e h2)
end
theorem dpAll_app : ∀ {vs ws : List V} {ds es : List PyData}, DpAll K H vs ds → DpAll K H ws es → DpAll K H (vs ++ ws) (ds ++ es)
  | _, _, _, _, .nil, h => h
  | _, _, _, _, .cons h1 h2, h => .cons h1 (dpAll_app h2 h)
theorem dpAll_len : ∀ {vs : List V} {ds : List PyData}, DpAll K H vs ds → vs.length = ds.length
  | _, _, .nil => rfl
  | _, _, .cons _ h2 => by rw [List.length_cons, List.length_cons, dpAll_len h2]
theorem dpAll_get : ∀ {vs : List V} {ds : List PyData} {i : Nat} {d : PyData}, DpAll K H vs ds → ds[i]? = some d → ∃ v, vs[i]? = some v ∧ Dp K H v d
  | _, _, _, _, .nil, h => by simp at h
  | _, _, 0, _, .cons h1 _, h => by
    simp at h
    subst h
    exact ⟨_, rfl, h1⟩
  | _, _, i + 1, _, .cons _ h2, h => by
    simp only [List.getElem?_cons_succ] at h
    obtain ⟨v, e, q⟩ := dpAll_get h2 h
    exact ⟨v, by simpa using e, q⟩
theorem dpAll_getV {vs : List V} {ds : List PyData} {i : Nat} {v : V} (h : DpAll K H vs ds) (e : vs[i]? = some v) : ∃ d, ds[i]? = some d ∧ Dp K H v d := by
  have hi : i < ds.length := by
    rw [← dpAll_len h]
    exact (List.getElem?_eq_some_iff.mp e).1
  obtain ⟨w, e2, q⟩ := dpAll_get h (List.getElem?_eq_getElem hi)
  rw [e] at e2
  cases e2
  exact ⟨_, List.getElem?_eq_getElem hi, q⟩
/-- a list or a tuple of such items stands there -/
def Src (K : PySem.W.Frag) (H : Hp) (v : V) (its : List PyData) : Prop := ∃ (a : Addr) (xs : List V), v = .ref a ∧ (SqL K H a xs ∨ SqT K H a xs) ∧ DpAll K H xs its
theorem src_same (e : Same H H') {v : V} {its : List PyData} (h : Src K H v its) : Src K H' v its := by
  obtain ⟨a, xs, rfl, h1, h2⟩ := h
  exact ⟨a, xs, rfl, h1.imp (sqL_same e) (sqT_same e), dpAll_same e h2⟩
theorem src_of {v : V} {c : PyData} {its : List PyData} (h : Dp K H v c) (k : kids c = some its) : Src K H v its := by
  cases h with
  | lst h1 h2 =>
    simp only [kids, Option.some.injEq] at k
    subst k
    exact ⟨_, _, rfl, .inl h1, h2⟩
  | tup h1 h2 =>
    simp only [kids, Option.some.injEq] at k
    subst k
    exact ⟨_, _, rfl, .inr h1, h2⟩
  | _ => simp [kids] at k
/-- isinstance(x, (list, tuple)) -/
theorem ty_dp {v : V} {c : PyData} (h : Dp K H v c) : ∃ t, TyX K H v t ∧ PySem.W.kitAny K t [.type "list", .type "tuple"] = some (kids c).isSome := by
  have no : ∀ t : String, kitB t "list" = some false → kitB t "tuple" = some false → PySem.W.kitAny K (.type t) [.type "list", .type "tuple"] = some false := fun t h1 h2 =>
    kitAny_cons (kit_ty h1) (fun _ => kitAny_cons (kit_ty h2) (fun _ => kitAny_nil) (fun z => nomatch z)) (fun z => nomatch z)
  have yl : PySem.W.kitAny K (.type "list") [.type "list", .type "tuple"] = some true := kitAny_cons (b := true) (kit_ty (by decide +kernel)) (fun z => nomatch z) (fun _ => rfl)
  have yt : PySem.W.kitAny K (.type "tuple") [.type "list", .type "tuple"] = some true :=
    kitAny_cons (b := false) (kit_ty (by decide +kernel)) (fun _ => kitAny_cons (b := true) (kit_ty (by decide +kernel)) (fun z => nomatch z) (fun _ => rfl)) (fun z => nomatch z)
  cases h with
  | non => exact ⟨_, .base .non, no _ (by decide +kernel) (by decide +kernel)⟩
  | bl b => exact ⟨_, .base (.bl b), no _ (by decide +kernel) (by decide +kernel)⟩
  | int i => exact ⟨_, .base (.int i), no _ (by decide +kernel) (by decide +kernel)⟩
  | str x => exact ⟨_, .base (.str x), no _ (by decide +kernel) (by decide +kernel)⟩
  | lst h1 _ =>
    refine ⟨.type "list", ?_, yl⟩
    rcases h1 with (h | ⟨o, h⟩) | ⟨o, its, n, h, hc, _⟩
    · exact .base (.lst h)
    · exact .base (.frz h)
    · exact .kList h hc
  | tup h1 _ =>
    refine ⟨.type "tuple", ?_, yt⟩
    rcases h1 with (h | ⟨o, h⟩) | ⟨o, its, n, h, hc, _⟩
    · exact .base (.tup h)
    · exact .fTuple h
    · exact .kTuple h hc
theorem leaf_dp {v : V} {c : PyData} (h : Dp K H v c) (k : kids c = none) : fix c = c ∧ Dp K H' v c := by
  cases h with
  | non => exact ⟨by simp [fix], .non⟩
  | bl b => exact ⟨by simp [fix], .bl b⟩
  | int i => exact ⟨by simp [fix], .int i⟩
  | str x => exact ⟨by simp [fix], .str x⟩
  | lst _ _ => simp [kids] at k
  | tup _ _ => simp [kids] at k
theorem same_new {H : Hp} {a : Addr} {o : HO} (h : H a = none) : Same H (upd H a o) := fun b u e => by
  rw [upd_ne (ne_of_none e h)]
  exact e
theorem same_upd {H0 H : Hp} {a : Addr} {o : HO} (e : Same H0 H) (h : H0 a = none) : Same H0 (upd H a o) := fun b u q => by
  rw [upd_ne (ne_of_none q h)]
  exact e _ _ q
end
end Rx

set_option Elab.async false
set_option linter.all false
set_option maxRecDepth 100000
set_option maxHeartbeats 4000000
namespace K1
open PySem PySem.Spec PyProof.Rows L2 Rx
def topS (i : Nat) : Stmt := PySem.Challenge.pw_rerunrein_k01_errors_made.main.body.getD i (.Pass ⟨0, 0, 0, 0⟩)
abbrev sFrozen : Stmt := topS 1
/-- one level of the walk through nested data: what is walked, its items, how far, the list of what is made, and what is in it -/
structure Lv where
  src : V
  its : List PyData
  pl : Nat
  rs : Addr
  vl : List V
def lvOk (K : PySem.W.Frag) (H1 H : Hp) (N : Nat) (l : Lv) (n : Nat) : Prop := Src K H1 l.src l.its ∧ DpAll K H l.vl (fixAll (l.its.take n)) ∧ szAll l.its ≤ N
def below (K : PySem.W.Frag) (H1 H : Hp) (N : Nat) (d : PyData) : List PyData → List Lv → Prop
  | its, [] => its = [d]
  | its, l :: r => ∃ q c, l.pl = q + 1 ∧ l.its[q]? = some c ∧ kids c = some its ∧ lvOk K H1 H N l q ∧ below K H1 H N d l.its r
def mu : List Lv → Nat
  | [] => 0
  | l :: r => szAll (l.its.drop l.pl) + 1 + mu r
theorem below_len {K : PySem.W.Frag} {H1 H : Hp} {N : Nat} {d : PyData} : ∀ {r : List Lv} {its : List PyData}, below K H1 H N d its r → ∀ l ∈ r, l.vl.length ≤ N
  | [], _, _, _, hm => by cases hm
  | l :: r, its, ⟨q, c, e1, e2, e3, ⟨h1, h2, h3⟩, hb⟩, x, hm => by
    rcases List.mem_cons.mp hm with rfl | hm
    · have hl := dpAll_len h2
      rw [fixAll_map, List.length_map, List.length_take] at hl
      have := len_le_sz x.its
      omega
    · exact below_len hb x hm
/-- a list is written: the levels stay good -/
theorem below_keep {K : PySem.W.Frag} {H1 H H' : Hp} {N : Nat} {d : PyData} (k : ∀ a xs, H a = some (.tup xs) → H' a = some (.tup xs)) (kf : ∀ a o u, H a = some (.frz o u) → H' a = some (.frz o u)) :
    ∀ {r : List Lv} {its : List PyData}, below K H1 H N d its r → below K H1 H' N d its r
  | [], _, h => h
  | l :: r, its, ⟨q, c, e1, e2, e3, ⟨h1, h2, h3⟩, hb⟩ => ⟨q, c, e1, e2, e3, ⟨h1, dpAll_keep k kf h2 (fixAll_noList _), h3⟩, below_keep k kf hb⟩
def colS (L : List Lv) : List V := L.reverse.map (·.src)
def colP (L : List Lv) : List V := L.reverse.map fun l => V.int l.pl
def colR (L : List Lv) : List V := L.reverse.map fun l => V.ref l.rs
/-- the state between two turns -/
structure Mid (K : PySem.W.Frag) (H1 H : Hp) (N B : Nat) (d : PyData) (S P R : Addr) (t : Lv) (r : List Lv) : Prop where
  hS : H S = some (.lst (colS (t :: r)))
  hP : H P = some (.lst (colP (t :: r)))
  hR : H R = some (.lst (colR (t :: r)))
  hv : ∀ l ∈ t :: r, H l.rs = some (.lst l.vl)
  nSP : S ≠ P
  nSR : S ≠ R
  nPR : P ≠ R
  nd : ((t :: r).map (·.rs)).Nodup
  out : ∀ l ∈ t :: r, l.rs ≠ S ∧ l.rs ≠ P ∧ l.rs ≠ R ∧ H1 l.rs = none
  same : Same H1 H
  fS : H1 S = none
  fP : H1 P = none
  fR : H1 R = none
  ok : lvOk K H1 H N t t.pl
  le : t.pl ≤ t.its.length
  bl : below K H1 H N d t.its r
  bd : mu (t :: r) + (t :: r).length ≤ B
theorem colS_cons (t : Lv) (r : List Lv) : colS (t :: r) = colS r ++ [t.src] := by simp [colS]
theorem colP_cons (t : Lv) (r : List Lv) : colP (t :: r) = colP r ++ [V.int t.pl] := by simp [colP]
theorem colR_cons (t : Lv) (r : List Lv) : colR (t :: r) = colR r ++ [V.ref t.rs] := by simp [colR]
theorem col_lens (L : List Lv) : (colS L).length = L.length ∧ (colP L).length = L.length ∧ (colR L).length = L.length := by simp [colS, colP, colR]
/-- tuples and locked things stay -/
def Keeps (H H' : Hp) : Prop := (∀ a xs, H a = some (.tup xs) → H' a = some (.tup xs)) ∧ ∀ a o u, H a = some (.frz o u) → H' a = some (.frz o u)
theorem Keeps.refl (H : Hp) : Keeps H H := ⟨fun _ _ h => h, fun _ _ _ h => h⟩
theorem Keeps.trans {H H1 H2 : Hp} (a : Keeps H H1) (b : Keeps H1 H2) : Keeps H H2 := ⟨fun x y h => b.1 _ _ (a.1 x y h), fun x y z h => b.2 _ _ _ (a.2 x y z h)⟩
theorem keeps_lst {H : Hp} {a : Addr} {xs : List V} {o : HO} (h : H a = some (.lst xs)) : Keeps H (upd H a o) :=
  ⟨fun b ys e => by rw [upd_ne (ne_of e h (by intro z; cases z))]; exact e, fun b ob u e => by rw [upd_ne (ne_of e h (by intro z; cases z))]; exact e⟩
theorem keeps_new {H : Hp} {a : Addr} {o : HO} (h : H a = none) : Keeps H (upd H a o) :=
  ⟨fun b ys e => by rw [upd_ne (ne_of_none e h)]; exact e, fun b ob u e => by rw [upd_ne (ne_of_none e h)]; exact e⟩
section
variable {K : PySem.W.Frag} {H1 H : Hp} {N B : Nat} {d : PyData} {S P R : Addr} {t l : Lv} {r : List Lv}
/-- behind the last item of a level: it becomes a tuple -/
theorem mid_pop (M : Mid K H1 H N B d S P R t (l :: r)) (hpl : t.pl = t.its.length) {p : Addr} {oS oP oR : List V} (eS : oS = colS (l :: r)) (eP : oP = colP (l :: r)) (eR : oR = colR (l :: r))
    (hp : upd (upd (upd H S (.lst oS)) P (.lst oP)) R (.lst oR) p = none) :
    Mid K H1 (upd (upd (upd (upd (upd H S (.lst oS)) P (.lst oP)) R (.lst oR)) p (.tup t.vl)) l.rs (.lst (l.vl ++ [.ref p]))) N B d S P R { l with vl := l.vl ++ [.ref p] } r ∧ mu ({ l with vl := l.vl ++ [.ref p] } :: r) < mu (t :: l :: r) := by
  subst eS eP eR
  obtain ⟨q, c, e1, e2, e3, ⟨h1, h2, h3⟩, hb⟩ := M.bl
  have pS : p ≠ S := fun z => by rw [z, upd_ne M.nSR, upd_ne M.nSP, upd_same] at hp; cases hp
  have pP : p ≠ P := fun z => by rw [z, upd_ne M.nPR, upd_same] at hp; cases hp
  have pR : p ≠ R := fun z => by rw [z, upd_same] at hp; cases hp
  have hpn : H p = none := by rw [upd_ne pR, upd_ne pP, upd_ne pS] at hp; exact hp
  have p1 : H1 p = none := M.same.free hpn
  obtain ⟨lS, lP, lR, l1⟩ := M.out l (by simp)
  have lp : l.rs ≠ p := ne_of_none (M.hv l (by simp)) hpn
  have kk : Keeps H (upd (upd (upd (upd (upd H S (.lst (colS (l :: r)))) P (.lst (colP (l :: r)))) R (.lst (colR (l :: r)))) p (.tup t.vl)) l.rs (.lst (l.vl ++ [.ref p]))) := by
    refine (keeps_lst M.hS).trans ((keeps_lst (xs := colP (t :: l :: r)) ?_).trans ((keeps_lst (xs := colR (t :: l :: r)) ?_).trans ((keeps_new hp).trans (keeps_lst (xs := l.vl) ?_))))
    · rw [upd_ne M.nSP.symm]; exact M.hP
    · rw [upd_ne M.nPR.symm, upd_ne M.nSR.symm]; exact M.hR
    · rw [upd_ne lp, upd_ne lR, upd_ne lP, upd_ne lS]; exact M.hv l (by simp)
  have nd := M.nd
  simp only [List.map_cons, List.nodup_cons, List.mem_cons, not_or] at nd
  have hq : q + 1 ≤ l.its.length := (List.getElem?_eq_some_iff.mp e2).1
  have etk : l.its.take (q + 1) = l.its.take q ++ [c] := by rw [List.take_add_one, e2]; rfl
  have T : Dp K (upd (upd (upd (upd (upd H S (.lst (colS (l :: r)))) P (.lst (colP (l :: r)))) R (.lst (colR (l :: r)))) p (.tup t.vl)) l.rs (.lst (l.vl ++ [.ref p]))) (.ref p) (fix c) := by
    rw [fix_kids e3]
    refine .tup (SqT.of (by rw [upd_ne lp.symm, upd_same])) ?_
    have := M.ok.2.1
    rw [hpl, List.take_length] at this
    exact dpAll_keep kk.1 kk.2 this (fixAll_noList _)
  refine ⟨⟨?_, ?_, ?_, ?_, M.nSP, M.nSR, M.nPR, ?_, ?_, ?_, M.fS, M.fP, M.fR, ⟨h1, ?_, h3⟩, ?_, ?_, ?_⟩, ?_⟩
  · rw [upd_ne lS.symm, upd_ne pS.symm, upd_ne M.nSR, upd_ne M.nSP, upd_same]; simp [colS]
  · rw [upd_ne lP.symm, upd_ne pP.symm, upd_ne M.nPR, upd_same]; simp [colP]
  · rw [upd_ne lR.symm, upd_ne pR.symm, upd_same]; simp [colR]
  · intro x hx
    rcases List.mem_cons.mp hx with rfl | hx
    · exact upd_same
    · obtain ⟨xS, xP, xR, x1⟩ := M.out x (by simp [hx])
      have xl : x.rs ≠ l.rs := fun z => nd.2.1 (by rw [← z]; exact List.mem_map_of_mem hx)
      have xv := M.hv x (by simp [hx])
      rw [upd_ne xl, upd_ne (ne_of_none xv hpn), upd_ne xR, upd_ne xP, upd_ne xS]
      exact xv
  · simp only [List.map_cons, List.nodup_cons]
    exact nd.2
  · intro x hx
    rcases List.mem_cons.mp hx with rfl | hx
    · exact ⟨lS, lP, lR, l1⟩
    · exact M.out x (by simp [hx])
  · exact same_upd (same_upd (same_upd (same_upd (same_upd M.same M.fS) M.fP) M.fR) p1) l1
  · show DpAll K _ (l.vl ++ [.ref p]) (fixAll (l.its.take l.pl))
    rw [e1, etk, fixAll_map, List.map_append, ← fixAll_map]
    exact dpAll_app (dpAll_keep kk.1 kk.2 h2 (fixAll_noList _)) (.cons T .nil)
  · show l.pl ≤ l.its.length
    omega
  · exact below_keep kk.1 kk.2 hb
  · have := M.bd
    simp only [mu, List.length_cons] at this ⊢
    omega
  · simp only [mu]
    omega
/-- an item that is no list and no tuple -/
theorem mid_leaf (M : Mid K H1 H N B d S P R t r) {c : PyData} {v : V} (hc : t.its[t.pl]? = some c) (kc : kids c = none) (hv : Dp K H1 v c) {q : Addr} {oq : HO} {oP : List V} (eP : oP = colP ({ t with pl := t.pl + 1 } :: r))
    (hq : upd H P (.lst oP) q = none) :
    Mid K H1 (upd (upd (upd H P (.lst oP)) q oq) t.rs (.lst (t.vl ++ [v]))) N B d S P R { t with pl := t.pl + 1, vl := t.vl ++ [v] } r ∧ mu ({ t with pl := t.pl + 1, vl := t.vl ++ [v] } :: r) < mu (t :: r) := by
  subst eP
  have qP : q ≠ P := fun z => by rw [z, upd_same] at hq; cases hq
  have hqn : H q = none := by rw [upd_ne qP] at hq; exact hq
  have q1 : H1 q = none := M.same.free hqn
  obtain ⟨tS, tP, tR, t1⟩ := M.out t (by simp)
  have tq : t.rs ≠ q := ne_of_none (M.hv t (by simp)) hqn
  have kk : Keeps H (upd (upd (upd H P (.lst (colP ({ t with pl := t.pl + 1 } :: r)))) q oq) t.rs (.lst (t.vl ++ [v]))) := by
    refine (keeps_lst M.hP).trans ((keeps_new hq).trans (keeps_lst (xs := t.vl) ?_))
    rw [upd_ne tq, upd_ne tP]; exact M.hv t (by simp)
  have nd := M.nd
  simp only [List.map_cons, List.nodup_cons] at nd
  have hlt : t.pl < t.its.length := (List.getElem?_eq_some_iff.mp hc).1
  have etk : t.its.take (t.pl + 1) = t.its.take t.pl ++ [c] := by rw [List.take_add_one, hc]; rfl
  have hd := szAll_drop hc
  have hs := sz_pos c
  refine ⟨⟨?_, ?_, ?_, ?_, M.nSP, M.nSR, M.nPR, ?_, ?_, ?_, M.fS, M.fP, M.fR, ⟨M.ok.1, ?_, M.ok.2.2⟩, ?_, ?_, ?_⟩, ?_⟩
  · rw [upd_ne tS.symm, upd_ne (ne_of_none M.hS hqn), upd_ne M.nSP, M.hS]; simp [colS]
  · rw [upd_ne tP.symm, upd_ne qP.symm, upd_same]; simp [colP]
  · rw [upd_ne tR.symm, upd_ne (ne_of_none M.hR hqn), upd_ne M.nPR.symm, M.hR]; simp [colR]
  · intro x hx
    rcases List.mem_cons.mp hx with rfl | hx
    · exact upd_same
    · obtain ⟨xS, xP, xR, x1⟩ := M.out x (by simp [hx])
      have xl : x.rs ≠ t.rs := fun z => nd.1 (by rw [← z]; exact List.mem_map_of_mem hx)
      have xv := M.hv x (by simp [hx])
      rw [upd_ne xl, upd_ne (ne_of_none xv hqn), upd_ne xP]
      exact xv
  · simp only [List.map_cons, List.nodup_cons]
    exact nd
  · intro x hx
    rcases List.mem_cons.mp hx with rfl | hx
    · exact ⟨tS, tP, tR, t1⟩
    · exact M.out x (by simp [hx])
  · exact same_upd (same_upd (same_upd M.same M.fP) q1) t1
  · show DpAll K _ (t.vl ++ [v]) (fixAll (t.its.take (t.pl + 1)))
    rw [etk, fixAll_map, List.map_append, ← fixAll_map]
    refine dpAll_app (dpAll_keep kk.1 kk.2 M.ok.2.1 (fixAll_noList _)) (.cons ?_ .nil)
    obtain ⟨e, h⟩ := leaf_dp (H' := _) hv kc
    rw [e]
    exact h
  · exact hlt
  · exact below_keep kk.1 kk.2 M.bl
  · have := M.bd
    simp only [mu, List.length_cons] at this ⊢
    omega
  · simp only [mu]
    omega
/-- an item that is a list or a tuple: a new level -/
theorem mid_push (M : Mid K H1 H N B d S P R t r) {c : PyData} {v : V} {its : List PyData} (hc : t.its[t.pl]? = some c) (kc : kids c = some its) (hv : Dp K H1 v c) {q e : Addr} {oq : HO} {oP oS oP' oR : List V}
    (eP : oP = colP ({ t with pl := t.pl + 1 } :: r)) (hq : upd H P (.lst oP) q = none) (eS : oS = colS ({ t with pl := t.pl + 1 } :: r) ++ [v]) (eP' : oP' = colP ({ t with pl := t.pl + 1 } :: r) ++ [V.int 0]) (eR : oR = colR ({ t with pl := t.pl + 1 } :: r) ++ [V.ref e])
    (he : upd (upd (upd (upd H P (.lst oP)) q oq) S (.lst oS)) P (.lst oP') e = none) :
    Mid K H1 (upd (upd (upd (upd (upd (upd H P (.lst oP)) q oq) S (.lst oS)) P (.lst oP')) e (.lst [])) R (.lst oR)) N B d S P R ⟨v, its, 0, e, []⟩ ({ t with pl := t.pl + 1 } :: r) ∧ mu (⟨v, its, 0, e, []⟩ :: { t with pl := t.pl + 1 } :: r) < mu (t :: r) := by
  subst eP eS eP' eR
  have qP : q ≠ P := fun z => by rw [z, upd_same] at hq; cases hq
  have hqn : H q = none := by rw [upd_ne qP] at hq; exact hq
  have q1 : H1 q = none := M.same.free hqn
  have qS : S ≠ q := ne_of_none M.hS hqn
  have qR : R ≠ q := ne_of_none M.hR hqn
  have eP : e ≠ P := fun z => by rw [z, upd_same] at he; cases he
  have eS : e ≠ S := fun z => by rw [z, upd_ne M.nSP, upd_same] at he; cases he
  have eq : e ≠ q := fun z => by rw [z, upd_ne qP, upd_ne qS.symm, upd_same] at he; cases he
  have hen : H e = none := by rw [upd_ne eP, upd_ne eS, upd_ne eq, upd_ne eP] at he; exact he
  have e1 : H1 e = none := M.same.free hen
  have eR : R ≠ e := ne_of_none M.hR hen
  have kk : Keeps H (upd (upd (upd (upd (upd (upd H P (.lst (colP ({ t with pl := t.pl + 1 } :: r)))) q oq) S (.lst (colS ({ t with pl := t.pl + 1 } :: r) ++ [v]))) P (.lst (colP ({ t with pl := t.pl + 1 } :: r) ++ [V.int 0]))) e (.lst [])) R (.lst (colR ({ t with pl := t.pl + 1 } :: r) ++ [V.ref e]))) := by
    refine (keeps_lst M.hP).trans ((keeps_new hq).trans ((keeps_lst (xs := colS (t :: r)) ?_).trans ((keeps_lst (xs := colP ({ t with pl := t.pl + 1 } :: r)) ?_).trans ((keeps_new he).trans (keeps_lst (xs := colR (t :: r)) ?_)))))
    · rw [upd_ne qS, upd_ne M.nSP]; exact M.hS
    · rw [upd_ne M.nSP.symm, upd_ne qP.symm, upd_same]
    · rw [upd_ne eR, upd_ne M.nPR.symm, upd_ne M.nSR.symm, upd_ne qR, upd_ne M.nPR.symm]; exact M.hR
  have nd := M.nd
  simp only [List.map_cons, List.nodup_cons] at nd
  have hlt : t.pl < t.its.length := (List.getElem?_eq_some_iff.mp hc).1
  have hd := szAll_drop hc
  have hs := sz_kids kc
  have hm : c ∈ t.its := List.mem_of_getElem? hc
  refine ⟨⟨?_, ?_, ?_, ?_, M.nSP, M.nSR, M.nPR, ?_, ?_, ?_, M.fS, M.fP, M.fR, ⟨src_of hv kc, ?_, ?_⟩, ?_, ?_, ?_⟩, ?_⟩
  · rw [upd_ne M.nSR, upd_ne eS.symm, upd_ne M.nSP, upd_same]; simp [colS]
  · rw [upd_ne M.nPR, upd_ne eP.symm, upd_same]; simp [colP]
  · rw [upd_same]; simp [colR]
  · intro x hx
    rcases List.mem_cons.mp hx with rfl | hx
    · rw [upd_ne eR.symm, upd_same]
    · have xx : ∃ y ∈ t :: r, y.rs = x.rs ∧ y.vl = x.vl := by
        rcases List.mem_cons.mp hx with rfl | hx
        · exact ⟨t, by simp, rfl, rfl⟩
        · exact ⟨x, by simp [hx], rfl, rfl⟩
      obtain ⟨y, hy, y1, y2⟩ := xx
      obtain ⟨xS, xP, xR, x1⟩ := M.out y hy
      have xv := M.hv y hy
      rw [← y1, ← y2, upd_ne xR, upd_ne (ne_of_none xv hen), upd_ne xP, upd_ne xS, upd_ne (ne_of_none xv hqn), upd_ne xP]
      exact xv
  · simp only [List.map_cons, List.nodup_cons, List.mem_cons, not_or]
    refine ⟨⟨fun z => ?_, fun z => ?_⟩, nd⟩
    · have := M.hv t (by simp)
      rw [← z, hen] at this
      cases this
    · obtain ⟨y, hy, z⟩ := List.mem_map.mp z
      have := M.hv y (by simp [hy])
      rw [z, hen] at this
      cases this
  · intro x hx
    rcases List.mem_cons.mp hx with rfl | hx
    · exact ⟨eS, eP, eR.symm, e1⟩
    · rcases List.mem_cons.mp hx with rfl | hx
      · exact M.out t (by simp)
      · exact M.out x (by simp [hx])
  · exact same_upd (same_upd (same_upd (same_upd (same_upd (same_upd M.same M.fP) q1) M.fS) M.fP) e1) M.fR
  · show DpAll K _ [] (fixAll (its.take 0))
    rw [List.take_zero]
    exact .nil
  · show szAll its ≤ N
    have := sz_le_all hm
    have := M.ok.2.2
    omega
  · exact Nat.zero_le _
  · exact ⟨t.pl, c, rfl, hc, kc, ⟨M.ok.1, dpAll_keep kk.1 kk.2 M.ok.2.1 (fixAll_noList _), M.ok.2.2⟩, below_keep kk.1 kk.2 M.bl⟩
  · have := M.bd
    simp only [mu, List.length_cons, List.drop_zero] at this ⊢
    omega
  · simp only [mu, List.drop_zero]
    omega
end
end K1

set_option Elab.async false
set_option linter.all false
set_option maxRecDepth 100000
set_option maxHeartbeats 4000000
namespace K1
open PySem PySem.Spec PyProof.Rows L2 Rx
/-- the built-in names that stand as they were -/
structure TxtB (mg : Str → Option Value) : Prop where
  len : mg "len" = none
  tup : mg "tuple" = none
  lst : mg "list" = none
  isi : mg "isinstance" = none
def spFrozen (K : PySem.W.Frag) : Sp := fun vs H Q _ => ∃ (v : V) (d : PyData), vs = [v] ∧ Dp K H v d ∧ sz d ≤ 1000 ∧ ∀ H' v', Same H H' → Dp K H' v' (fix d) → Q v' H'
section
variable {P : Program} {w : World} {K : PySem.W.Frag} {mg : Str → Option Value} {base : Heap}
theorem scFz : FnScope ["thing", "sources", "places", "results", "source", "place", "finished", "item"] ["thing"] (defScope sFrozen) := ⟨rfl, rfl, rfl, by decide +kernel, rfl, by decide +kernel, by decide +kernel⟩
theorem set_last (xs : List V) (v u : V) : (xs ++ [v]).set xs.length u = xs ++ [u] := by
  rw [List.set_append_right _ _ (Nat.le_refl _), Nat.sub_self]
  rfl
theorem ixN_last (n : Nat) : ixN (n + 1) (-1) = some n := by
  unfold ixN
  rw [if_neg (by decide), if_pos (by omega)]
  congr 1
  omega
theorem last_get (xs : List V) (v : V) : (xs ++ [v])[(xs ++ [v]).length - 1]? = some v := by simp
theorem ix_any {H : Hp} {x v : V} {a : Addr} {xs : List V} {i : Nat} {Q : VK} (h : SqL K H a xs ∨ SqT K H a xs) (e : x = .ref a) (hv : xs[i]? = some v) (q : Q v H) : rIx K x (.int i) H Q :=
  h.elim (fun h => .inl ⟨a, xs, _, v, e, rfl, h, atI_nat hv, q⟩) (fun h => .inr (.inl ⟨a, xs, _, v, e, rfl, h, atI_nat hv, q⟩))
theorem iteTc {c : Bool} {A B : Prop} (h : c = true) (a : A) : if c = true then A else B := by rw [if_pos h]; exact a
theorem iteFc {c : Bool} {A B : Prop} (h : c = false) (b : B) : if c = true then A else B := by rw [if_neg (by rw [h]; decide)]; exact b
theorem ok_frozen {f : Addr} {fd : FuncData} (F : Fun K "frozen" "frozen" sFrozen f fd) (T : TxtB mg) : FnOk P w K mg base CX0 1 f fd ["thing"] (spFrozen K) := by
  refine F.ok scFz (fun vs H Q E h => ?_) (fun cdv A outer s H vs Q E hr h => ?_)
  · obtain ⟨v, d, rfl, _⟩ := h
    rfl
  · obtain ⟨v, d, rfl, hv, hsz, k⟩ := h
    refine ⟨_, pss_cons (ps_set (i := 1) scFz.nd rfl (.inl rfl) (pe_lst (pa_cons (pe_lst (pa_cons (pv 0) pa_nil)) pa_nil)))
      (pss_cons (ps_set (i := 2) scFz.nd rfl (.inl rfl) (pe_lst (pa_cons pe_int pa_nil)))
      (pss_cons (ps_set (i := 3) scFz.nd rfl (.inl rfl) (pe_lst (pa_cons (pe_lst pa_nil) pa_nil)))
      (pss_cons (ps_while PassesOwn.never
        (PW.pt (pw_or (pt_cmpR op_gt (pe_callB call_len_seq (by rfl) T.len PySem.boot_len (pa_cons (pv 1) pa_nil)) pe_int (nomark _)) (pw_or1 (pt_cmpR op_eq (pe_ix ix_list (pv 2) pe_int (fun _ _ => rfl)) pe_int (nomark _)))))
        (pss_cons (ps_set (i := 4) scFz.nd rfl (.inl rfl) (pe_ix ix_list (pv 1) (pe_un un_neg pe_int) (fun _ _ => rfl)))
        (pss_cons (ps_set (i := 5) scFz.nd rfl (.inl rfl) (pe_ix ix_list (pv 2) (pe_un un_neg pe_int) (fun _ _ => rfl)))
        (pss_cons (ps_if (pt_cmpR op_eq (pv 5) (pe_callB call_len_seq (by rfl) T.len PySem.boot_len (pa_cons (pv 4) pa_nil)) (nomark _))
          (pss_cons (ps_expr (pe_bm0 PySem.F.plainAttrs_list PySem.F.slot_list_pop PySem.F.type_list_pop mt_pop (pv 1)))
          (pss_cons (ps_expr (pe_bm0 PySem.F.plainAttrs_list PySem.F.slot_list_pop PySem.F.type_list_pop mt_pop (pv 2)))
          (pss_cons (ps_set (i := 6) scFz.nd rfl (.inl rfl) (pe_callTy call_tuple_of (by rfl) T.tup (by decide +kernel) (pa_cons (pe_bm0 PySem.F.plainAttrs_list PySem.F.slot_list_pop PySem.F.type_list_pop mt_pop (pv 3)) pa_nil)))
          (pss_cons (ps_expr (pe_bm PySem.F.plainAttrs_list PySem.F.slot_list_append PySem.F.type_list_append mt_append (pe_ix ix_list (pv 3) (pe_un un_neg pe_int) (fun _ _ => rfl)) (pa_cons (pv 6) pa_nil)))
          (pss_one ps_continue))))) pss_nil)
        (pss_cons (ps_asg (pe_op op_add (pv 5) pe_int) (pg_sub (pv 2) (pe_un un_neg pe_int) set_list))
        (pss_cons (ps_set (i := 7) scFz.nd rfl (.inl rfl) (pe_ix ix_seq (pv 4) (pv 5) (fun _ _ => rfl)))
        (pss_one (ps_if (pt_val (pe_callB call_isiT (by rfl) T.isi (by decide +kernel) (pa_cons (pv 7) (pa_cons (pe_tup (pa_cons (pe_bltn (v := .ty "list") (by rfl) T.lst (by decide +kernel) rfl) (pa_cons (pe_bltn (v := .ty "tuple") (by rfl) T.tup (by decide +kernel) rfl) pa_nil))) pa_nil))))
          (pss_cons (ps_expr (pe_bm PySem.F.plainAttrs_list PySem.F.slot_list_append PySem.F.type_list_append mt_append (pv 1) (pa_cons (pv 7) pa_nil)))
          (pss_cons (ps_expr (pe_bm PySem.F.plainAttrs_list PySem.F.slot_list_append PySem.F.type_list_append mt_append (pv 2) (pa_cons pe_int pa_nil)))
          (pss_one (ps_expr (pe_bm PySem.F.plainAttrs_list PySem.F.slot_list_append PySem.F.type_list_append mt_append (pv 3) (pa_cons (pe_lst pa_nil) pa_nil))))))
          (pss_one (ps_expr (pe_bm PySem.F.plainAttrs_list PySem.F.slot_list_append PySem.F.type_list_append mt_append (pe_ix ix_list (pv 3) (pe_un un_neg pe_int) (fun _ _ => rfl)) (pa_cons (pv 7) pa_nil))))))))))))
      (pss_one (ps_ret (pe_ix ix_list (pe_ix ix_list (pv 3) pe_int (fun _ _ => rfl)) pe_int (fun _ _ => rfl))))))), ?_⟩
    refine ⟨_, rfl, (by show 1 ≤ sizeLine; decide), fun B0 hB => ⟨(by show 1 ≤ sizeLine; decide), fun S hS => ?_⟩⟩
    refine ⟨(by show 1 ≤ sizeLine; decide), fun Pp hP => ?_⟩
    refine ⟨(by show 0 ≤ sizeLine; decide), fun E1 hE => ⟨(by show 1 ≤ sizeLine; decide), fun R hR => ?_⟩⟩
    have nSB : S ≠ B0 := fun z => by rw [z, upd_same] at hS; cases hS
    have nPS : Pp ≠ S := fun z => by rw [z, upd_same] at hP; cases hP
    have hP1 : upd H B0 (.lst [v]) Pp = none := by rw [upd_ne nPS] at hP; exact hP
    have nEP : E1 ≠ Pp := fun z => by rw [z, upd_same] at hE; cases hE
    have hE1 : upd (upd H B0 (.lst [v])) S (.lst [V.ref B0]) E1 = none := by rw [upd_ne nEP] at hE; exact hE
    have nES : E1 ≠ S := fun z => by rw [z, upd_same] at hE1; cases hE1
    have hE2 : upd H B0 (.lst [v]) E1 = none := by rw [upd_ne nES] at hE1; exact hE1
    have nRE : R ≠ E1 := fun z => by rw [z, upd_same] at hR; cases hR
    have hR1 : upd (upd (upd H B0 (.lst [v])) S (.lst [V.ref B0])) Pp (.lst [V.int 0]) R = none := by rw [upd_ne nRE] at hR; exact hR
    have nRP : R ≠ Pp := fun z => by rw [z, upd_same] at hR1; cases hR1
    have hR2 : upd (upd H B0 (.lst [v])) S (.lst [V.ref B0]) R = none := by rw [upd_ne nRP] at hR1; exact hR1
    have nRS : R ≠ S := fun z => by rw [z, upd_same] at hR2; cases hR2
    have hR3 : upd H B0 (.lst [v]) R = none := by rw [upd_ne nRS] at hR2; exact hR2
    have sm : Same H (upd H B0 (.lst [v])) := same_new hB
    refine ⟨fun m σ H' => ∃ (t : Lv) (r : List Lv) (x4 x5 x6 x7 : Option V), m = mu (t :: r) ∧ σ = [some v, some (.ref S), some (.ref Pp), some (.ref R), x4, x5, x6, x7] ∧ Mid K (upd H B0 (.lst [v])) H' (sz d) (sz d + 2) d S Pp R t r,
      ⟨_, ⟨.ref B0, [d], 0, E1, []⟩, [], none, none, none, none, rfl, rfl, ?_⟩, ?_⟩
    · refine ⟨?_, ?_, ?_, ?_, nPS.symm, nRS.symm, nRP.symm, ?_, ?_, ?_, hS, hP1, hR3, ⟨⟨B0, [v], rfl, .inl (SqL.of upd_same), .cons (dp_same sm hv) .nil⟩, .nil, ?_⟩, ?_, rfl, ?_⟩
      · rw [upd_ne nRS.symm, upd_ne nES.symm, upd_ne nPS.symm, upd_same]; rfl
      · rw [upd_ne nRP.symm, upd_ne nEP.symm, upd_same]; rfl
      · rw [upd_same]; rfl
      · intro l hl
        obtain rfl : l = _ := List.mem_singleton.mp hl
        rw [upd_ne nRE.symm, upd_same]
      · simp
      · intro l hl
        obtain rfl : l = _ := List.mem_singleton.mp hl
        exact ⟨nES, nEP, nRE.symm, hE2⟩
      · exact same_upd (same_upd (same_upd (same_upd (Same.refl _) hS) hP1) hE2) hR3
      · simp [szAll]
      · exact Nat.zero_le _
      · simp [mu, szAll]
    · rintro m σ Hc ⟨t, r, x4, x5, x6, x7, rfl, rfl, M⟩
      have hS' : Hc S = some (.lst (colS r ++ [t.src])) := by rw [← colS_cons]; exact M.hS
      have hP' : Hc Pp = some (.lst (colP r ++ [V.int t.pl])) := by rw [← colP_cons]; exact M.hP
      have hR' : Hc R = some (.lst (colR r ++ [V.ref t.rs])) := by rw [← colR_cons]; exact M.hR
      by_cases hx : r = [] ∧ t.pl ≠ 0
      · obtain ⟨rfl, hx⟩ := hx
        have hits : t.its = [d] := M.bl
        have hpl : t.pl = 1 := by
          have := M.le
          rw [hits] at this
          simp at this
          omega
        have hvl := M.ok.2.1
        rw [hits, hpl] at hvl
        simp only [List.take_succ_cons, List.take_nil, fixAll] at hvl
        obtain ⟨vl0, e0, q0⟩ := dpAll_get (i := 0) hvl rfl
        refine ⟨_, rfl, S, _, rfl, .inl (SqL.of M.hS), _, _, rfl, rfl, _, rfl, iteFc ?_ ?_⟩
        · simp [colS]
        refine ⟨_, rfl, Pp, _, _, _, rfl, rfl, SqL.of hP', atI_nat (j := 0) rfl, rfl, _, rfl, iteFc ?_ ?_⟩
        · simp [hpl]
        refine ⟨_, rfl, R, _, _, _, rfl, rfl, SqL.of hR', atI_nat (j := 0) rfl, t.rs, _, _, _, rfl, rfl, SqL.of (M.hv t (by simp)), atI_nat (j := 0) e0, ?_⟩
        exact k _ _ (sm.trans M.same) q0
      · have go : r = [] → t.pl = 0 := fun z => Classical.byContradiction fun n => hx ⟨z, n⟩
        have big : ∀ n, n ≤ 1010 → n < sizeLine := fun n hn => Nat.lt_of_le_of_lt hn (by decide)
        have hLen : (t :: r).length ≤ 1002 := by have := M.bd; omega
        obtain ⟨a, xs, hsrc, hsq, hxs⟩ := M.ok.1
        have hlen := dpAll_len hxs
        have hsq' : SqL K Hc a xs ∨ SqT K Hc a xs := hsq.imp (sqL_same M.same) (sqT_same M.same)
        refine ⟨_, rfl, S, _, rfl, .inl (SqL.of M.hS), _, _, rfl, rfl, _, rfl, ite2 (fun _ => iteT ?g1) (fun hn => ?g2)⟩
        case' g2 =>
          have hr0 : r = [] := by
            cases r with
            | nil => rfl
            | cons l r => exact absurd (by simp [colS]; omega) hn
          refine ⟨_, rfl, Pp, _, _, _, rfl, rfl, SqL.of hP', atI_nat (j := 0) (v := V.int t.pl) (by rw [hr0]; rfl), rfl, _, rfl, iteTc (by simp [go hr0]) ?_⟩
        all_goals
          refine ⟨fun σ' H' => ∃ m', m' < mu (t :: r) ∧ ∃ (t' : Lv) (r' : List Lv) (x4 x5 x6 x7 : Option V), m' = mu (t' :: r') ∧ σ' = [some v, some (.ref S), some (.ref Pp), some (.ref R), x4, x5, x6, x7] ∧ Mid K (upd H B0 (.lst [v])) H' (sz d) (sz d + 2) d S Pp R t' r', fun _ _ h => h, ?_⟩
          refine ⟨_, rfl, _, rfl, S, _, _, _, rfl, rfl, SqL.of hS', atI_last _ _, ?_⟩
          refine ⟨_, rfl, _, rfl, Pp, _, _, _, rfl, rfl, SqL.of hP', atI_last _ _, ?_⟩
          refine ⟨_, rfl, _, rfl, a, xs, (by rw [hsrc]), hsq', rfl, _, rfl, ?_⟩
          refine ite2 (fun h => ?_) (fun h => ?_)
          · have hpl : t.pl = t.its.length := by
              have h2 := of_decide_eq_true h
              injection h2 with h2
              omega
            cases r with
            | nil =>
              have hits : t.its = [d] := M.bl
              have := go rfl
              rw [hits] at hpl
              simp at hpl
              omega
            | cons l r =>
              refine ⟨_, rfl, .inl ⟨rfl, _, SqL.of hS'⟩, S, _, _, rfl, rfl, hS', last_get _ _, ?_⟩
              have hP2 : upd Hc S (.lst ((colS (l :: r) ++ [t.src]).dropLast)) Pp = some (.lst (colP (l :: r) ++ [V.int t.pl])) := by rw [upd_ne nPS]; exact hP'
              refine ⟨_, rfl, .inl ⟨rfl, _, SqL.of hP2⟩, Pp, _, _, rfl, rfl, hP2, last_get _ _, ?_⟩
              have hR2' : upd (upd Hc S (.lst ((colS (l :: r) ++ [t.src]).dropLast))) Pp (.lst ((colP (l :: r) ++ [V.int t.pl]).dropLast)) R = some (.lst (colR (l :: r) ++ [V.ref t.rs])) := by rw [upd_ne nRP, upd_ne nRS]; exact hR'
              refine ⟨_, rfl, .inl ⟨rfl, _, SqL.of hR2'⟩, R, _, _, rfl, rfl, hR2', last_get _ _, ?_⟩
              obtain ⟨tS, tP, tR, t1⟩ := M.out t (by simp)
              refine ⟨t.rs, t.vl, rfl, .inl ⟨SqL.of (by rw [upd_ne tR, upd_ne tP, upd_ne tS]; exact M.hv t (by simp)), fun p hp => ?_⟩⟩
              obtain ⟨M', lt⟩ := mid_pop M hpl (List.dropLast_concat) (List.dropLast_concat) (List.dropLast_concat) hp
              obtain ⟨lS, lP, lR, l1⟩ := M.out l (by simp)
              have hR3' : upd (upd (upd (upd Hc S (.lst ((colS (l :: r) ++ [t.src]).dropLast))) Pp (.lst ((colP (l :: r) ++ [V.int t.pl]).dropLast))) R (.lst ((colR (l :: r) ++ [V.ref t.rs]).dropLast))) p (.tup t.vl) R = some (.lst (colR r ++ [V.ref l.rs])) := by
                rw [upd_ne (fun z => by rw [← z, upd_same] at hp; cases hp), upd_same, List.dropLast_concat, colR_cons]
              have hvl' : upd (upd (upd (upd Hc S (.lst ((colS (l :: r) ++ [t.src]).dropLast))) Pp (.lst ((colP (l :: r) ++ [V.int t.pl]).dropLast))) R (.lst ((colR (l :: r) ++ [V.ref t.rs]).dropLast))) p (.tup t.vl) l.rs = some (.lst l.vl) := by
                have e : upd (upd (upd Hc S (.lst ((colS (l :: r) ++ [t.src]).dropLast))) Pp (.lst ((colP (l :: r) ++ [V.int t.pl]).dropLast))) R (.lst ((colR (l :: r) ++ [V.ref t.rs]).dropLast)) l.rs = some (.lst l.vl) := by
                  rw [upd_ne lR, upd_ne lP, upd_ne lS]; exact M.hv l (by simp)
                rw [upd_ne (ne_of_none e hp)]
                exact e
              refine ⟨_, rfl, _, rfl, R, _, _, _, rfl, rfl, SqL.of hR3', atI_last _ _, .inl ⟨rfl, _, SqL.of hvl'⟩, _, rfl, l.rs, _, _, rfl, rfl, hvl', big _ (by have := below_len M.bl l (by simp); omega), ?_⟩
              exact ⟨_, lt, _, r, _, _, _, _, rfl, rfl, M'⟩
          · have hlt : t.pl < t.its.length := by
              have h2 : ¬ (V.int (t.pl : Int) = V.int (xs.length : Int)) := fun z => h (decide_eq_true z)
              have h3 : t.pl ≠ xs.length := fun z => h2 (by rw [z])
              have := M.le
              omega
            obtain ⟨c, hc⟩ : ∃ c, t.its[t.pl]? = some c := ⟨_, List.getElem?_eq_getElem hlt⟩
            obtain ⟨vi, hvi, hdp⟩ := dpAll_get hxs hc
            have eP : (colP r ++ [V.int t.pl]).set (colP r).length (V.int ((t.pl : Int) + 1)) = colP ({ t with pl := t.pl + 1 } :: r) := by
              rw [set_last, colP_cons]
              simp
            refine ⟨_, rfl, _, _, rfl, rfl, _, rfl, _, rfl, Pp, _, _, (colP r).length, rfl, rfl, hP', (by rw [List.length_append]; exact ixN_last _), ?_⟩
            have sm2 : Same (upd H B0 (.lst [v])) (upd Hc Pp (.lst ((colP r ++ [V.int t.pl]).set (colP r).length (V.int ((t.pl : Int) + 1))))) := same_upd M.same hP1
            refine ⟨_, rfl, _, rfl, ix_any (hsq.imp (sqL_same sm2) (sqT_same sm2)) hsrc hvi ?_⟩
            refine ⟨_, rfl, (by show 2 ≤ sizeLine; decide), fun q hq => ?_⟩
            have qP : q ≠ Pp := fun z => by rw [z, upd_same] at hq; cases hq
            have hqn : Hc q = none := by rw [upd_ne qP] at hq; exact hq
            have q1 : upd H B0 (.lst [v]) q = none := M.same.free hqn
            have qS : S ≠ q := ne_of_none M.hS hqn
            have qR : R ≠ q := ne_of_none M.hR hqn
            obtain ⟨ty, tx, tk⟩ := ty_dp (dp_same (same_upd (o := .tup [.ty "list", .ty "tuple"]) sm2 q1) hdp)
            refine ⟨_, q, _, ty, _, _, rfl, upd_same, .cons (.ty "list") (.cons (.ty "tuple") .nil), tx, tk, _, rfl, ?_⟩
            cases kc : kids c with
            | some its =>
              refine iteTc rfl ?_
              have hS3 : upd (upd Hc Pp (.lst ((colP r ++ [V.int t.pl]).set (colP r).length (V.int ((t.pl : Int) + 1))))) q (.tup [.ty "list", .ty "tuple"]) S = some (.lst (colS (t :: r))) := by rw [upd_ne qS, upd_ne nPS.symm]; exact M.hS
              refine ⟨_, rfl, .inl ⟨rfl, _, SqL.of hS3⟩, _, rfl, S, _, _, rfl, rfl, hS3, big _ (by rw [(col_lens _).1]; omega), ?_⟩
              have hP3 : upd (upd (upd Hc Pp (.lst ((colP r ++ [V.int t.pl]).set (colP r).length (V.int ((t.pl : Int) + 1))))) q (.tup [.ty "list", .ty "tuple"])) S (.lst (colS (t :: r) ++ [vi])) Pp = some (.lst (colP ({ t with pl := t.pl + 1 } :: r))) := by rw [upd_ne nPS, upd_ne qP.symm, upd_same, eP]
              refine ⟨_, rfl, .inl ⟨rfl, _, SqL.of hP3⟩, Pp, _, _, rfl, rfl, hP3, big _ (by rw [(col_lens _).2.1]; simp only [List.length_cons] at hLen ⊢; omega), ?_⟩
              have hR4 : upd (upd (upd (upd Hc Pp (.lst ((colP r ++ [V.int t.pl]).set (colP r).length (V.int ((t.pl : Int) + 1))))) q (.tup [.ty "list", .ty "tuple"])) S (.lst (colS (t :: r) ++ [vi]))) Pp (.lst (colP ({ t with pl := t.pl + 1 } :: r) ++ [V.int 0])) R = some (.lst (colR (t :: r))) := by
                rw [upd_ne nRP, upd_ne nRS, upd_ne qR, upd_ne nRP]; exact M.hR
              refine ⟨_, rfl, .inl ⟨rfl, _, SqL.of hR4⟩, (by show 0 ≤ sizeLine; decide), fun e he => ?_⟩
              have neR : R ≠ e := ne_of_none hR4 he
              refine ⟨R, _, _, rfl, rfl, (by rw [upd_ne neR]; exact hR4), big _ (by rw [(col_lens _).2.2]; omega), ?_⟩
              obtain ⟨M', lt⟩ := mid_push (oq := .tup [.ty "list", .ty "tuple"]) (oS := colS (t :: r) ++ [vi]) (oR := colR (t :: r) ++ [V.ref e]) M hc kc hdp eP hq (by simp [colS]) rfl (by simp [colR]) he
              exact ⟨_, lt, _, _, _, _, _, _, rfl, rfl, M'⟩
            | none =>
              refine iteFc rfl ?_
              obtain ⟨tS, tP, tR, t1⟩ := M.out t (by simp)
              have hR3' : upd (upd Hc Pp (.lst ((colP r ++ [V.int t.pl]).set (colP r).length (V.int ((t.pl : Int) + 1))))) q (.tup [.ty "list", .ty "tuple"]) R = some (.lst (colR r ++ [V.ref t.rs])) := by rw [upd_ne qR, upd_ne nRP]; exact hR'
              have ht3 : upd (upd Hc Pp (.lst ((colP r ++ [V.int t.pl]).set (colP r).length (V.int ((t.pl : Int) + 1))))) q (.tup [.ty "list", .ty "tuple"]) t.rs = some (.lst t.vl) := by rw [upd_ne (ne_of_none (M.hv t (by simp)) hqn), upd_ne tP]; exact M.hv t (by simp)
              have hvlen : t.vl.length ≤ 1000 := by
                have h1 := dpAll_len M.ok.2.1
                rw [fixAll_map, List.length_map, List.length_take] at h1
                have h2 := len_le_sz t.its
                have h3 := M.ok.2.2
                omega
              refine ⟨_, rfl, _, rfl, R, _, _, _, rfl, rfl, SqL.of hR3', atI_last _ _, .inl ⟨rfl, _, SqL.of ht3⟩, _, rfl, t.rs, _, _, rfl, rfl, ht3, big _ (by omega), ?_⟩
              obtain ⟨M', lt⟩ := mid_leaf (oq := .tup [.ty "list", .ty "tuple"]) M hc kc hdp eP hq
              exact ⟨_, lt, _, _, _, _, _, _, rfl, rfl, M'⟩
end
end K1

set_option Elab.async false
set_option linter.all false
set_option maxRecDepth 100000
set_option maxHeartbeats 4000000
namespace K1
open PySem PySem.Spec PyProof.Rows L2 Rx
abbrev sDraw : Stmt := topS 22
/-- the stream of numbers at s, its list at a, n draws made -/
def StreamAt (H : Hp) (s a : Addr) (n : Nat) : Prop := ∃ (ns : List Int) (big seed : Int), H s = some (.lst [.ref a, .int big, .int n, .int seed]) ∧ H a = some (.lst (ns.map V.int)) ∧ 0 ≤ seed ∧ seed < 2147483647
def Else2 (s a : Addr) (H H' : Hp) : Prop := ∀ b o, H b = some o → b ≠ s → b ≠ a → H' b = some o
/-- a number from 0 to below m, whichever -/
def spDraw : Sp := fun vs H Q _ => ∃ (s a : Addr) (n : Nat) (m : Int), vs = [.ref s, .int m] ∧ 0 < m ∧ m < 1000000 ∧ StreamAt H s a n ∧ n < 1000000 ∧
  ∀ (k : Int) (H' : Hp), 0 ≤ k → k < m → StreamAt H' s a (n + 1) → Else2 s a H H' → Q (.int k) H'
section
variable {P : Program} {w : World} {K : PySem.W.Frag} {mg : Str → Option Value} {base : Heap}
theorem scD : FnScope ["_law_stream", "_law_many", "_law_digit", "_law_mixed"] ["_law_stream", "_law_many"] (defScope sDraw) := ⟨rfl, rfl, rfl, by decide +kernel, rfl, by decide +kernel, by decide +kernel⟩
theorem ixs {xs : List V} (j : Nat) {v : V} (h : xs[j]? = some v) : atI xs (j : Int) = some v := atI_nat h
theorem dpInts (H : Hp) : ∀ ns : List Int, DpAll K H (ns.map V.int) (ns.map PyData.int)
  | [] => .nil
  | n :: ns => .cons (.int n) (dpInts H ns)
theorem shInts (ns : List Int) : SeqAt.shaped (.list (ns.map PyData.int)) = true := by
  have h1 : ∀ ns : List Int, PyData.canLayAll0 (ns.map PyData.int) = true ∧ PyData.depthAll (ns.map PyData.int) = 0 := by
    intro ns
    induction ns with
    | nil => simp [PyData.canLayAll0, PyData.depthAll]
    | cons n ns ih => simp [PyData.canLayAll0, PyData.depthAll, PyData.canLay0, PyData.depth, ih.1, ih.2]
  simp [SeqAt.shaped, PyData.canLay0, PyData.depth, (h1 ns).1, (h1 ns).2]
theorem ok_draw {f : Addr} {fd : FuncData} (F : Fun K "_law_draw" "_law_draw" sDraw f fd) : FnOk P w K mg base CX0 1 f fd ["_law_stream", "_law_many"] spDraw := by
  refine F.ok scD (fun vs H Q E h => ?_) (fun cdv A outer s H vs Q E hr h => ?_)
  · obtain ⟨s, a, n, m, rfl, _⟩ := h
    rfl
  · obtain ⟨st, a, n, m, rfl, m0, m1, ⟨ns, big, seed, hs, ha, s0, s1⟩, hn, k⟩ := h
    refine ⟨_, pss_cons (ps_asg (pe_op op_add (pe_ix ix_list (pv 0) pe_int (fun _ _ => rfl)) pe_int) (pg_sub (pv 0) pe_int set_list))
      (C8.pss_cut (ps_if (PW.pt (pw_and (pt_cmpR op_eq (pe_ix ix_list (pv 0) pe_int (fun _ _ => rfl)) pe_int (nomark _)) (pw_and1 (pt_cmpR (op_neD hr.units) (pe_ix ix_list (pv 0) pe_int (fun _ _ => rfl)) (pe_lst pa_nil) (nomark _)))))
        (pss_cons (ps_asg (pe_bm PySem.F.plainAttrs_list PySem.F.slot_list_pop PySem.F.type_list_pop mt_popAt (pe_ix ix_list (pv 0) pe_int (fun _ _ => rfl)) (pa_cons pe_int pa_nil)) (pg_sub (pv 0) pe_int set_list))
        (pss_one (ps_if (pt_cmpR op_lt (pe_ix ix_list (pv 0) pe_int (fun _ _ => rfl)) (pe_op op_pow pe_int pe_int) (nomark _))
          (pss_cons (ps_asg (pe_op op_mod (pe_op op_add (pe_op op_add (pe_op op_mul (pe_ix ix_list (pv 0) pe_int (fun _ _ => rfl)) pe_int) (pe_ix ix_list (pv 0) pe_int (fun _ _ => rfl))) pe_int) pe_int) (pg_sub (pv 0) pe_int set_list))
          (pss_one (ps_asg pe_int (pg_sub (pv 0) pe_int set_list)))) pss_nil))) pss_nil)
      (pss_cons (ps_if (pt_cmpR op_gt (pe_ix ix_list (pv 0) pe_int (fun _ _ => rfl)) pe_int (nomark _))
        (pss_cons (ps_set (i := 2) scD.nd rfl (.inl rfl) (pe_op op_mod (pe_ix ix_list (pv 0) pe_int (fun _ _ => rfl)) (pv 1)))
        (pss_cons (ps_asg (pe_op op_fdiv (pe_ix ix_list (pv 0) pe_int (fun _ _ => rfl)) (pv 1)) (pg_sub (pv 0) pe_int set_list))
        (pss_one (ps_ret (pv 2))))) pss_nil)
      (pss_cons (ps_set (i := 3) scD.nd rfl (.inl rfl) (pe_op op_mod (pe_op op_pow (pe_op op_add (pe_op op_add (pe_ix ix_list (pv 0) pe_int (fun _ _ => rfl)) (pe_op op_mul pe_int (pe_ix ix_list (pv 0) pe_int (fun _ _ => rfl)))) pe_int) pe_int) pe_int))
      (pss_one (ps_ret (pe_op op_mod (pe_op op_mod (pe_op op_pow (pe_op op_add (pe_op op_add (pe_op op_mul (pv 3) pe_int) (pe_op op_mul (pe_op op_mul pe_int (pe_ix ix_list (pv 0) pe_int (fun _ _ => rfl))) (pe_ix ix_list (pv 0) pe_int (fun _ _ => rfl)))) pe_int) pe_int) pe_int) (pv 1))))))), ?_⟩
    have nsa : st ≠ a := fun z => by
      rw [z, ha] at hs
      have := Option.some.inj hs
      injection this with this
      cases ns with
      | nil => simp at this
      | cons x xs => simp at this
    refine ⟨_, rfl, st, _, _, _, rfl, rfl, SqL.of hs, ixs 2 rfl, _, _, rfl, rfl, _, rfl, st, _, _, 2, rfl, rfl, hs, rfl, ?_⟩
    refine ⟨fun σ H' => ∃ (ns : List Int) (big seed : Int), σ = [some (.ref st), some (.int m), none, none] ∧ H' st = some (.lst [.ref a, .int big, .int (n + 1 : Nat), .int seed]) ∧ H' a = some (.lst (ns.map V.int)) ∧ 0 ≤ seed ∧ seed < 2147483647 ∧ Else2 st a H H', ?_, ?_⟩
    · have el0 : ∀ o, Else2 st a H (upd H st o) := fun o b u e n1 n2 => by rw [upd_ne n1]; exact e
      have ha1 : ∀ o, upd H st o a = some (.lst (ns.map V.int)) := fun o => by rw [upd_ne nsa.symm]; exact ha
      refine ⟨_, rfl, st, _, _, _, rfl, rfl, SqL.of upd_same, ixs 1 rfl, rfl, _, rfl, ite2 (fun hb => ?_) (fun hb => ?_)⟩
      · refine ⟨_, rfl, st, _, _, _, rfl, rfl, SqL.of upd_same, ixs 0 rfl, (by show 0 ≤ sizeLine; decide), fun e he => ?_⟩
        have nae : a ≠ e := ne_of_none (ha1 _) he
        have nse : st ≠ e := ne_of_none upd_same he
        refine ⟨.list (ns.map .int), .list [], .lst (SqL.of (by rw [upd_ne nae]; exact ha1 _)) (dpInts _ ns), .lst (SqL.of upd_same) .nil, shInts ns, by decide, _, rfl, ?_⟩
        have el1 : ∀ o, Else2 st a H (upd (upd H st o) e (.lst [])) := fun o b u q n1 n2 => by
          by_cases hbe : b = e
          · subst hbe
            rw [upd_ne n1] at he
            rw [q] at he
            cases he
          · rw [upd_ne hbe, upd_ne n1]; exact q
        cases ns with
        | nil =>
          refine iteFc (by simp [PyData.eqv, PyData.eqvAll]) ?_
          exact ⟨[], big, seed, rfl, (by rw [upd_ne nse, upd_same]; rfl), (by rw [upd_ne nae]; exact ha1 _), s0, s1, el1 _⟩
        | cons x xs =>
          refine iteTc (by simp [PyData.eqv, PyData.eqvAll]) ?_
          have qS : ∀ o, upd (upd H st o) e (.lst []) st = some o := fun o => by rw [upd_ne nse, upd_same]
          have qA : ∀ o, upd (upd H st o) e (.lst []) a = some (.lst ((x :: xs).map V.int)) := fun o => by rw [upd_ne nae]; exact ha1 _
          have ix0 : seqIndex? 0 (List.map V.int (x :: xs)).length = some 0 := (ixN_seq (by unfold ixN; simp)).1
          refine ⟨_, rfl, st, _, _, _, rfl, rfl, SqL.of (qS _), ixs 0 rfl, .inl ⟨rfl, _, SqL.of (qA _)⟩, a, _, 0, 0, _, rfl, rfl, qA _, by decide, by decide, ix0, rfl, ?_⟩
          have rS : ∀ o u, upd (upd (upd H st o) e (.lst [])) a u st = some o := fun o u => by rw [upd_ne nsa]; exact qS o
          refine ⟨_, rfl, st, _, _, 1, rfl, rfl, rS _ _, rfl, ?_⟩
          have el2 : ∀ o u z, Else2 st a H (upd (upd (upd (upd H st o) e (.lst [])) a u) st z) := fun o u z b v q n1 n2 => by
            rw [upd_ne n1, upd_ne n2]; exact el1 _ b v q n1 n2
          have tA : ∀ o u z, upd (upd (upd (upd H st o) e (.lst [])) a u) st z a = some u := fun o u z => by rw [upd_ne nsa.symm, upd_same]
          refine ⟨_, rfl, st, _, _, _, rfl, rfl, SqL.of upd_same, ixs 1 rfl, _, _, rfl, rfl, ⟨by decide, by decide, by decide⟩, _, _, rfl, rfl, _, rfl, ite2 (fun hb => ?_) (fun hb => ?_)⟩
          · refine ⟨_, rfl, st, _, _, _, rfl, rfl, SqL.of upd_same, ixs 3 rfl, _, _, rfl, rfl, .inl ⟨by omega, by omega⟩, _, rfl, st, _, _, _, rfl, rfl, SqL.of upd_same, ixs 1 rfl, _, _, rfl, rfl, _, _, rfl, rfl, _, _, rfl, rfl, (by show (0 : Int) < 2147483647; decide), _, rfl, st, _, _, 3, rfl, rfl, upd_same, rfl, ?_⟩
            refine ⟨_, rfl, st, _, _, 1, rfl, rfl, upd_same, rfl, ?_⟩
            rw [upd_upd, upd_upd]
            exact ⟨xs, 0, _, rfl, upd_same, tA _ _ _, Int.emod_nonneg _ (by decide), Int.emod_lt_of_pos _ (by decide), el2 _ _ _⟩
          · exact ⟨xs, x, seed, rfl, upd_same, tA _ _ _, s0, s1, el2 _ _ _⟩
      · refine iteF ⟨ns, big, seed, rfl, upd_same, ha1 _, s0, s1, el0 _⟩
    · rintro σ' H' ⟨ns, big, seed, rfl, hs, ha, s0, s1, el⟩
      have hn' : ((n + 1 : Nat) : Int) ≤ 1000000 := by omega
      have hn0 : (0 : Int) ≤ ((n + 1 : Nat) : Int) := by omega
      generalize hN : ((n + 1 : Nat) : Int) = N at hs hn' hn0
      have nsa' : st ≠ a := nsa
      refine ⟨_, rfl, st, _, _, _, rfl, rfl, SqL.of hs, ixs 1 rfl, _, _, rfl, rfl, _, rfl, ite2 (fun hb => ?_) (fun hb => ?_)⟩
      · refine ⟨_, rfl, st, _, _, _, rfl, rfl, SqL.of hs, ixs 1 rfl, _, rfl, _, _, rfl, rfl, m0, ?_⟩
        refine ⟨_, rfl, st, _, _, _, rfl, rfl, SqL.of hs, ixs 1 rfl, _, rfl, _, _, rfl, rfl, ⟨m0, (by omega)⟩, _, rfl, st, _, _, 1, rfl, rfl, hs, rfl, ?_⟩
        refine ⟨_, rfl, k _ _ (Int.emod_nonneg _ (by omega)) (Int.emod_lt_of_pos _ m0) ⟨ns, _, seed, (by rw [upd_same, ← hN]; rfl), (by rw [upd_ne nsa'.symm]; exact ha), s0, s1⟩ fun b o e n1 n2 => ?_⟩
        rw [upd_ne n1]
        exact el b o e n1 n2
      · have b1 : (0 : Int) ≤ 104729 * N ∧ 104729 * N ≤ 104729000000 := by omega
        refine ⟨_, rfl, st, _, _, _, rfl, rfl, SqL.of hs, ixs 3 rfl, _, rfl, st, _, _, _, rfl, rfl, SqL.of hs, ixs 2 rfl, _, _, rfl, rfl, .inl ⟨by decide, by decide⟩, _, _, rfl, rfl, _, _, rfl, rfl, _, _, rfl, rfl, ⟨by decide, by decide, by omega⟩, _, _, rfl, rfl, (by show (0 : Int) < 2147483629; decide), ?_⟩
        generalize hM : ((seed + 104729 * N + 17) ^ (5 : Int).toNat) % 2147483629 = M
        have c0 : 0 ≤ M := by rw [← hM]; exact Int.emod_nonneg _ (by decide)
        have c1 : M < 2147483629 := by rw [← hM]; exact Int.emod_lt_of_pos _ (by decide)
        have d0 : (0 : Int) ≤ 40503 * N ∧ 40503 * N ≤ 40503000000 := by omega
        have d1 : (0 : Int) ≤ 40503 * N * N := Int.mul_nonneg d0.1 hn0
        have d2 : 40503 * N * N ≤ 40503000000 * 1000000 := Int.mul_le_mul d0.2 hn' hn0 (by decide)
        refine ⟨_, rfl, _, _, rfl, rfl, .inl ⟨by omega, by omega⟩, _, rfl, st, _, _, _, rfl, rfl, SqL.of hs, ixs 2 rfl, _, _, rfl, rfl, .inl ⟨by decide, by decide⟩, _, rfl, st, _, _, _, rfl, rfl, SqL.of hs, ixs 2 rfl, _, _, rfl, rfl, .inl ⟨by omega, by omega⟩, _, _, rfl, rfl, _, _, rfl, rfl, _, _, rfl, rfl, ⟨by decide, by decide, by omega⟩, _, _, rfl, rfl, (by show (0 : Int) < 1000000007; decide), _, rfl, _, _, rfl, rfl, m0, ?_⟩
        exact k _ _ (Int.emod_nonneg _ (by omega)) (Int.emod_lt_of_pos _ m0) ⟨ns, big, seed, (by rw [hs, ← hN]), ha, s0, s1⟩ el
end
end K1

set_option Elab.async false
set_option linter.all false
set_option maxRecDepth 100000
set_option maxHeartbeats 4000000
namespace K1
open PySem PySem.Spec PyProof.Rows L2 Rx
abbrev sThing : Stmt := topS 23
/-- a def of the module, as its callers see it -/
structure Cal (P : Program) (w : World) (K : PySem.W.Frag) (mg : Str → Option Value) (base : Heap) (k : Nat) (x : Str) (f : Addr) (fd : FuncData) (ps : List Str) (sp : Sp) : Prop where
  ok : FnOk P w K mg base CX0 k f fd ps sp
  mg : mg x = some (.ref f)
  kp : PySem.W.keepIn K (.ref f) = true
  bi : Binds K fd ps []
/-- what was laid since H -/
def newIn (H H' : Hp) : Hp := fun b => if (H b).isSome then none else H' b
def Live (H H' : Hp) : Prop := ∀ b, H b ≠ none → H' b ≠ none
theorem newIn_at {H H' : Hp} {b : Addr} (h : H b = none) : newIn H H' b = H' b := by unfold newIn; rw [h]; rfl
theorem newIn_some {H H' : Hp} {b : Addr} {o : HO} (h : newIn H H' b = some o) : H b = none ∧ H' b = some o := by
  unfold newIn at h
  cases q : H b with
  | none => rw [q] at h; exact ⟨rfl, h⟩
  | some u => rw [q] at h; cases h
theorem newIn_same (H H' : Hp) : Same (newIn H H') H' := fun b o h => (newIn_some h).2
theorem newIn_mono {H0 H1 H1' H2 : Hp} (l : Live H0 H1) (k : ∀ b o, H1 b = none → H1' b = some o → H2 b = some o) : Same (newIn H1 H1') (newIn H0 H2) := fun b o h => by
  obtain ⟨n, q⟩ := newIn_some h
  have n0 : H0 b = none := Classical.byContradiction fun z => l b z n
  rw [newIn_at n0]
  exact k b o n q
theorem Live.refl (H : Hp) : Live H H := fun _ h => h
theorem Live.trans {H H1 H2 : Hp} (x : Live H H1) (y : Live H1 H2) : Live H H2 := fun b h => y b (x b h)
theorem Live.of_same {H H1 : Hp} (x : Same H H1) : Live H H1 := fun b h => by
  cases q : H b with
  | none => exact absurd q h
  | some o => rw [x b o q]; simp
theorem Live.upd (H : Hp) (a : Addr) (o : HO) : Live H (upd H a o) := fun b h => by
  by_cases e : b = a
  · rw [e, upd_same]; simp
  · rw [upd_ne e]; exact h
theorem Live.none {H H1 : Hp} (x : Live H H1) {b : Addr} (h : H1 b = Option.none) : H b = Option.none := Classical.byContradiction fun z => x b z h
theorem Else2.refl {s a : Addr} (H : Hp) : Else2 s a H H := fun _ _ e _ _ => e
theorem Else2.trans {s a : Addr} {H H1 H2 : Hp} (x : Else2 s a H H1) (y : Else2 s a H1 H2) : Else2 s a H H2 := fun b o e n1 n2 => y b o (x b o e n1 n2) n1 n2
theorem Else2.of_same {s a : Addr} {H H1 : Hp} (x : Same H H1) : Else2 s a H H1 := fun b o e _ _ => x b o e
theorem StreamAt.ne {H : Hp} {s a : Addr} {n : Nat} (h : StreamAt H s a n) : s ≠ a := fun z => by
  obtain ⟨ns, big, seed, h1, h2, _⟩ := h
  rw [z, h2] at h1
  have := Option.some.inj h1
  injection this with this
  cases ns <;> simp at this
theorem StreamAt.same {H H' : Hp} {s a : Addr} {n : Nat} (h : StreamAt H s a n) (e : Same H H') : StreamAt H' s a n := by
  obtain ⟨ns, big, seed, h1, h2, h3⟩ := h
  exact ⟨ns, big, seed, e _ _ h1, e _ _ h2, h3⟩
theorem StreamAt.live {H H' : Hp} {s a : Addr} {n : Nat} (h : StreamAt H' s a n) (e : Else2 s a H H') : Live H H' := fun b hb => by
  obtain ⟨ns, big, seed, h1, h2, _⟩ := h
  by_cases e1 : b = s
  · rw [e1, h1]; simp
  by_cases e2 : b = a
  · rw [e2, h2]; simp
  cases q : H b with
  | none => exact absurd q hb
  | some o => rw [e b o q e1 e2]; simp
theorem StreamAt.tr {H : Hp} {s a : Addr} {n : Nat} (h : StreamAt H s a n) : H s ≠ none ∧ H a ≠ none := by
  obtain ⟨ns, big, seed, h1, h2, _⟩ := h
  rw [h1, h2]
  simp
theorem StreamAt.upd {H : Hp} {s a b : Addr} {n : Nat} {o : HO} (h : StreamAt H s a n) (h1 : b ≠ s) (h2 : b ≠ a) : StreamAt (upd H b o) s a n := by
  obtain ⟨ns, big, seed, e1, e2, e3⟩ := h
  exact ⟨ns, big, seed, by rw [upd_ne h1.symm]; exact e1, by rw [upd_ne h2.symm]; exact e2, e3⟩
/-! ### what may be drawn -/
def menu : List PyData := [.none, .bool true, .bool false, .int 0, .int 1, .int (-7), .int (10 ^ 29), .str "", .str "a", .str "a b", .str "x,y", .int 12]
inductive Drawn : Nat → PyData → Prop where
  | leaf {n : Nat} {d : PyData} : d ∈ menu → Drawn n d
  | list {n : Nat} {xs : List PyData} : xs.length ≤ 3 → (∀ x ∈ xs, Drawn n x) → Drawn (n + 1) (.list xs)
  | tup {n : Nat} {xs : List PyData} : xs.length ≤ 3 → (∀ x ∈ xs, Drawn n x) → Drawn (n + 1) (.tuple xs)
def cost : Nat → Nat
  | 0 => 1
  | n + 1 => 3 * cost n + 3
theorem cost_pos (n : Nat) : 1 ≤ cost n := by cases n <;> simp [cost]
def spThing (K : PySem.W.Frag) (n : Nat) : Sp := fun vs H Q _ => ∃ (s a : Addr) (c : Nat), vs = [.ref s, .int n] ∧ StreamAt H s a c ∧ c + cost n ≤ 1000000 ∧
  ∀ (v : V) (d : PyData) (H' : Hp) (c' : Nat), Dp K (newIn H H') v d → Drawn n d → StreamAt H' s a c' → c' ≤ c + cost n → Else2 s a H H' → Q v H'
section
variable {P : Program} {w : World} {K : PySem.W.Frag} {mg : Str → Option Value} {base : Heap}
theorem scT : FnScope ["_law_stream", "_law_deep", "_law_parts", "_law_some", "_law_k"] ["_law_stream", "_law_deep"] (defScope sThing) := ⟨rfl, rfl, rfl, by decide +kernel, rfl, by decide +kernel, by decide +kernel⟩
def menuV : List V := [.non, .bl true, .bl false, .int 0, .int 1, .int (-7), .int (10 ^ 29), .str "", .str "a", .str "a b", .str "x,y", .int 12]
theorem menu_dp (H : Hp) : DpAll K H menuV menu := .cons .non (.cons (.bl _) (.cons (.bl _) (.cons (.int _) (.cons (.int _) (.cons (.int _) (.cons (.int _) (.cons (.str _) (.cons (.str _) (.cons (.str _) (.cons (.str _) (.cons (.int _) .nil)))))))))))
theorem menu_at (H : Hp) {k : Int} (h0 : 0 ≤ k) (h1 : k < 12) : ∃ v d, atI menuV k = some v ∧ d ∈ menu ∧ Dp K H v d := by
  obtain ⟨j, rfl⟩ := Int.eq_ofNat_of_zero_le h0
  have hj : j < menu.length := by show j < 12; omega
  obtain ⟨v, e, q⟩ := dpAll_get (menu_dp (K := K) H) (List.getElem?_eq_getElem hj)
  exact ⟨v, _, atI_nat e, List.getElem_mem hj, q⟩
theorem step_thing {n : Nat} {f fD : Addr} {fd fdD : FuncData} {spR : Sp} (F : Fun K "_law_thing" "_law_thing" sThing f fd) (T : TxtB mg) (mr : mg "range" = none)
    (CD : Cal P w K mg base 1 "_law_draw" fD fdD ["_law_stream", "_law_many"] spDraw) (CT : Cal P w K mg base (n + 1) "_law_thing" f fd ["_law_stream", "_law_deep"] spR)
    (hR : ∀ k, n = k + 1 → spR = spThing K k) : FnOk P w K mg base CX0 (n + 2) f fd ["_law_stream", "_law_deep"] (spThing K n) := by
  refine F.ok scT (fun vs H Q E h => ?_) (fun cdv A outer s H vs Q E hr h => ?_)
  · obtain ⟨s, a, c, rfl, _⟩ := h
    rfl
  · obtain ⟨st, a, c, rfl, S, hc, k⟩ := h
    have hr1 : Room 1 _ := hr.mono (Nat.le_add_left 1 n)
    refine ⟨_, C8.pss_cut (ps_if (PW.pt (pw_and (pt_cmpR op_gt (pv 1) pe_int (nomark _)) (pw_and1 (pt_cmpR op_eq (pe_call CD.ok hr1 rfl CD.mg CD.kp CD.bi .nil pass0 (pa_cons (pv 0) (pa_cons pe_int pa_nil))) pe_int (nomark _)))))
        (pss_cons (ps_setLc (i := 2) (own := [("_law_k", 4)]) (g := gName 4) (tt := tYes) rfl scT.nd rfl rfl (sw_true rfl rfl rfl (by decide +kernel))
            (pi_range1 rfl mr (pa_cons (pe_call CD.ok hr1 rfl CD.mg CD.kp CD.bi .nil pass0 (pa_cons (pv 0) (pa_cons pe_int pa_nil))) pa_nil))
            (blkOk_by (own := [("_law_k", 4)]) (N := ["_law_stream", "_law_deep", "_law_parts", "_law_some", "_law_k"]) (sc := defScope sThing) (by decide +kernel))
            (fun _ _ _ _ _ => pg_name (i := 4) scT.nd rfl (Or.inl rfl)) (fun _ _ _ _ _ => pts_nil)
            (fun _ _ _ _ _ => pe_call CT.ok hr rfl CT.mg CT.kp CT.bi .nil pass0 (pa_cons (pv 0) (pa_cons (pe_op op_sub (pv 1) pe_int) pa_nil))))
        (pss_one (ps_ret (pe_ifExp (pt_cmpR op_eq (pe_call CD.ok hr1 rfl CD.mg CD.kp CD.bi .nil pass0 (pa_cons (pv 0) (pa_cons pe_int pa_nil))) pe_int (nomark _)) (pv 2) (pe_callTy call_tuple_of (by rfl) T.tup (by decide +kernel) (pa_cons (pv 2) pa_nil)))))) pss_nil)
      (pss_cons (ps_set (i := 3) scT.nd rfl (.inl rfl) (pe_lst (pa_cons pe_non (pa_cons pe_bl (pa_cons pe_bl (pa_cons pe_int (pa_cons pe_int (pa_cons (pe_un un_neg pe_int) (pa_cons (pe_op op_pow pe_int pe_int) (pa_cons pe_str (pa_cons pe_str (pa_cons pe_str (pa_cons pe_str (pa_cons pe_int pa_nil))))))))))))))
      (pss_one (ps_ret (pe_ix ix_list (pv 3) (pe_call CD.ok hr1 rfl CD.mg CD.kp CD.bi .nil pass0 (pa_cons (pv 0) (pa_cons pe_int pa_nil))) (fun _ _ => rfl))))), ?_⟩
    refine ⟨fun σ' H' => σ' = [some (.ref st), some (.int n), none, none, none] ∧ ∃ c', StreamAt H' st a c' ∧ c' + 1 ≤ c + cost n ∧ Else2 st a H H', ?_, ?_⟩
    · refine ⟨_, rfl, _, _, rfl, rfl, _, rfl, ite2 (fun hd => ?_) (fun hd => ?_)⟩
      · obtain ⟨d, rfl⟩ : ∃ d, n = d + 1 := by
          cases n with
          | zero => simp at hd
          | succ d => exact ⟨d, rfl⟩
        have hR' := hR d rfl
        subst hR'
        have hcost : cost (d + 1) = 3 * cost d + 3 := rfl
        refine ⟨_, rfl, st, a, c, 3, rfl, by decide, by decide, S, by omega, fun k1 H1 k10 k11 S1 el1 => ⟨rfl, _, rfl, ite2 (fun hk => ?_) (fun hk => ⟨rfl, c + 1, S1, by omega, el1⟩)⟩⟩
        refine ⟨_, rfl, st, a, c + 1, 4, rfl, by decide, by decide, S1, by omega, fun k2 H2 k20 k21 S2 el2 => ⟨k2, rfl, by omega, by omega, fun D hD => ?_⟩⟩
        have el := el1.trans el2
        have L2' : Live H H2 := S2.live el
        have hDn : H D = none := L2'.none hD
        have Ds : D ≠ st := fun z => S2.tr.1 (by rw [← z]; exact hD)
        have Da : D ≠ a := fun z => S2.tr.2 (by rw [← z]; exact hD)
        refine lc_range (lo := 0) (n := k2.toNat) (fun i Hx => ∃ (vs : List V) (ds : List PyData) (cx : Nat), Hx D = some (.lst vs) ∧ DpAll K (newIn (upd H D (.lst [])) Hx) vs ds ∧ ds.length = i ∧ (∀ x ∈ ds, Drawn d x) ∧ StreamAt Hx st a cx ∧ cx ≤ c + 2 + i * cost d ∧ Else2 st a H Hx) ?_ ?_ ?_
        · exact ⟨[], [], c + 2, upd_same, .nil, rfl, (fun _ h => by cases h), S2.same (same_new hD), by omega, el.trans (.of_same (same_new hD))⟩
        · rintro i Hx hi ⟨vs, ds, cx, hx, hds, hl, hdr, Sx, hcx, elx⟩
          have hic : i * cost d ≤ 2 * cost d := Nat.mul_le_mul_right _ (by omega)
          have LD : Live (upd H D (.lst [])) Hx := fun b hb => by
            by_cases e : b = D
            · rw [e, hx]; simp
            · rw [upd_ne e] at hb
              exact Sx.live elx b hb
          refine ⟨rfl, ?_⟩
          dsimp only [tYes]
          rw [if_pos rfl]
          refine ⟨_, rfl, _, rfl, _, _, rfl, rfl, st, a, cx, (by show [V.ref st, V.int (((d + 1 : Nat) : Int) - 1)] = _; rw [show (((d + 1 : Nat) : Int) - 1) = (d : Int) by omega]), Sx, by omega, fun v dd H4 c4 hv hdd S4 hc4 el4 => ?_⟩
          have h4D : H4 D = some (.lst vs) := el4 D _ hx Ds Da
          have vlen : vs.length ≤ 3 := by rw [dpAll_len hds]; omega
          refine ⟨vs, h4D, Nat.lt_of_le_of_lt vlen (by decide), vs ++ [v], ds ++ [dd], c4, upd_same, dpAll_app (dpAll_same (newIn_mono (Live.refl _) fun b o n q => ?_) hds) (.cons (dp_same (newIn_mono LD fun b o n q => ?_) hv) .nil), (by rw [List.length_append, hl]; rfl), ?_, S4.upd Ds Da, ?_, fun b o e n1 n2 => ?_⟩
          · have bD : b ≠ D := fun z => by rw [z, upd_same] at n; cases n
            rw [upd_ne bD] at n
            rw [upd_ne bD]
            exact el4 b o q (fun z => S.tr.1 (by rw [← z]; exact n)) (fun z => S.tr.2 (by rw [← z]; exact n))
          · have bD : b ≠ D := fun z => by rw [z, hx] at n; cases n
            rw [upd_ne bD]
            exact q
          · intro x hx'
            rcases List.mem_append.mp hx' with h | h
            · exact hdr x h
            · rw [List.mem_singleton.mp h]; exact hdd
          · rw [Nat.add_mul]
            omega
          · have bD : b ≠ D := ne_of_none e hDn
            rw [upd_ne bD]
            exact el4 b o (elx b o e n1 n2) n1 n2
        · rintro Hx ⟨vs, ds, cx, hx, hds, hl, hdr, Sx, hcx, elx⟩
          have hl3 : ds.length ≤ 3 := by omega
          have hic : k2.toNat * cost d ≤ 3 * cost d := Nat.mul_le_mul_right _ (by omega)
          have up : ∀ (H3 : Hp), Else2 st a Hx H3 → Same (newIn (upd H D (.lst [])) Hx) (newIn H H3) := fun H3 el3 => newIn_mono (Live.upd H D _) fun b o n q => by
            have bD : b ≠ D := fun z => by rw [z, upd_same] at n; cases n
            rw [upd_ne bD] at n
            exact el3 b o q (fun z => S.tr.1 (by rw [← z]; exact n)) (fun z => S.tr.2 (by rw [← z]; exact n))
          refine ⟨_, rfl, st, a, cx, 2, rfl, by decide, by decide, Sx, by omega, fun k3 H3 k30 k31 S3 el3 => ⟨rfl, _, rfl, ite2 (fun _ => ⟨_, rfl, ?_⟩) (fun _ => ⟨_, rfl, D, vs, rfl, .inl ⟨SqL.of (el3 D _ hx Ds Da), fun p hp => ?_⟩⟩)⟩⟩
          · exact k (.ref D) (.list ds) H3 (cx + 1) (.lst (SqL.of (by rw [newIn_at hDn]; exact el3 D _ hx Ds Da)) (dpAll_same (up H3 el3) hds)) (.list hl3 hdr) S3 (by omega) (elx.trans el3)
          · have el4 : Else2 st a Hx (upd H3 p (.tup vs)) := el3.trans (.of_same (same_new hp))
            have hpn : H p = none := (S3.live (elx.trans el3)).none hp
            exact k (.ref p) (.tuple ds) (upd H3 p (.tup vs)) (cx + 1) (.tup (SqT.of (by rw [newIn_at hpn, upd_same])) (dpAll_same (up _ el4) hds)) (.tup hl3 hdr) (S3.same (same_new hp)) (by omega) (elx.trans el4)
      · refine iteF ⟨rfl, c, S, by have := cost_pos n; omega, .refl H⟩
    · rintro σ' H' ⟨rfl, c', S', hc', el'⟩
      refine ⟨_, rfl, _, _, rfl, rfl, ⟨by decide, by decide, by decide⟩, (by show 12 ≤ sizeLine; decide), fun l hl => ?_⟩
      have ls : l ≠ st := fun z => S'.tr.1 (by rw [← z]; exact hl)
      have la : l ≠ a := fun z => S'.tr.2 (by rw [← z]; exact hl)
      refine ⟨_, rfl, _, rfl, st, a, c', 12, rfl, by decide, by decide, S'.same (same_new hl), by omega, fun k1 H1 k10 k11 S1 el1 => ?_⟩
      obtain ⟨v, d, e1, e2, e3⟩ := menu_at (K := K) (newIn H H1) k10 k11
      refine ⟨l, menuV, k1, v, rfl, rfl, SqL.of (el1 l _ upd_same ls la), e1, ?_⟩
      exact k v d H1 (c' + 1) e3 (.leaf e2) S1 (by omega) (el'.trans ((Else2.of_same (same_new hl)).trans el1))
theorem fn_none {f : Addr} {fd : FuncData} {ps : List Str} {k : Nat} : FnOk P w K mg base CX0 k f fd ps (fun _ _ _ _ => False) := ⟨fun _ _ _ _ h => h.elim, fun _ _ _ _ _ _ _ _ _ _ _ _ _ h => h.elim⟩
theorem ok_thing {f fD : Addr} {fd fdD : FuncData} (F : Fun K "_law_thing" "_law_thing" sThing f fd) (T : TxtB mg) (mr : mg "range" = none) (mt : mg "_law_thing" = some (.ref f)) (bi : Binds K fd ["_law_stream", "_law_deep"] [])
    (CD : Cal P w K mg base 1 "_law_draw" fD fdD ["_law_stream", "_law_many"] spDraw) : ∀ n, Cal P w K mg base (n + 2) "_law_thing" f fd ["_law_stream", "_law_deep"] (spThing K n)
  | 0 => ⟨step_thing F T mr CD ⟨fn_none, mt, F.kp, bi⟩ (fun k h => by cases h), mt, F.kp, bi⟩
  | n + 1 => ⟨step_thing F T mr CD (ok_thing F T mr mt bi CD n) (fun k h => by cases h; rfl), mt, F.kp, bi⟩
end
end K1

set_option Elab.async false
set_option linter.all false
set_option maxRecDepth 100000
set_option maxHeartbeats 4000000
namespace K1
open PySem PySem.Spec PyProof.Rows L2 Rx
abbrev sFixed : Stmt := topS 24
theorem pi_or {X : Cx} {tg e : Expr} {w1 w2 : TI} (h1 : PI X tg e w1) (h2 : PI X tg e w2) : PI X tg e (fun σ H R => w1 σ H R ∨ w2 σ H R) := ⟨fun pins s σ H R I h => h.elim (h1.run pins s σ H R I) (h2.run pins s σ H R I)⟩
theorem depth_le_all : ∀ {xs : List PyData} {c : PyData}, c ∈ xs → c.depth ≤ PyData.depthAll xs
  | [], _, h => by cases h
  | x :: xs, c, h => by
    rcases List.mem_cons.mp h with rfl | h
    · simp only [PyData.depthAll]
      omega
    · have := depth_le_all h
      simp only [PyData.depthAll]
      omega
theorem depth_kids {c : PyData} {xs : List PyData} (h : kids c = some xs) : c.depth = PyData.depthAll xs + 1 := by
  cases c <;> simp [kids] at h <;> subst h <;> simp [PyData.depth]
def spFixed (K : PySem.W.Frag) (n : Nat) : Sp := fun vs H Q _ => ∃ (v : V) (d : PyData), vs = [v] ∧ Dp K H v d ∧ d.depth ≤ n ∧ sz d ≤ 1000 ∧ ∀ H' v', Same H H' → Dp K H' v' (fix d) → Q v' H'
section
variable {P : Program} {w : World} {K : PySem.W.Frag} {mg : Str → Option Value} {base : Heap}
theorem ty_dp2 {H : Hp} {v : V} {c : PyData} (h : Dp K H v c) : ∃ t, TyX K H v t ∧ PySem.W.kitAny K t [.type "tuple", .type "list"] = some (kids c).isSome := by
  have no : ∀ t : String, kitB t "list" = some false → kitB t "tuple" = some false → PySem.W.kitAny K (.type t) [.type "tuple", .type "list"] = some false := fun t h1 h2 =>
    kitAny_cons (kit_ty h2) (fun _ => kitAny_cons (kit_ty h1) (fun _ => kitAny_nil) (fun z => nomatch z)) (fun z => nomatch z)
  have yt : PySem.W.kitAny K (.type "tuple") [.type "tuple", .type "list"] = some true := kitAny_cons (b := true) (kit_ty (by decide +kernel)) (fun z => nomatch z) (fun _ => rfl)
  have yl : PySem.W.kitAny K (.type "list") [.type "tuple", .type "list"] = some true :=
    kitAny_cons (b := false) (kit_ty (by decide +kernel)) (fun _ => kitAny_cons (b := true) (kit_ty (by decide +kernel)) (fun z => nomatch z) (fun _ => rfl)) (fun z => nomatch z)
  cases h with
  | non => exact ⟨_, .base .non, no _ (by decide +kernel) (by decide +kernel)⟩
  | bl b => exact ⟨_, .base (.bl b), no _ (by decide +kernel) (by decide +kernel)⟩
  | int i => exact ⟨_, .base (.int i), no _ (by decide +kernel) (by decide +kernel)⟩
  | str x => exact ⟨_, .base (.str x), no _ (by decide +kernel) (by decide +kernel)⟩
  | lst h1 _ =>
    refine ⟨.type "list", ?_, yl⟩
    rcases h1 with (h | ⟨o, h⟩) | ⟨o, its, n, h, hc, _⟩
    · exact .base (.lst h)
    · exact .base (.frz h)
    · exact .kList h hc
  | tup h1 _ =>
    refine ⟨.type "tuple", ?_, yt⟩
    rcases h1 with (h | ⟨o, h⟩) | ⟨o, its, n, h, hc, _⟩
    · exact .base (.tup h)
    · exact .fTuple h
    · exact .kTuple h hc
theorem scF : FnScope ["_law_thing_here", "_law_part"] ["_law_thing_here"] (defScope sFixed) := ⟨rfl, rfl, rfl, by decide +kernel, rfl, by decide +kernel, by decide +kernel⟩
theorem step_fixed {n : Nat} {f : Addr} {fd : FuncData} {spR : Sp} (F : Fun K "_law_fixed" "_law_fixed" sFixed f fd) (T : TxtB mg)
    (CT : Cal P w K mg base n "_law_fixed" f fd ["_law_thing_here"] spR) (hR : ∀ k, n = k + 1 → spR = spFixed K k) : FnOk P w K mg base CX0 (n + 1) f fd ["_law_thing_here"] (spFixed K n) := by
  refine F.ok scF (fun vs H Q E h => ?_) (fun cdv A outer s H vs Q E hr h => ?_)
  · obtain ⟨v, d, rfl, _⟩ := h
    rfl
  · obtain ⟨v, d, rfl, hv, hdp, hsz, k⟩ := h
    refine ⟨_, pss_cons (ps_if (pt_val (pe_callB call_isiT (by rfl) T.isi (by decide +kernel) (pa_cons (pv 0) (pa_cons (pe_tup (pa_cons (pe_bltn (v := .ty "tuple") (by rfl) T.tup (by decide +kernel) rfl) (pa_cons (pe_bltn (v := .ty "list") (by rfl) T.lst (by decide +kernel) rfl) pa_nil))) pa_nil))))
        (pss_one (ps_ret (pe_callTy call_tuple_of (by rfl) T.tup (by decide +kernel) (pa_cons (pe_lc (own := [("_law_part", 1)]) (g := gName 1) (tt := tYes) rfl scF.nd (pi_or (pi_list (pv 0)) (pi_tup (pv 0)))
            (blkOk_by (own := [("_law_part", 1)]) (N := ["_law_thing_here", "_law_part"]) (sc := defScope sFixed) (by decide +kernel))
            (fun _ _ _ _ _ => pg_name (i := 1) scF.nd rfl (Or.inl rfl)) (fun _ _ _ _ _ => pts_nil)
            (fun _ _ _ _ _ => pe_call CT.ok hr rfl CT.mg CT.kp CT.bi .nil pass0 (pa_cons (pv 1) pa_nil))) pa_nil)))) pss_nil)
      (pss_one (ps_ret (pv 0))), ?_⟩
    refine ⟨_, rfl, (by show 2 ≤ sizeLine; decide), fun q hq => ?_⟩
    have smq : Same H (upd H q (.tup [.ty "tuple", .ty "list"])) := same_new hq
    obtain ⟨ty, tx, tk⟩ := ty_dp2 (dp_same smq hv)
    refine ⟨_, q, _, ty, _, _, rfl, upd_same, .cons (.ty "tuple") (.cons (.ty "list") .nil), tx, tk, _, rfl, ?_⟩
    cases kc : kids d with
    | none =>
      refine iteFc rfl ⟨_, rfl, ?_⟩
      obtain ⟨e, h⟩ := leaf_dp (H' := upd H q (.tup [.ty "tuple", .ty "list"])) hv kc
      exact k _ _ smq (by rw [e]; exact h)
    | some its =>
      refine iteTc rfl ?_
      have hdk := depth_kids kc
      have hsk := sz_kids kc
      obtain ⟨m, rfl⟩ : ∃ m, n = m + 1 := by
        cases n with
        | zero => omega
        | succ m => exact ⟨m, rfl⟩
      have hR' := hR m rfl
      subst hR'
      obtain ⟨a, xs, rfl, hsq, hxs⟩ := src_of hv kc
      have hlen := dpAll_len hxs
      have l3 := len_le_sz its
      -- the turns
      have start : ∀ D, upd H q (.tup [.ty "tuple", .ty "list"]) D = none → ∃ vs : List V, upd (upd H q (.tup [.ty "tuple", .ty "list"])) D (.lst []) D = some (.lst vs) ∧ DpAll K (upd (upd H q (.tup [.ty "tuple", .ty "list"])) D (.lst [])) vs (fixAll (its.take 0)) ∧ Same H (upd (upd H q (.tup [.ty "tuple", .ty "list"])) D (.lst [])) :=
        fun D hD => ⟨[], upd_same, by rw [List.take_zero]; exact .nil, smq.trans (same_new hD)⟩
      have fin : ∀ (D : Addr) (Hx : Hp), (∃ vs : List V, Hx D = some (.lst vs) ∧ DpAll K Hx vs (fixAll (its.take xs.length)) ∧ Same H Hx) →
          ∃ p ys, [V.ref D] = [V.ref p] ∧ ((SqL K Hx p ys ∧ ∀ l, Hx l = none → Q (.ref l) (upd Hx l (.tup ys))) ∨ (SqT K Hx p ys ∧ Q (.ref p) Hx)) := by
        rintro D Hx ⟨vs, h1, h2, h3⟩
        refine ⟨D, vs, rfl, .inl ⟨SqL.of h1, fun p hp => ?_⟩⟩
        rw [hlen, List.take_length] at h2
        refine k _ _ (h3.trans (same_new hp)) ?_
        rw [fix_kids kc]
        exact .tup (SqT.of upd_same) (dpAll_same (same_new hp) h2)
      rcases hsq with hsq | hsq
      · refine .inl ⟨_, rfl, a, rfl, ⟨xs, sqL_same smq hsq⟩, fun D hD => ?_⟩
        refine lc_list (K := K) (a := a) (xs := xs) (fun i Hx => ∃ vs : List V, Hx D = some (.lst vs) ∧ DpAll K Hx vs (fixAll (its.take i)) ∧ Same H Hx) (start D hD) (fun i Hx _ p => sqL_same p.choose_spec.2.2 hsq) ?_ (fin D)
        rintro i x Hx hxi ⟨vs, h1, h2, h3⟩
        obtain ⟨c, hc, hcd⟩ := dpAll_getV hxs hxi
        have hm : c ∈ its := List.mem_of_getElem? hc
        have hd1 := depth_le_all hm
        have hs1 := sz_le_all hm
        refine ⟨rfl, ?_⟩
        dsimp only [tYes]
        rw [if_pos rfl]
        refine ⟨_, rfl, x, c, rfl, dp_same h3 hcd, by omega, by omega, fun H4 v' sm4 hv' => ?_⟩
        have h4 := sm4 D _ h1
        have kk : Keeps H4 (upd H4 D (.lst (vs ++ [v']))) := keeps_lst h4
        have vlen : vs.length ≤ 1000 := by
          rw [dpAll_len h2, fixAll_map, List.length_map, List.length_take]
          omega
        refine ⟨vs, h4, Nat.lt_of_le_of_lt vlen (by decide), vs ++ [v'], upd_same, ?_, same_upd (h3.trans sm4) (smq.free hD)⟩
        rw [show its.take (i + 1) = its.take i ++ [c] by rw [List.take_add_one, hc]; rfl, fixAll_map, List.map_append, ← fixAll_map]
        exact dpAll_app (dpAll_keep kk.1 kk.2 (dpAll_same sm4 h2) (fixAll_noList _)) (.cons (dp_keep kk.1 kk.2 hv' (fix_noList _)) .nil)
      · refine .inr ⟨_, rfl, a, rfl, ⟨xs, sqT_same smq hsq⟩, fun D hD => ?_⟩
        refine lc_tup (K := K) (a := a) (xs := xs) (fun i Hx => ∃ vs : List V, Hx D = some (.lst vs) ∧ DpAll K Hx vs (fixAll (its.take i)) ∧ Same H Hx) (start D hD) (fun i Hx _ p => sqT_same p.choose_spec.2.2 hsq) ?_ (fin D)
        rintro i x Hx hxi ⟨vs, h1, h2, h3⟩
        obtain ⟨c, hc, hcd⟩ := dpAll_getV hxs hxi
        have hm : c ∈ its := List.mem_of_getElem? hc
        have hd1 := depth_le_all hm
        have hs1 := sz_le_all hm
        refine ⟨rfl, ?_⟩
        dsimp only [tYes]
        rw [if_pos rfl]
        refine ⟨_, rfl, x, c, rfl, dp_same h3 hcd, by omega, by omega, fun H4 v' sm4 hv' => ?_⟩
        have h4 := sm4 D _ h1
        have kk : Keeps H4 (upd H4 D (.lst (vs ++ [v']))) := keeps_lst h4
        have vlen : vs.length ≤ 1000 := by
          rw [dpAll_len h2, fixAll_map, List.length_map, List.length_take]
          omega
        refine ⟨vs, h4, Nat.lt_of_le_of_lt vlen (by decide), vs ++ [v'], upd_same, ?_, same_upd (h3.trans sm4) (smq.free hD)⟩
        rw [show its.take (i + 1) = its.take i ++ [c] by rw [List.take_add_one, hc]; rfl, fixAll_map, List.map_append, ← fixAll_map]
        exact dpAll_app (dpAll_keep kk.1 kk.2 (dpAll_same sm4 h2) (fixAll_noList _)) (.cons (dp_keep kk.1 kk.2 hv' (fix_noList _)) .nil)
theorem ok_fixed {f : Addr} {fd : FuncData} (F : Fun K "_law_fixed" "_law_fixed" sFixed f fd) (T : TxtB mg) (mt : mg "_law_fixed" = some (.ref f)) (bi : Binds K fd ["_law_thing_here"] []) :
    ∀ n, Cal P w K mg base (n + 1) "_law_fixed" f fd ["_law_thing_here"] (spFixed K n)
  | 0 => ⟨step_fixed F T ⟨fn_none, mt, F.kp, bi⟩ (fun k h => by cases h), mt, F.kp, bi⟩
  | n + 1 => ⟨step_fixed F T (ok_fixed F T mt bi n) (fun k h => by cases h; rfl), mt, F.kp, bi⟩
end
end K1

set_option Elab.async false
set_option linter.all false
set_option maxRecDepth 100000
set_option maxHeartbeats 4000000
namespace K1
open PySem PySem.Spec PyProof.Rows L2 Rx
/-! ### the __init__ of an error -/
structure SupFn (K : PySem.W.Frag) (qual : Str) (st : Stmt) (f cda cc : Addr) (fd : FuncData) : Prop where
  ex : ∃ (oc : Value) (od : Option Addr) (kV doc pm : Value) (an : Option Addr) (ct : Value) (osl : Array (Option Value)),
    fd = PySem.W.ksFn "__init__" qual (defArgs st) (defBody st) (defScope st) .none kV doc pm an (.ref cda) ct cc ∧ K.lookup f = some ⟨oc, od, .func fd, osl⟩ ∧ PySem.W.codeIn K (.ref cda) qual = true
/-- the arguments' data are kept under the fields' names, lists turned into tuples -/
def spInit (K : PySem.W.Frag) (C : Addr) (fs : List Str) : Sp := fun vs H Q _ => ∃ (a : Addr) (ws : List V) (ds : List PyData), vs = .ref a :: ws ∧ ws.length = fs.length ∧ H a = some (exo a C none) ∧ DpAll K H ws ds ∧ (∀ d ∈ ds, sz d ≤ 1000) ∧
  ∀ (H' : Hp) (dx : Addr) (us : List V), H' a = some (exo a C (some dx)) → H' dx = some (exd dx (fs.zip us).reverse) → DpAll K H' us (fixAll ds) → (∀ b o, H b = some o → b ≠ a → H' b = some o) → us.length = fs.length → Q .non H'
theorem spInit_self {K : PySem.W.Frag} {C : Addr} {fs : List Str} : ∀ vs H Q E, spInit K C fs vs H Q E → ∃ a ws, vs = .ref a :: ws ∧ H a = some (exo a C none) := fun vs H Q E h => by
  obtain ⟨a, ws, ds, e, _, h, _⟩ := h
  exact ⟨a, ws, e, h⟩
theorem spInit_len {K : PySem.W.Frag} {C : Addr} {fs : List Str} : ∀ vs H Q E, spInit K C fs vs H Q E → vs.length = ("self" :: fs : List Str).length := fun vs H Q E h => by
  obtain ⟨a, ws, ds, rfl, e, _⟩ := h
  rw [List.length_cons, List.length_cons, e]
theorem keeps_ext {H : Hp} {a : Addr} {φ : Heap → Prop} {o : HO} (h : H a = some (.ext φ)) : Keeps H (upd H a o) :=
  ⟨fun b ys e => by rw [upd_ne (ne_of e h (by intro z; cases z))]; exact e, fun b ob u e => by rw [upd_ne (ne_of e h (by intro z; cases z))]; exact e⟩
theorem Keeps.of_same {H H' : Hp} (h : Same H H') : Keeps H H' := ⟨fun a xs => h a _, fun a o u => h a _⟩
theorem SupFn.ok {CX : CXT} {P : Program} {w : World} {K : PySem.W.Frag} {mg : Str → Option Value} {base : Heap} {k : Nat} {f C cda cc : Addr} {qual : Str} {st : Stmt} {fd : FuncData} {N ps : List Str} {sp : Sp} {p0 p1 p2 p3 p4 : Pos} {rest : List Stmt} {ar : Arg}
    (F : SupFn K qual st f cda cc fd) (S : ScopeS N ps (defScope st)) (T : SupC P K C cda cc) (hb : defBody st = .Expr (.Call (.Attribute (.Call (.Name "super" p0) [] [] p1) "__init__" p2) [] [] p3) p4 :: rest)
    (hp : ((defArgs st).posonlyargs ++ (defArgs st).args).head? = some ar) (hps : ps[0]? = some ar.arg) (len : ∀ vs H Q E, sp vs H Q E → vs.length = ps.length) (slf : ∀ vs H Q E, sp vs H Q E → ∃ a ws, vs = .ref a :: ws ∧ H a = some (exo a C none))
    (hi : ∀ L, interactive (PySem.W.ksEnv qual (defScope st) L f (.ref cda) cc) = false)
    (hsw : ∀ L, swapsWith (.Call (.Attribute (.Call (.Name "super" p0) [] [] p1) "__init__" p2) [] [] p3) none p4.line (PySem.W.ksEnv qual (defScope st) L f (.ref cda) cc) = pure false)
    (he : ∀ L, ∃ pl : Sem Bool, eval (.Call (.Attribute (.Call (.Name "super" p0) [] [] p1) "__init__" p2) [] [] p3) (PySem.W.ksEnv qual (defScope st) L f (.ref cda) cc) = (do
      let ov ← attributeBase (.Call (.Name "super" p0) [] [] p1) "__init__" (PySem.W.ksEnv qual (defScope st) L f (.ref cda) cc) (eval (.Call (.Name "super" p0) [] [] p1) (PySem.W.ksEnv qual (defScope st) L f (.ref cda) cc))
      standAt p2.atName
      let (fx, first) ← holding [ov] (getMethod ov "__init__" pl)
      callWith p3 fx first (backTo p3 (starEach [] (PySem.W.ksEnv qual (defScope st) L f (.ref cda) cc))) []))
    (hbody : ∀ (A : Around) (outer : List Env) (s : Shared) (H : Hp) (vs : List V) (Q : VK) (E : XK), Room k (A.deeper (PySem.W.ksEnv qual (defScope st) s.heap.objs.size f (.ref cda) cc)) → sp vs H Q E →
      ∃ t, PSs (cxS CX P w K mg base N qual (defScope st) f (.ref cda) cc A outer s H E) rest t ∧ t { nx := fun _ H' => Q .non H', rt := Q } (L2.start N vs) H) : FnOk P w K mg base CX (k + 1) f fd ps sp := by
  obtain ⟨oc, od, kV, doc, pm, an, ct, osl, rfl, lk, hcd⟩ := F.ex
  rw [hb] at lk ⊢
  exact fn_super lk hcd S T hp hps len slf hbody hi hsw he
mutual
theorem dp_but {K : PySem.W.Frag} {H H' : Hp} {a : Addr} {φ : Heap → Prop} (ha : H a = some (.ext φ)) (k : ∀ b o, H b = some o → b ≠ a → H' b = some o) : ∀ {v : V} {d : PyData}, Dp K H v d → Dp K H' v d
  | _, _, .non => .non
  | _, _, .bl b => .bl b
  | _, _, .int i => .int i
  | _, _, .str x => .str x
  | _, _, .lst h1 h2 => .lst (by
      rcases h1 with (h | ⟨o, h⟩) | h
      · exact .inl (.inl (k _ _ h (ne_of h ha (by intro z; cases z))))
      · exact .inl (.inr ⟨o, k _ _ h (ne_of h ha (by intro z; cases z))⟩)
      · exact .inr h) (dpAll_but ha k h2)
  | _, _, .tup h1 h2 => .tup (by
      rcases h1 with (h | ⟨o, h⟩) | h
      · exact .inl (.inl (k _ _ h (ne_of h ha (by intro z; cases z))))
      · exact .inl (.inr ⟨o, k _ _ h (ne_of h ha (by intro z; cases z))⟩)
      · exact .inr h) (dpAll_but ha k h2)
theorem dpAll_but {K : PySem.W.Frag} {H H' : Hp} {a : Addr} {φ : Heap → Prop} (ha : H a = some (.ext φ)) (k : ∀ b o, H b = some o → b ≠ a → H' b = some o) : ∀ {vs : List V} {ds : List PyData}, DpAll K H vs ds → DpAll K H' vs ds
  | _, _, .nil => .nil
  | _, _, .cons h1 h2 => .cons (dp_but ha k h1) (dpAll_but ha k h2)
end
/-! ### an error that stands in the heap -/
def ErrAt (K : PySem.W.Frag) (H : Hp) (v : V) (C : Addr) (fs : List Str) (es : List PyData) : Prop := ∃ (a d : Addr) (us : List V), v = .ref a ∧ H a = some (exo a C (some d)) ∧ H d = some (exd d (fs.zip us).reverse) ∧ DpAll K H us es ∧ us.length = fs.length
theorem ErrAt.same {K : PySem.W.Frag} {H H' : Hp} {v : V} {C : Addr} {fs : List Str} {es : List PyData} (h : ErrAt K H v C fs es) (e : Same H H') : ErrAt K H' v C fs es := by
  obtain ⟨a, d, us, h1, h2, h3, h4, h5⟩ := h
  exact ⟨a, d, us, h1, e _ _ h2, e _ _ h3, dpAll_same e h4, h5⟩
theorem init_read {K : PySem.W.Frag} {C a : Addr} {fs : List Str} {H : Hp} {ws : List V} {ds : List PyData} {Q : Hp → Prop} (ha : H a = none) (hl : ws.length = fs.length) (hd : DpAll K H ws ds) (hz : ∀ d ∈ ds, sz d ≤ 1000)
    (k : ∀ H', Same H H' → ErrAt K H' (.ref a) C fs (fixAll ds) → Q H') : spInit K C fs (.ref a :: ws) (upd H a (exo a C none)) (fun v H3 => v = .non ∧ Q H3) E0 :=
  ⟨a, ws, ds, rfl, hl, upd_same, dpAll_same (same_new ha) hd, hz, fun H' dx us h1 h2 h3 h4 h5 => ⟨rfl, k H' (fun b o e => h4 b o (by rw [upd_ne (ne_of_none e ha)]; exact e) (ne_of_none e ha)) ⟨a, dx, us, rfl, h1, h2, h3, h5⟩⟩⟩
/-- how the arguments of an error bind -/
def gB {α : Type} (us ws : List α) : List α := us ++ ws.reverse
theorem vals_rev : ∀ {xs : List V} {us : List Value}, Vals xs us → Vals xs.reverse us.reverse
  | _, _, .nil => .nil
  | _, _, .cons r t => by
    rw [List.reverse_cons, List.reverse_cons]
    exact (vals_rev t).append (.cons r .nil)
theorem gB_rel {vs : List V} {us : List Value} {zs : List V} {ws : List Value} (h1 : Vals vs us) (h2 : Vals zs ws) : Vals (gB vs zs) (gB us ws) := h1.append (vals_rev h2)
/-- what the written part and the promise say of an error's class -/
structure ErrT (P : Program) (w : World) (K : PySem.W.Frag) (mg : Str → Option Value) (base : Heap) (x : Str) (C : Addr) (fs : List Str) : Prop where
  oex : OexC K C
  err : ErrC K C
  mgx : mg x = some (.ref C)
  no : ∀ f ∈ fs, PySem.W.findIn K (.ref C) f = some none
  ini : ∃ (f : Addr) (fd : FuncData), PySem.W.findIn K (.ref C) "__init__" = some (some (.ref f)) ∧ PySem.W.typeIn K (.ref f) = some (.type "function") ∧ FnOk P w K mg base CX0 2 f fd ("self" :: fs) (spInit K C fs) ∧
    KBn K fd ("self" :: fs) (fs.length + 1) [] gB gB ∧ KBn K fd ("self" :: fs) 1 fs.reverse gB gB
section
variable {P : Program} {w : World} {K : PySem.W.Frag} {mg : Str → Option Value} {base : Heap}

abbrev sBadText : Stmt := inClass (topS 4) 0
theorem scBadText : ScopeS ["self", "position"] ["self", "position"] (defScope sBadText) := ⟨rfl, rfl, rfl, by decide +kernel, rfl, by decide +kernel, by decide +kernel, by decide +kernel, rfl, rfl⟩
theorem okBadText {f C cda cc fF : Addr} {fd fdF : FuncData} (F : SupFn K "BadText.__init__" sBadText f cda cc fd) (T : SupC P K C cda cc) (CF : Cal P w K mg base 1 "frozen" fF fdF ["thing"] (spFrozen K)) (no : ∀ g ∈ (["position"] : List Str), PySem.W.findIn K (.ref C) g = some none) :
    FnOk P w K mg base CX0 2 f fd ["self", "position"] (spInit K C ["position"]) := by
  refine F.ok scBadText T rfl rfl rfl spInit_len spInit_self (fun _ => rfl) (fun _ => rfl) (fun _ => ⟨_, rfl⟩) (fun A outer s H vs Q E hr h => ?_)
  obtain ⟨a, ws, ds, rfl, hl, ha, hd, hz, k⟩ := h
  refine ⟨_, pss_one (ps_ost (pv 0) (pe_call CF.ok hr rfl CF.mg CF.kp CF.bi .nil pass0 (pa_cons (pv 1) pa_nil))), ?_⟩
  match ws, ds, hl, hd with
  | [v0], _, _, @DpAll.cons _ _ _ _ d0 _ h0 (.nil) =>
    have z0 : sz d0 ≤ 1000 := hz _ (by simp)
    refine ⟨_, rfl, v0, d0, rfl, h0, z0, fun G0 u0 s0 r0 => ⟨_, rfl, a, C, rfl, T.oex, no _ (by simp), .inl ⟨s0 _ _ ha, fun dx hdx nda => ?_⟩⟩⟩
    have e0 : ∀ b o, H b = some o → b ≠ a → upd (upd G0 dx (exd dx [("position", u0)])) a (exo a C (some dx)) b = some o := fun b o e nb => by rw [upd_ne nb, upd_ne (ne_of_none (s0 _ _ e) hdx)]; exact s0 _ _ e
    have k0 : Keeps G0 (upd (upd G0 dx (exd dx [("position", u0)])) a (exo a C (some dx))) := (keeps_new hdx).trans (keeps_ext (φ := _) (by rw [upd_ne nda.symm]; exact s0 _ _ ha))
    have r0' := dp_keep k0.1 k0.2 r0 (fix_noList _)
    have ax : upd (upd G0 dx (exd dx [("position", u0)])) a (exo a C (some dx)) a = some (exo a C (some dx)) := upd_same
    have dxx : upd (upd G0 dx (exd dx [("position", u0)])) a (exo a C (some dx)) dx = some (exd dx [("position", u0)]) := by rw [upd_ne nda, upd_same]
    have hdn : H dx = none := s0.free hdx
    generalize upd (upd G0 dx (exd dx [("position", u0)])) a (exo a C (some dx)) = L0 at e0 r0' ax dxx ⊢
    exact k L0 dx [u0] ax dxx (.cons r0' (.nil)) e0 rfl
abbrev sFault : Stmt := inClass (topS 5) 0
theorem scFault : ScopeS ["self", "reason"] ["self", "reason"] (defScope sFault) := ⟨rfl, rfl, rfl, by decide +kernel, rfl, by decide +kernel, by decide +kernel, by decide +kernel, rfl, rfl⟩
theorem okFault {f C cda cc fF : Addr} {fd fdF : FuncData} (F : SupFn K "Fault.__init__" sFault f cda cc fd) (T : SupC P K C cda cc) (CF : Cal P w K mg base 1 "frozen" fF fdF ["thing"] (spFrozen K)) (no : ∀ g ∈ (["reason"] : List Str), PySem.W.findIn K (.ref C) g = some none) :
    FnOk P w K mg base CX0 2 f fd ["self", "reason"] (spInit K C ["reason"]) := by
  refine F.ok scFault T rfl rfl rfl spInit_len spInit_self (fun _ => rfl) (fun _ => rfl) (fun _ => ⟨_, rfl⟩) (fun A outer s H vs Q E hr h => ?_)
  obtain ⟨a, ws, ds, rfl, hl, ha, hd, hz, k⟩ := h
  refine ⟨_, pss_one (ps_ost (pv 0) (pe_call CF.ok hr rfl CF.mg CF.kp CF.bi .nil pass0 (pa_cons (pv 1) pa_nil))), ?_⟩
  match ws, ds, hl, hd with
  | [v0], _, _, @DpAll.cons _ _ _ _ d0 _ h0 (.nil) =>
    have z0 : sz d0 ≤ 1000 := hz _ (by simp)
    refine ⟨_, rfl, v0, d0, rfl, h0, z0, fun G0 u0 s0 r0 => ⟨_, rfl, a, C, rfl, T.oex, no _ (by simp), .inl ⟨s0 _ _ ha, fun dx hdx nda => ?_⟩⟩⟩
    have e0 : ∀ b o, H b = some o → b ≠ a → upd (upd G0 dx (exd dx [("reason", u0)])) a (exo a C (some dx)) b = some o := fun b o e nb => by rw [upd_ne nb, upd_ne (ne_of_none (s0 _ _ e) hdx)]; exact s0 _ _ e
    have k0 : Keeps G0 (upd (upd G0 dx (exd dx [("reason", u0)])) a (exo a C (some dx))) := (keeps_new hdx).trans (keeps_ext (φ := _) (by rw [upd_ne nda.symm]; exact s0 _ _ ha))
    have r0' := dp_keep k0.1 k0.2 r0 (fix_noList _)
    have ax : upd (upd G0 dx (exd dx [("reason", u0)])) a (exo a C (some dx)) a = some (exo a C (some dx)) := upd_same
    have dxx : upd (upd G0 dx (exd dx [("reason", u0)])) a (exo a C (some dx)) dx = some (exd dx [("reason", u0)]) := by rw [upd_ne nda, upd_same]
    have hdn : H dx = none := s0.free hdx
    generalize upd (upd G0 dx (exd dx [("reason", u0)])) a (exo a C (some dx)) = L0 at e0 r0' ax dxx ⊢
    exact k L0 dx [u0] ax dxx (.cons r0' (.nil)) e0 rfl
abbrev sUnknownProcess : Stmt := inClass (topS 7) 0
theorem scUnknownProcess : ScopeS ["self", "name"] ["self", "name"] (defScope sUnknownProcess) := ⟨rfl, rfl, rfl, by decide +kernel, rfl, by decide +kernel, by decide +kernel, by decide +kernel, rfl, rfl⟩
theorem okUnknownProcess {f C cda cc fF : Addr} {fd fdF : FuncData} (F : SupFn K "UnknownProcess.__init__" sUnknownProcess f cda cc fd) (T : SupC P K C cda cc) (CF : Cal P w K mg base 1 "frozen" fF fdF ["thing"] (spFrozen K)) (no : ∀ g ∈ (["name"] : List Str), PySem.W.findIn K (.ref C) g = some none) :
    FnOk P w K mg base CX0 2 f fd ["self", "name"] (spInit K C ["name"]) := by
  refine F.ok scUnknownProcess T rfl rfl rfl spInit_len spInit_self (fun _ => rfl) (fun _ => rfl) (fun _ => ⟨_, rfl⟩) (fun A outer s H vs Q E hr h => ?_)
  obtain ⟨a, ws, ds, rfl, hl, ha, hd, hz, k⟩ := h
  refine ⟨_, pss_one (ps_ost (pv 0) (pe_call CF.ok hr rfl CF.mg CF.kp CF.bi .nil pass0 (pa_cons (pv 1) pa_nil))), ?_⟩
  match ws, ds, hl, hd with
  | [v0], _, _, @DpAll.cons _ _ _ _ d0 _ h0 (.nil) =>
    have z0 : sz d0 ≤ 1000 := hz _ (by simp)
    refine ⟨_, rfl, v0, d0, rfl, h0, z0, fun G0 u0 s0 r0 => ⟨_, rfl, a, C, rfl, T.oex, no _ (by simp), .inl ⟨s0 _ _ ha, fun dx hdx nda => ?_⟩⟩⟩
    have e0 : ∀ b o, H b = some o → b ≠ a → upd (upd G0 dx (exd dx [("name", u0)])) a (exo a C (some dx)) b = some o := fun b o e nb => by rw [upd_ne nb, upd_ne (ne_of_none (s0 _ _ e) hdx)]; exact s0 _ _ e
    have k0 : Keeps G0 (upd (upd G0 dx (exd dx [("name", u0)])) a (exo a C (some dx))) := (keeps_new hdx).trans (keeps_ext (φ := _) (by rw [upd_ne nda.symm]; exact s0 _ _ ha))
    have r0' := dp_keep k0.1 k0.2 r0 (fix_noList _)
    have ax : upd (upd G0 dx (exd dx [("name", u0)])) a (exo a C (some dx)) a = some (exo a C (some dx)) := upd_same
    have dxx : upd (upd G0 dx (exd dx [("name", u0)])) a (exo a C (some dx)) dx = some (exd dx [("name", u0)]) := by rw [upd_ne nda, upd_same]
    have hdn : H dx = none := s0.free hdx
    generalize upd (upd G0 dx (exd dx [("name", u0)])) a (exo a C (some dx)) = L0 at e0 r0' ax dxx ⊢
    exact k L0 dx [u0] ax dxx (.cons r0' (.nil)) e0 rfl
abbrev sBadInputs : Stmt := inClass (topS 8) 0
theorem scBadInputs : ScopeS ["self", "index"] ["self", "index"] (defScope sBadInputs) := ⟨rfl, rfl, rfl, by decide +kernel, rfl, by decide +kernel, by decide +kernel, by decide +kernel, rfl, rfl⟩
theorem okBadInputs {f C cda cc fF : Addr} {fd fdF : FuncData} (F : SupFn K "BadInputs.__init__" sBadInputs f cda cc fd) (T : SupC P K C cda cc) (CF : Cal P w K mg base 1 "frozen" fF fdF ["thing"] (spFrozen K)) (no : ∀ g ∈ (["index"] : List Str), PySem.W.findIn K (.ref C) g = some none) :
    FnOk P w K mg base CX0 2 f fd ["self", "index"] (spInit K C ["index"]) := by
  refine F.ok scBadInputs T rfl rfl rfl spInit_len spInit_self (fun _ => rfl) (fun _ => rfl) (fun _ => ⟨_, rfl⟩) (fun A outer s H vs Q E hr h => ?_)
  obtain ⟨a, ws, ds, rfl, hl, ha, hd, hz, k⟩ := h
  refine ⟨_, pss_one (ps_ost (pv 0) (pe_call CF.ok hr rfl CF.mg CF.kp CF.bi .nil pass0 (pa_cons (pv 1) pa_nil))), ?_⟩
  match ws, ds, hl, hd with
  | [v0], _, _, @DpAll.cons _ _ _ _ d0 _ h0 (.nil) =>
    have z0 : sz d0 ≤ 1000 := hz _ (by simp)
    refine ⟨_, rfl, v0, d0, rfl, h0, z0, fun G0 u0 s0 r0 => ⟨_, rfl, a, C, rfl, T.oex, no _ (by simp), .inl ⟨s0 _ _ ha, fun dx hdx nda => ?_⟩⟩⟩
    have e0 : ∀ b o, H b = some o → b ≠ a → upd (upd G0 dx (exd dx [("index", u0)])) a (exo a C (some dx)) b = some o := fun b o e nb => by rw [upd_ne nb, upd_ne (ne_of_none (s0 _ _ e) hdx)]; exact s0 _ _ e
    have k0 : Keeps G0 (upd (upd G0 dx (exd dx [("index", u0)])) a (exo a C (some dx))) := (keeps_new hdx).trans (keeps_ext (φ := _) (by rw [upd_ne nda.symm]; exact s0 _ _ ha))
    have r0' := dp_keep k0.1 k0.2 r0 (fix_noList _)
    have ax : upd (upd G0 dx (exd dx [("index", u0)])) a (exo a C (some dx)) a = some (exo a C (some dx)) := upd_same
    have dxx : upd (upd G0 dx (exd dx [("index", u0)])) a (exo a C (some dx)) dx = some (exd dx [("index", u0)]) := by rw [upd_ne nda, upd_same]
    have hdn : H dx = none := s0.free hdx
    generalize upd (upd G0 dx (exd dx [("index", u0)])) a (exo a C (some dx)) = L0 at e0 r0' ax dxx ⊢
    exact k L0 dx [u0] ax dxx (.cons r0' (.nil)) e0 rfl
abbrev sNotReady : Stmt := inClass (topS 9) 0
theorem scNotReady : ScopeS ["self", "name"] ["self", "name"] (defScope sNotReady) := ⟨rfl, rfl, rfl, by decide +kernel, rfl, by decide +kernel, by decide +kernel, by decide +kernel, rfl, rfl⟩
theorem okNotReady {f C cda cc fF : Addr} {fd fdF : FuncData} (F : SupFn K "NotReady.__init__" sNotReady f cda cc fd) (T : SupC P K C cda cc) (CF : Cal P w K mg base 1 "frozen" fF fdF ["thing"] (spFrozen K)) (no : ∀ g ∈ (["name"] : List Str), PySem.W.findIn K (.ref C) g = some none) :
    FnOk P w K mg base CX0 2 f fd ["self", "name"] (spInit K C ["name"]) := by
  refine F.ok scNotReady T rfl rfl rfl spInit_len spInit_self (fun _ => rfl) (fun _ => rfl) (fun _ => ⟨_, rfl⟩) (fun A outer s H vs Q E hr h => ?_)
  obtain ⟨a, ws, ds, rfl, hl, ha, hd, hz, k⟩ := h
  refine ⟨_, pss_one (ps_ost (pv 0) (pe_call CF.ok hr rfl CF.mg CF.kp CF.bi .nil pass0 (pa_cons (pv 1) pa_nil))), ?_⟩
  match ws, ds, hl, hd with
  | [v0], _, _, @DpAll.cons _ _ _ _ d0 _ h0 (.nil) =>
    have z0 : sz d0 ≤ 1000 := hz _ (by simp)
    refine ⟨_, rfl, v0, d0, rfl, h0, z0, fun G0 u0 s0 r0 => ⟨_, rfl, a, C, rfl, T.oex, no _ (by simp), .inl ⟨s0 _ _ ha, fun dx hdx nda => ?_⟩⟩⟩
    have e0 : ∀ b o, H b = some o → b ≠ a → upd (upd G0 dx (exd dx [("name", u0)])) a (exo a C (some dx)) b = some o := fun b o e nb => by rw [upd_ne nb, upd_ne (ne_of_none (s0 _ _ e) hdx)]; exact s0 _ _ e
    have k0 : Keeps G0 (upd (upd G0 dx (exd dx [("name", u0)])) a (exo a C (some dx))) := (keeps_new hdx).trans (keeps_ext (φ := _) (by rw [upd_ne nda.symm]; exact s0 _ _ ha))
    have r0' := dp_keep k0.1 k0.2 r0 (fix_noList _)
    have ax : upd (upd G0 dx (exd dx [("name", u0)])) a (exo a C (some dx)) a = some (exo a C (some dx)) := upd_same
    have dxx : upd (upd G0 dx (exd dx [("name", u0)])) a (exo a C (some dx)) dx = some (exd dx [("name", u0)]) := by rw [upd_ne nda, upd_same]
    have hdn : H dx = none := s0.free hdx
    generalize upd (upd G0 dx (exd dx [("name", u0)])) a (exo a C (some dx)) = L0 at e0 r0' ax dxx ⊢
    exact k L0 dx [u0] ax dxx (.cons r0' (.nil)) e0 rfl
abbrev sBadSender : Stmt := inClass (topS 10) 0
theorem scBadSender : ScopeS ["self", "sender"] ["self", "sender"] (defScope sBadSender) := ⟨rfl, rfl, rfl, by decide +kernel, rfl, by decide +kernel, by decide +kernel, by decide +kernel, rfl, rfl⟩
theorem okBadSender {f C cda cc fF : Addr} {fd fdF : FuncData} (F : SupFn K "BadSender.__init__" sBadSender f cda cc fd) (T : SupC P K C cda cc) (CF : Cal P w K mg base 1 "frozen" fF fdF ["thing"] (spFrozen K)) (no : ∀ g ∈ (["sender"] : List Str), PySem.W.findIn K (.ref C) g = some none) :
    FnOk P w K mg base CX0 2 f fd ["self", "sender"] (spInit K C ["sender"]) := by
  refine F.ok scBadSender T rfl rfl rfl spInit_len spInit_self (fun _ => rfl) (fun _ => rfl) (fun _ => ⟨_, rfl⟩) (fun A outer s H vs Q E hr h => ?_)
  obtain ⟨a, ws, ds, rfl, hl, ha, hd, hz, k⟩ := h
  refine ⟨_, pss_one (ps_ost (pv 0) (pe_call CF.ok hr rfl CF.mg CF.kp CF.bi .nil pass0 (pa_cons (pv 1) pa_nil))), ?_⟩
  match ws, ds, hl, hd with
  | [v0], _, _, @DpAll.cons _ _ _ _ d0 _ h0 (.nil) =>
    have z0 : sz d0 ≤ 1000 := hz _ (by simp)
    refine ⟨_, rfl, v0, d0, rfl, h0, z0, fun G0 u0 s0 r0 => ⟨_, rfl, a, C, rfl, T.oex, no _ (by simp), .inl ⟨s0 _ _ ha, fun dx hdx nda => ?_⟩⟩⟩
    have e0 : ∀ b o, H b = some o → b ≠ a → upd (upd G0 dx (exd dx [("sender", u0)])) a (exo a C (some dx)) b = some o := fun b o e nb => by rw [upd_ne nb, upd_ne (ne_of_none (s0 _ _ e) hdx)]; exact s0 _ _ e
    have k0 : Keeps G0 (upd (upd G0 dx (exd dx [("sender", u0)])) a (exo a C (some dx))) := (keeps_new hdx).trans (keeps_ext (φ := _) (by rw [upd_ne nda.symm]; exact s0 _ _ ha))
    have r0' := dp_keep k0.1 k0.2 r0 (fix_noList _)
    have ax : upd (upd G0 dx (exd dx [("sender", u0)])) a (exo a C (some dx)) a = some (exo a C (some dx)) := upd_same
    have dxx : upd (upd G0 dx (exd dx [("sender", u0)])) a (exo a C (some dx)) dx = some (exd dx [("sender", u0)]) := by rw [upd_ne nda, upd_same]
    have hdn : H dx = none := s0.free hdx
    generalize upd (upd G0 dx (exd dx [("sender", u0)])) a (exo a C (some dx)) = L0 at e0 r0' ax dxx ⊢
    exact k L0 dx [u0] ax dxx (.cons r0' (.nil)) e0 rfl
abbrev sBadEvent : Stmt := inClass (topS 12) 0
theorem scBadEvent : ScopeS ["self", "event"] ["self", "event"] (defScope sBadEvent) := ⟨rfl, rfl, rfl, by decide +kernel, rfl, by decide +kernel, by decide +kernel, by decide +kernel, rfl, rfl⟩
theorem okBadEvent {f C cda cc fF : Addr} {fd fdF : FuncData} (F : SupFn K "BadEvent.__init__" sBadEvent f cda cc fd) (T : SupC P K C cda cc) (CF : Cal P w K mg base 1 "frozen" fF fdF ["thing"] (spFrozen K)) (no : ∀ g ∈ (["event"] : List Str), PySem.W.findIn K (.ref C) g = some none) :
    FnOk P w K mg base CX0 2 f fd ["self", "event"] (spInit K C ["event"]) := by
  refine F.ok scBadEvent T rfl rfl rfl spInit_len spInit_self (fun _ => rfl) (fun _ => rfl) (fun _ => ⟨_, rfl⟩) (fun A outer s H vs Q E hr h => ?_)
  obtain ⟨a, ws, ds, rfl, hl, ha, hd, hz, k⟩ := h
  refine ⟨_, pss_one (ps_ost (pv 0) (pe_call CF.ok hr rfl CF.mg CF.kp CF.bi .nil pass0 (pa_cons (pv 1) pa_nil))), ?_⟩
  match ws, ds, hl, hd with
  | [v0], _, _, @DpAll.cons _ _ _ _ d0 _ h0 (.nil) =>
    have z0 : sz d0 ≤ 1000 := hz _ (by simp)
    refine ⟨_, rfl, v0, d0, rfl, h0, z0, fun G0 u0 s0 r0 => ⟨_, rfl, a, C, rfl, T.oex, no _ (by simp), .inl ⟨s0 _ _ ha, fun dx hdx nda => ?_⟩⟩⟩
    have e0 : ∀ b o, H b = some o → b ≠ a → upd (upd G0 dx (exd dx [("event", u0)])) a (exo a C (some dx)) b = some o := fun b o e nb => by rw [upd_ne nb, upd_ne (ne_of_none (s0 _ _ e) hdx)]; exact s0 _ _ e
    have k0 : Keeps G0 (upd (upd G0 dx (exd dx [("event", u0)])) a (exo a C (some dx))) := (keeps_new hdx).trans (keeps_ext (φ := _) (by rw [upd_ne nda.symm]; exact s0 _ _ ha))
    have r0' := dp_keep k0.1 k0.2 r0 (fix_noList _)
    have ax : upd (upd G0 dx (exd dx [("event", u0)])) a (exo a C (some dx)) a = some (exo a C (some dx)) := upd_same
    have dxx : upd (upd G0 dx (exd dx [("event", u0)])) a (exo a C (some dx)) dx = some (exd dx [("event", u0)]) := by rw [upd_ne nda, upd_same]
    have hdn : H dx = none := s0.free hdx
    generalize upd (upd G0 dx (exd dx [("event", u0)])) a (exo a C (some dx)) = L0 at e0 r0' ax dxx ⊢
    exact k L0 dx [u0] ax dxx (.cons r0' (.nil)) e0 rfl
abbrev sBadRecordLine : Stmt := inClass (topS 13) 0
theorem scBadRecordLine : ScopeS ["self", "line"] ["self", "line"] (defScope sBadRecordLine) := ⟨rfl, rfl, rfl, by decide +kernel, rfl, by decide +kernel, by decide +kernel, by decide +kernel, rfl, rfl⟩
theorem okBadRecordLine {f C cda cc fF : Addr} {fd fdF : FuncData} (F : SupFn K "BadRecordLine.__init__" sBadRecordLine f cda cc fd) (T : SupC P K C cda cc) (CF : Cal P w K mg base 1 "frozen" fF fdF ["thing"] (spFrozen K)) (no : ∀ g ∈ (["line"] : List Str), PySem.W.findIn K (.ref C) g = some none) :
    FnOk P w K mg base CX0 2 f fd ["self", "line"] (spInit K C ["line"]) := by
  refine F.ok scBadRecordLine T rfl rfl rfl spInit_len spInit_self (fun _ => rfl) (fun _ => rfl) (fun _ => ⟨_, rfl⟩) (fun A outer s H vs Q E hr h => ?_)
  obtain ⟨a, ws, ds, rfl, hl, ha, hd, hz, k⟩ := h
  refine ⟨_, pss_one (ps_ost (pv 0) (pe_call CF.ok hr rfl CF.mg CF.kp CF.bi .nil pass0 (pa_cons (pv 1) pa_nil))), ?_⟩
  match ws, ds, hl, hd with
  | [v0], _, _, @DpAll.cons _ _ _ _ d0 _ h0 (.nil) =>
    have z0 : sz d0 ≤ 1000 := hz _ (by simp)
    refine ⟨_, rfl, v0, d0, rfl, h0, z0, fun G0 u0 s0 r0 => ⟨_, rfl, a, C, rfl, T.oex, no _ (by simp), .inl ⟨s0 _ _ ha, fun dx hdx nda => ?_⟩⟩⟩
    have e0 : ∀ b o, H b = some o → b ≠ a → upd (upd G0 dx (exd dx [("line", u0)])) a (exo a C (some dx)) b = some o := fun b o e nb => by rw [upd_ne nb, upd_ne (ne_of_none (s0 _ _ e) hdx)]; exact s0 _ _ e
    have k0 : Keeps G0 (upd (upd G0 dx (exd dx [("line", u0)])) a (exo a C (some dx))) := (keeps_new hdx).trans (keeps_ext (φ := _) (by rw [upd_ne nda.symm]; exact s0 _ _ ha))
    have r0' := dp_keep k0.1 k0.2 r0 (fix_noList _)
    have ax : upd (upd G0 dx (exd dx [("line", u0)])) a (exo a C (some dx)) a = some (exo a C (some dx)) := upd_same
    have dxx : upd (upd G0 dx (exd dx [("line", u0)])) a (exo a C (some dx)) dx = some (exd dx [("line", u0)]) := by rw [upd_ne nda, upd_same]
    have hdn : H dx = none := s0.free hdx
    generalize upd (upd G0 dx (exd dx [("line", u0)])) a (exo a C (some dx)) = L0 at e0 r0' ax dxx ⊢
    exact k L0 dx [u0] ax dxx (.cons r0' (.nil)) e0 rfl
abbrev sBadLine : Stmt := inClass (topS 14) 0
theorem scBadLine : ScopeS ["self", "line"] ["self", "line"] (defScope sBadLine) := ⟨rfl, rfl, rfl, by decide +kernel, rfl, by decide +kernel, by decide +kernel, by decide +kernel, rfl, rfl⟩
theorem okBadLine {f C cda cc fF : Addr} {fd fdF : FuncData} (F : SupFn K "BadLine.__init__" sBadLine f cda cc fd) (T : SupC P K C cda cc) (CF : Cal P w K mg base 1 "frozen" fF fdF ["thing"] (spFrozen K)) (no : ∀ g ∈ (["line"] : List Str), PySem.W.findIn K (.ref C) g = some none) :
    FnOk P w K mg base CX0 2 f fd ["self", "line"] (spInit K C ["line"]) := by
  refine F.ok scBadLine T rfl rfl rfl spInit_len spInit_self (fun _ => rfl) (fun _ => rfl) (fun _ => ⟨_, rfl⟩) (fun A outer s H vs Q E hr h => ?_)
  obtain ⟨a, ws, ds, rfl, hl, ha, hd, hz, k⟩ := h
  refine ⟨_, pss_one (ps_ost (pv 0) (pe_call CF.ok hr rfl CF.mg CF.kp CF.bi .nil pass0 (pa_cons (pv 1) pa_nil))), ?_⟩
  match ws, ds, hl, hd with
  | [v0], _, _, @DpAll.cons _ _ _ _ d0 _ h0 (.nil) =>
    have z0 : sz d0 ≤ 1000 := hz _ (by simp)
    refine ⟨_, rfl, v0, d0, rfl, h0, z0, fun G0 u0 s0 r0 => ⟨_, rfl, a, C, rfl, T.oex, no _ (by simp), .inl ⟨s0 _ _ ha, fun dx hdx nda => ?_⟩⟩⟩
    have e0 : ∀ b o, H b = some o → b ≠ a → upd (upd G0 dx (exd dx [("line", u0)])) a (exo a C (some dx)) b = some o := fun b o e nb => by rw [upd_ne nb, upd_ne (ne_of_none (s0 _ _ e) hdx)]; exact s0 _ _ e
    have k0 : Keeps G0 (upd (upd G0 dx (exd dx [("line", u0)])) a (exo a C (some dx))) := (keeps_new hdx).trans (keeps_ext (φ := _) (by rw [upd_ne nda.symm]; exact s0 _ _ ha))
    have r0' := dp_keep k0.1 k0.2 r0 (fix_noList _)
    have ax : upd (upd G0 dx (exd dx [("line", u0)])) a (exo a C (some dx)) a = some (exo a C (some dx)) := upd_same
    have dxx : upd (upd G0 dx (exd dx [("line", u0)])) a (exo a C (some dx)) dx = some (exd dx [("line", u0)]) := by rw [upd_ne nda, upd_same]
    have hdn : H dx = none := s0.free hdx
    generalize upd (upd G0 dx (exd dx [("line", u0)])) a (exo a C (some dx)) = L0 at e0 r0' ax dxx ⊢
    exact k L0 dx [u0] ax dxx (.cons r0' (.nil)) e0 rfl
abbrev sBadWait : Stmt := inClass (topS 15) 0
theorem scBadWait : ScopeS ["self", "index"] ["self", "index"] (defScope sBadWait) := ⟨rfl, rfl, rfl, by decide +kernel, rfl, by decide +kernel, by decide +kernel, by decide +kernel, rfl, rfl⟩
theorem okBadWait {f C cda cc fF : Addr} {fd fdF : FuncData} (F : SupFn K "BadWait.__init__" sBadWait f cda cc fd) (T : SupC P K C cda cc) (CF : Cal P w K mg base 1 "frozen" fF fdF ["thing"] (spFrozen K)) (no : ∀ g ∈ (["index"] : List Str), PySem.W.findIn K (.ref C) g = some none) :
    FnOk P w K mg base CX0 2 f fd ["self", "index"] (spInit K C ["index"]) := by
  refine F.ok scBadWait T rfl rfl rfl spInit_len spInit_self (fun _ => rfl) (fun _ => rfl) (fun _ => ⟨_, rfl⟩) (fun A outer s H vs Q E hr h => ?_)
  obtain ⟨a, ws, ds, rfl, hl, ha, hd, hz, k⟩ := h
  refine ⟨_, pss_one (ps_ost (pv 0) (pe_call CF.ok hr rfl CF.mg CF.kp CF.bi .nil pass0 (pa_cons (pv 1) pa_nil))), ?_⟩
  match ws, ds, hl, hd with
  | [v0], _, _, @DpAll.cons _ _ _ _ d0 _ h0 (.nil) =>
    have z0 : sz d0 ≤ 1000 := hz _ (by simp)
    refine ⟨_, rfl, v0, d0, rfl, h0, z0, fun G0 u0 s0 r0 => ⟨_, rfl, a, C, rfl, T.oex, no _ (by simp), .inl ⟨s0 _ _ ha, fun dx hdx nda => ?_⟩⟩⟩
    have e0 : ∀ b o, H b = some o → b ≠ a → upd (upd G0 dx (exd dx [("index", u0)])) a (exo a C (some dx)) b = some o := fun b o e nb => by rw [upd_ne nb, upd_ne (ne_of_none (s0 _ _ e) hdx)]; exact s0 _ _ e
    have k0 : Keeps G0 (upd (upd G0 dx (exd dx [("index", u0)])) a (exo a C (some dx))) := (keeps_new hdx).trans (keeps_ext (φ := _) (by rw [upd_ne nda.symm]; exact s0 _ _ ha))
    have r0' := dp_keep k0.1 k0.2 r0 (fix_noList _)
    have ax : upd (upd G0 dx (exd dx [("index", u0)])) a (exo a C (some dx)) a = some (exo a C (some dx)) := upd_same
    have dxx : upd (upd G0 dx (exd dx [("index", u0)])) a (exo a C (some dx)) dx = some (exd dx [("index", u0)]) := by rw [upd_ne nda, upd_same]
    have hdn : H dx = none := s0.free hdx
    generalize upd (upd G0 dx (exd dx [("index", u0)])) a (exo a C (some dx)) = L0 at e0 r0' ax dxx ⊢
    exact k L0 dx [u0] ax dxx (.cons r0' (.nil)) e0 rfl
abbrev sNotLive : Stmt := inClass (topS 16) 0
theorem scNotLive : ScopeS ["self", "ring"] ["self", "ring"] (defScope sNotLive) := ⟨rfl, rfl, rfl, by decide +kernel, rfl, by decide +kernel, by decide +kernel, by decide +kernel, rfl, rfl⟩
theorem okNotLive {f C cda cc fF : Addr} {fd fdF : FuncData} (F : SupFn K "NotLive.__init__" sNotLive f cda cc fd) (T : SupC P K C cda cc) (CF : Cal P w K mg base 1 "frozen" fF fdF ["thing"] (spFrozen K)) (no : ∀ g ∈ (["ring"] : List Str), PySem.W.findIn K (.ref C) g = some none) :
    FnOk P w K mg base CX0 2 f fd ["self", "ring"] (spInit K C ["ring"]) := by
  refine F.ok scNotLive T rfl rfl rfl spInit_len spInit_self (fun _ => rfl) (fun _ => rfl) (fun _ => ⟨_, rfl⟩) (fun A outer s H vs Q E hr h => ?_)
  obtain ⟨a, ws, ds, rfl, hl, ha, hd, hz, k⟩ := h
  refine ⟨_, pss_one (ps_ost (pv 0) (pe_call CF.ok hr rfl CF.mg CF.kp CF.bi .nil pass0 (pa_cons (pv 1) pa_nil))), ?_⟩
  match ws, ds, hl, hd with
  | [v0], _, _, @DpAll.cons _ _ _ _ d0 _ h0 (.nil) =>
    have z0 : sz d0 ≤ 1000 := hz _ (by simp)
    refine ⟨_, rfl, v0, d0, rfl, h0, z0, fun G0 u0 s0 r0 => ⟨_, rfl, a, C, rfl, T.oex, no _ (by simp), .inl ⟨s0 _ _ ha, fun dx hdx nda => ?_⟩⟩⟩
    have e0 : ∀ b o, H b = some o → b ≠ a → upd (upd G0 dx (exd dx [("ring", u0)])) a (exo a C (some dx)) b = some o := fun b o e nb => by rw [upd_ne nb, upd_ne (ne_of_none (s0 _ _ e) hdx)]; exact s0 _ _ e
    have k0 : Keeps G0 (upd (upd G0 dx (exd dx [("ring", u0)])) a (exo a C (some dx))) := (keeps_new hdx).trans (keeps_ext (φ := _) (by rw [upd_ne nda.symm]; exact s0 _ _ ha))
    have r0' := dp_keep k0.1 k0.2 r0 (fix_noList _)
    have ax : upd (upd G0 dx (exd dx [("ring", u0)])) a (exo a C (some dx)) a = some (exo a C (some dx)) := upd_same
    have dxx : upd (upd G0 dx (exd dx [("ring", u0)])) a (exo a C (some dx)) dx = some (exd dx [("ring", u0)]) := by rw [upd_ne nda, upd_same]
    have hdn : H dx = none := s0.free hdx
    generalize upd (upd G0 dx (exd dx [("ring", u0)])) a (exo a C (some dx)) = L0 at e0 r0' ax dxx ⊢
    exact k L0 dx [u0] ax dxx (.cons r0' (.nil)) e0 rfl
abbrev sTooMany : Stmt := inClass (topS 17) 0
theorem scTooMany : ScopeS ["self", "most"] ["self", "most"] (defScope sTooMany) := ⟨rfl, rfl, rfl, by decide +kernel, rfl, by decide +kernel, by decide +kernel, by decide +kernel, rfl, rfl⟩
theorem okTooMany {f C cda cc fF : Addr} {fd fdF : FuncData} (F : SupFn K "TooMany.__init__" sTooMany f cda cc fd) (T : SupC P K C cda cc) (CF : Cal P w K mg base 1 "frozen" fF fdF ["thing"] (spFrozen K)) (no : ∀ g ∈ (["most"] : List Str), PySem.W.findIn K (.ref C) g = some none) :
    FnOk P w K mg base CX0 2 f fd ["self", "most"] (spInit K C ["most"]) := by
  refine F.ok scTooMany T rfl rfl rfl spInit_len spInit_self (fun _ => rfl) (fun _ => rfl) (fun _ => ⟨_, rfl⟩) (fun A outer s H vs Q E hr h => ?_)
  obtain ⟨a, ws, ds, rfl, hl, ha, hd, hz, k⟩ := h
  refine ⟨_, pss_one (ps_ost (pv 0) (pe_call CF.ok hr rfl CF.mg CF.kp CF.bi .nil pass0 (pa_cons (pv 1) pa_nil))), ?_⟩
  match ws, ds, hl, hd with
  | [v0], _, _, @DpAll.cons _ _ _ _ d0 _ h0 (.nil) =>
    have z0 : sz d0 ≤ 1000 := hz _ (by simp)
    refine ⟨_, rfl, v0, d0, rfl, h0, z0, fun G0 u0 s0 r0 => ⟨_, rfl, a, C, rfl, T.oex, no _ (by simp), .inl ⟨s0 _ _ ha, fun dx hdx nda => ?_⟩⟩⟩
    have e0 : ∀ b o, H b = some o → b ≠ a → upd (upd G0 dx (exd dx [("most", u0)])) a (exo a C (some dx)) b = some o := fun b o e nb => by rw [upd_ne nb, upd_ne (ne_of_none (s0 _ _ e) hdx)]; exact s0 _ _ e
    have k0 : Keeps G0 (upd (upd G0 dx (exd dx [("most", u0)])) a (exo a C (some dx))) := (keeps_new hdx).trans (keeps_ext (φ := _) (by rw [upd_ne nda.symm]; exact s0 _ _ ha))
    have r0' := dp_keep k0.1 k0.2 r0 (fix_noList _)
    have ax : upd (upd G0 dx (exd dx [("most", u0)])) a (exo a C (some dx)) a = some (exo a C (some dx)) := upd_same
    have dxx : upd (upd G0 dx (exd dx [("most", u0)])) a (exo a C (some dx)) dx = some (exd dx [("most", u0)]) := by rw [upd_ne nda, upd_same]
    have hdn : H dx = none := s0.free hdx
    generalize upd (upd G0 dx (exd dx [("most", u0)])) a (exo a C (some dx)) = L0 at e0 r0' ax dxx ⊢
    exact k L0 dx [u0] ax dxx (.cons r0' (.nil)) e0 rfl
abbrev sBadCut : Stmt := inClass (topS 18) 0
theorem scBadCut : ScopeS ["self", "cut"] ["self", "cut"] (defScope sBadCut) := ⟨rfl, rfl, rfl, by decide +kernel, rfl, by decide +kernel, by decide +kernel, by decide +kernel, rfl, rfl⟩
theorem okBadCut {f C cda cc fF : Addr} {fd fdF : FuncData} (F : SupFn K "BadCut.__init__" sBadCut f cda cc fd) (T : SupC P K C cda cc) (CF : Cal P w K mg base 1 "frozen" fF fdF ["thing"] (spFrozen K)) (no : ∀ g ∈ (["cut"] : List Str), PySem.W.findIn K (.ref C) g = some none) :
    FnOk P w K mg base CX0 2 f fd ["self", "cut"] (spInit K C ["cut"]) := by
  refine F.ok scBadCut T rfl rfl rfl spInit_len spInit_self (fun _ => rfl) (fun _ => rfl) (fun _ => ⟨_, rfl⟩) (fun A outer s H vs Q E hr h => ?_)
  obtain ⟨a, ws, ds, rfl, hl, ha, hd, hz, k⟩ := h
  refine ⟨_, pss_one (ps_ost (pv 0) (pe_call CF.ok hr rfl CF.mg CF.kp CF.bi .nil pass0 (pa_cons (pv 1) pa_nil))), ?_⟩
  match ws, ds, hl, hd with
  | [v0], _, _, @DpAll.cons _ _ _ _ d0 _ h0 (.nil) =>
    have z0 : sz d0 ≤ 1000 := hz _ (by simp)
    refine ⟨_, rfl, v0, d0, rfl, h0, z0, fun G0 u0 s0 r0 => ⟨_, rfl, a, C, rfl, T.oex, no _ (by simp), .inl ⟨s0 _ _ ha, fun dx hdx nda => ?_⟩⟩⟩
    have e0 : ∀ b o, H b = some o → b ≠ a → upd (upd G0 dx (exd dx [("cut", u0)])) a (exo a C (some dx)) b = some o := fun b o e nb => by rw [upd_ne nb, upd_ne (ne_of_none (s0 _ _ e) hdx)]; exact s0 _ _ e
    have k0 : Keeps G0 (upd (upd G0 dx (exd dx [("cut", u0)])) a (exo a C (some dx))) := (keeps_new hdx).trans (keeps_ext (φ := _) (by rw [upd_ne nda.symm]; exact s0 _ _ ha))
    have r0' := dp_keep k0.1 k0.2 r0 (fix_noList _)
    have ax : upd (upd G0 dx (exd dx [("cut", u0)])) a (exo a C (some dx)) a = some (exo a C (some dx)) := upd_same
    have dxx : upd (upd G0 dx (exd dx [("cut", u0)])) a (exo a C (some dx)) dx = some (exd dx [("cut", u0)]) := by rw [upd_ne nda, upd_same]
    have hdn : H dx = none := s0.free hdx
    generalize upd (upd G0 dx (exd dx [("cut", u0)])) a (exo a C (some dx)) = L0 at e0 r0' ax dxx ⊢
    exact k L0 dx [u0] ax dxx (.cons r0' (.nil)) e0 rfl
abbrev sMissing : Stmt := inClass (topS 20) 0
theorem scMissing : ScopeS ["self", "what"] ["self", "what"] (defScope sMissing) := ⟨rfl, rfl, rfl, by decide +kernel, rfl, by decide +kernel, by decide +kernel, by decide +kernel, rfl, rfl⟩
theorem okMissing {f C cda cc fF : Addr} {fd fdF : FuncData} (F : SupFn K "Missing.__init__" sMissing f cda cc fd) (T : SupC P K C cda cc) (CF : Cal P w K mg base 1 "frozen" fF fdF ["thing"] (spFrozen K)) (no : ∀ g ∈ (["what"] : List Str), PySem.W.findIn K (.ref C) g = some none) :
    FnOk P w K mg base CX0 2 f fd ["self", "what"] (spInit K C ["what"]) := by
  refine F.ok scMissing T rfl rfl rfl spInit_len spInit_self (fun _ => rfl) (fun _ => rfl) (fun _ => ⟨_, rfl⟩) (fun A outer s H vs Q E hr h => ?_)
  obtain ⟨a, ws, ds, rfl, hl, ha, hd, hz, k⟩ := h
  refine ⟨_, pss_one (ps_ost (pv 0) (pe_call CF.ok hr rfl CF.mg CF.kp CF.bi .nil pass0 (pa_cons (pv 1) pa_nil))), ?_⟩
  match ws, ds, hl, hd with
  | [v0], _, _, @DpAll.cons _ _ _ _ d0 _ h0 (.nil) =>
    have z0 : sz d0 ≤ 1000 := hz _ (by simp)
    refine ⟨_, rfl, v0, d0, rfl, h0, z0, fun G0 u0 s0 r0 => ⟨_, rfl, a, C, rfl, T.oex, no _ (by simp), .inl ⟨s0 _ _ ha, fun dx hdx nda => ?_⟩⟩⟩
    have e0 : ∀ b o, H b = some o → b ≠ a → upd (upd G0 dx (exd dx [("what", u0)])) a (exo a C (some dx)) b = some o := fun b o e nb => by rw [upd_ne nb, upd_ne (ne_of_none (s0 _ _ e) hdx)]; exact s0 _ _ e
    have k0 : Keeps G0 (upd (upd G0 dx (exd dx [("what", u0)])) a (exo a C (some dx))) := (keeps_new hdx).trans (keeps_ext (φ := _) (by rw [upd_ne nda.symm]; exact s0 _ _ ha))
    have r0' := dp_keep k0.1 k0.2 r0 (fix_noList _)
    have ax : upd (upd G0 dx (exd dx [("what", u0)])) a (exo a C (some dx)) a = some (exo a C (some dx)) := upd_same
    have dxx : upd (upd G0 dx (exd dx [("what", u0)])) a (exo a C (some dx)) dx = some (exd dx [("what", u0)]) := by rw [upd_ne nda, upd_same]
    have hdn : H dx = none := s0.free hdx
    generalize upd (upd G0 dx (exd dx [("what", u0)])) a (exo a C (some dx)) = L0 at e0 r0' ax dxx ⊢
    exact k L0 dx [u0] ax dxx (.cons r0' (.nil)) e0 rfl
abbrev sBadProgram : Stmt := inClass (topS 6) 0
theorem scBadProgram : ScopeS ["self", "line", "reason"] ["self", "line", "reason"] (defScope sBadProgram) := ⟨rfl, rfl, rfl, by decide +kernel, rfl, by decide +kernel, by decide +kernel, by decide +kernel, rfl, rfl⟩
theorem okBadProgram {f C cda cc fF : Addr} {fd fdF : FuncData} (F : SupFn K "BadProgram.__init__" sBadProgram f cda cc fd) (T : SupC P K C cda cc) (CF : Cal P w K mg base 1 "frozen" fF fdF ["thing"] (spFrozen K)) (no : ∀ g ∈ (["line", "reason"] : List Str), PySem.W.findIn K (.ref C) g = some none) :
    FnOk P w K mg base CX0 2 f fd ["self", "line", "reason"] (spInit K C ["line", "reason"]) := by
  refine F.ok scBadProgram T rfl rfl rfl spInit_len spInit_self (fun _ => rfl) (fun _ => rfl) (fun _ => ⟨_, rfl⟩) (fun A outer s H vs Q E hr h => ?_)
  obtain ⟨a, ws, ds, rfl, hl, ha, hd, hz, k⟩ := h
  refine ⟨_, pss_cons (ps_ost (pv 0) (pe_call CF.ok hr rfl CF.mg CF.kp CF.bi .nil pass0 (pa_cons (pv 1) pa_nil))) (pss_one (ps_ost (pv 0) (pe_call CF.ok hr rfl CF.mg CF.kp CF.bi .nil pass0 (pa_cons (pv 2) pa_nil)))), ?_⟩
  match ws, ds, hl, hd with
  | [v0, v1], _, _, @DpAll.cons _ _ _ _ d0 _ h0 (@DpAll.cons _ _ _ _ d1 _ h1 (.nil)) =>
    have z0 : sz d0 ≤ 1000 := hz _ (by simp)
    have z1 : sz d1 ≤ 1000 := hz _ (by simp)
    refine ⟨_, rfl, v0, d0, rfl, h0, z0, fun G0 u0 s0 r0 => ⟨_, rfl, a, C, rfl, T.oex, no _ (by simp), .inl ⟨s0 _ _ ha, fun dx hdx nda => ?_⟩⟩⟩
    have e0 : ∀ b o, H b = some o → b ≠ a → upd (upd G0 dx (exd dx [("line", u0)])) a (exo a C (some dx)) b = some o := fun b o e nb => by rw [upd_ne nb, upd_ne (ne_of_none (s0 _ _ e) hdx)]; exact s0 _ _ e
    have k0 : Keeps G0 (upd (upd G0 dx (exd dx [("line", u0)])) a (exo a C (some dx))) := (keeps_new hdx).trans (keeps_ext (φ := _) (by rw [upd_ne nda.symm]; exact s0 _ _ ha))
    have r0' := dp_keep k0.1 k0.2 r0 (fix_noList _)
    have ax : upd (upd G0 dx (exd dx [("line", u0)])) a (exo a C (some dx)) a = some (exo a C (some dx)) := upd_same
    have dxx : upd (upd G0 dx (exd dx [("line", u0)])) a (exo a C (some dx)) dx = some (exd dx [("line", u0)]) := by rw [upd_ne nda, upd_same]
    have hdn : H dx = none := s0.free hdx
    generalize upd (upd G0 dx (exd dx [("line", u0)])) a (exo a C (some dx)) = L0 at e0 r0' ax dxx ⊢
    have h1L := dp_but (a := a) (φ := _) ha e0 h1
    refine ⟨_, rfl, v1, d1, rfl, h1L, z1, fun G1 u1 s1 r1 => ⟨_, rfl, a, C, rfl, T.oex, no _ (by simp), .inr ⟨dx, _, s1 _ _ ax, s1 _ _ dxx, (by show 1 ≤ 900; decide), ?_⟩⟩⟩
    have e1 : ∀ b o, H b = some o → b ≠ a → upd G1 dx (exd dx (("reason", u1) :: [("line", u0)])) b = some o := fun b o e nb => by rw [upd_ne (ne_of_none e hdn)]; exact s1 _ _ (e0 b o e nb)
    have k1 : Keeps G1 (upd G1 dx (exd dx (("reason", u1) :: [("line", u0)]))) := keeps_ext (φ := _) (s1 _ _ dxx)
    have r1' := dp_keep k1.1 k1.2 r1 (fix_noList _)
    have r0' := dp_keep k1.1 k1.2 (dp_same s1 r0') (fix_noList _)
    have ax : upd G1 dx (exd dx (("reason", u1) :: [("line", u0)])) a = some (exo a C (some dx)) := by rw [upd_ne (fun z => nda z.symm)]; exact s1 _ _ ax
    have dxx : upd G1 dx (exd dx (("reason", u1) :: [("line", u0)])) dx = some (exd dx (("reason", u1) :: [("line", u0)])) := upd_same
    generalize upd G1 dx (exd dx (("reason", u1) :: [("line", u0)])) = L1 at e1 r0' r1' ax dxx ⊢
    exact k L1 dx [u0, u1] ax dxx (.cons r0' (.cons r1' (.nil))) e1 rfl
abbrev sBadConditions : Stmt := inClass (topS 19) 0
theorem scBadConditions : ScopeS ["self", "line", "reason"] ["self", "line", "reason"] (defScope sBadConditions) := ⟨rfl, rfl, rfl, by decide +kernel, rfl, by decide +kernel, by decide +kernel, by decide +kernel, rfl, rfl⟩
theorem okBadConditions {f C cda cc fF : Addr} {fd fdF : FuncData} (F : SupFn K "BadConditions.__init__" sBadConditions f cda cc fd) (T : SupC P K C cda cc) (CF : Cal P w K mg base 1 "frozen" fF fdF ["thing"] (spFrozen K)) (no : ∀ g ∈ (["line", "reason"] : List Str), PySem.W.findIn K (.ref C) g = some none) :
    FnOk P w K mg base CX0 2 f fd ["self", "line", "reason"] (spInit K C ["line", "reason"]) := by
  refine F.ok scBadConditions T rfl rfl rfl spInit_len spInit_self (fun _ => rfl) (fun _ => rfl) (fun _ => ⟨_, rfl⟩) (fun A outer s H vs Q E hr h => ?_)
  obtain ⟨a, ws, ds, rfl, hl, ha, hd, hz, k⟩ := h
  refine ⟨_, pss_cons (ps_ost (pv 0) (pe_call CF.ok hr rfl CF.mg CF.kp CF.bi .nil pass0 (pa_cons (pv 1) pa_nil))) (pss_one (ps_ost (pv 0) (pe_call CF.ok hr rfl CF.mg CF.kp CF.bi .nil pass0 (pa_cons (pv 2) pa_nil)))), ?_⟩
  match ws, ds, hl, hd with
  | [v0, v1], _, _, @DpAll.cons _ _ _ _ d0 _ h0 (@DpAll.cons _ _ _ _ d1 _ h1 (.nil)) =>
    have z0 : sz d0 ≤ 1000 := hz _ (by simp)
    have z1 : sz d1 ≤ 1000 := hz _ (by simp)
    refine ⟨_, rfl, v0, d0, rfl, h0, z0, fun G0 u0 s0 r0 => ⟨_, rfl, a, C, rfl, T.oex, no _ (by simp), .inl ⟨s0 _ _ ha, fun dx hdx nda => ?_⟩⟩⟩
    have e0 : ∀ b o, H b = some o → b ≠ a → upd (upd G0 dx (exd dx [("line", u0)])) a (exo a C (some dx)) b = some o := fun b o e nb => by rw [upd_ne nb, upd_ne (ne_of_none (s0 _ _ e) hdx)]; exact s0 _ _ e
    have k0 : Keeps G0 (upd (upd G0 dx (exd dx [("line", u0)])) a (exo a C (some dx))) := (keeps_new hdx).trans (keeps_ext (φ := _) (by rw [upd_ne nda.symm]; exact s0 _ _ ha))
    have r0' := dp_keep k0.1 k0.2 r0 (fix_noList _)
    have ax : upd (upd G0 dx (exd dx [("line", u0)])) a (exo a C (some dx)) a = some (exo a C (some dx)) := upd_same
    have dxx : upd (upd G0 dx (exd dx [("line", u0)])) a (exo a C (some dx)) dx = some (exd dx [("line", u0)]) := by rw [upd_ne nda, upd_same]
    have hdn : H dx = none := s0.free hdx
    generalize upd (upd G0 dx (exd dx [("line", u0)])) a (exo a C (some dx)) = L0 at e0 r0' ax dxx ⊢
    have h1L := dp_but (a := a) (φ := _) ha e0 h1
    refine ⟨_, rfl, v1, d1, rfl, h1L, z1, fun G1 u1 s1 r1 => ⟨_, rfl, a, C, rfl, T.oex, no _ (by simp), .inr ⟨dx, _, s1 _ _ ax, s1 _ _ dxx, (by show 1 ≤ 900; decide), ?_⟩⟩⟩
    have e1 : ∀ b o, H b = some o → b ≠ a → upd G1 dx (exd dx (("reason", u1) :: [("line", u0)])) b = some o := fun b o e nb => by rw [upd_ne (ne_of_none e hdn)]; exact s1 _ _ (e0 b o e nb)
    have k1 : Keeps G1 (upd G1 dx (exd dx (("reason", u1) :: [("line", u0)]))) := keeps_ext (φ := _) (s1 _ _ dxx)
    have r1' := dp_keep k1.1 k1.2 r1 (fix_noList _)
    have r0' := dp_keep k1.1 k1.2 (dp_same s1 r0') (fix_noList _)
    have ax : upd G1 dx (exd dx (("reason", u1) :: [("line", u0)])) a = some (exo a C (some dx)) := by rw [upd_ne (fun z => nda z.symm)]; exact s1 _ _ ax
    have dxx : upd G1 dx (exd dx (("reason", u1) :: [("line", u0)])) dx = some (exd dx (("reason", u1) :: [("line", u0)])) := upd_same
    generalize upd G1 dx (exd dx (("reason", u1) :: [("line", u0)])) = L1 at e1 r0' r1' ax dxx ⊢
    exact k L1 dx [u0, u1] ax dxx (.cons r0' (.cons r1' (.nil))) e1 rfl
abbrev sBadRecord : Stmt := inClass (topS 11) 0
theorem scBadRecord : ScopeS ["self", "reason", "name", "number"] ["self", "reason", "name", "number"] (defScope sBadRecord) := ⟨rfl, rfl, rfl, by decide +kernel, rfl, by decide +kernel, by decide +kernel, by decide +kernel, rfl, rfl⟩
theorem okBadRecord {f C cda cc fF : Addr} {fd fdF : FuncData} (F : SupFn K "BadRecord.__init__" sBadRecord f cda cc fd) (T : SupC P K C cda cc) (CF : Cal P w K mg base 1 "frozen" fF fdF ["thing"] (spFrozen K)) (no : ∀ g ∈ (["reason", "name", "number"] : List Str), PySem.W.findIn K (.ref C) g = some none) :
    FnOk P w K mg base CX0 2 f fd ["self", "reason", "name", "number"] (spInit K C ["reason", "name", "number"]) := by
  refine F.ok scBadRecord T rfl rfl rfl spInit_len spInit_self (fun _ => rfl) (fun _ => rfl) (fun _ => ⟨_, rfl⟩) (fun A outer s H vs Q E hr h => ?_)
  obtain ⟨a, ws, ds, rfl, hl, ha, hd, hz, k⟩ := h
  refine ⟨_, pss_cons (ps_ost (pv 0) (pe_call CF.ok hr rfl CF.mg CF.kp CF.bi .nil pass0 (pa_cons (pv 1) pa_nil))) (pss_cons (ps_ost (pv 0) (pe_call CF.ok hr rfl CF.mg CF.kp CF.bi .nil pass0 (pa_cons (pv 2) pa_nil))) (pss_one (ps_ost (pv 0) (pe_call CF.ok hr rfl CF.mg CF.kp CF.bi .nil pass0 (pa_cons (pv 3) pa_nil))))), ?_⟩
  match ws, ds, hl, hd with
  | [v0, v1, v2], _, _, @DpAll.cons _ _ _ _ d0 _ h0 (@DpAll.cons _ _ _ _ d1 _ h1 (@DpAll.cons _ _ _ _ d2 _ h2 (.nil))) =>
    have z0 : sz d0 ≤ 1000 := hz _ (by simp)
    have z1 : sz d1 ≤ 1000 := hz _ (by simp)
    have z2 : sz d2 ≤ 1000 := hz _ (by simp)
    refine ⟨_, rfl, v0, d0, rfl, h0, z0, fun G0 u0 s0 r0 => ⟨_, rfl, a, C, rfl, T.oex, no _ (by simp), .inl ⟨s0 _ _ ha, fun dx hdx nda => ?_⟩⟩⟩
    have e0 : ∀ b o, H b = some o → b ≠ a → upd (upd G0 dx (exd dx [("reason", u0)])) a (exo a C (some dx)) b = some o := fun b o e nb => by rw [upd_ne nb, upd_ne (ne_of_none (s0 _ _ e) hdx)]; exact s0 _ _ e
    have k0 : Keeps G0 (upd (upd G0 dx (exd dx [("reason", u0)])) a (exo a C (some dx))) := (keeps_new hdx).trans (keeps_ext (φ := _) (by rw [upd_ne nda.symm]; exact s0 _ _ ha))
    have r0' := dp_keep k0.1 k0.2 r0 (fix_noList _)
    have ax : upd (upd G0 dx (exd dx [("reason", u0)])) a (exo a C (some dx)) a = some (exo a C (some dx)) := upd_same
    have dxx : upd (upd G0 dx (exd dx [("reason", u0)])) a (exo a C (some dx)) dx = some (exd dx [("reason", u0)]) := by rw [upd_ne nda, upd_same]
    have hdn : H dx = none := s0.free hdx
    generalize upd (upd G0 dx (exd dx [("reason", u0)])) a (exo a C (some dx)) = L0 at e0 r0' ax dxx ⊢
    have h1L := dp_but (a := a) (φ := _) ha e0 h1
    refine ⟨_, rfl, v1, d1, rfl, h1L, z1, fun G1 u1 s1 r1 => ⟨_, rfl, a, C, rfl, T.oex, no _ (by simp), .inr ⟨dx, _, s1 _ _ ax, s1 _ _ dxx, (by show 1 ≤ 900; decide), ?_⟩⟩⟩
    have e1 : ∀ b o, H b = some o → b ≠ a → upd G1 dx (exd dx (("name", u1) :: [("reason", u0)])) b = some o := fun b o e nb => by rw [upd_ne (ne_of_none e hdn)]; exact s1 _ _ (e0 b o e nb)
    have k1 : Keeps G1 (upd G1 dx (exd dx (("name", u1) :: [("reason", u0)]))) := keeps_ext (φ := _) (s1 _ _ dxx)
    have r1' := dp_keep k1.1 k1.2 r1 (fix_noList _)
    have r0' := dp_keep k1.1 k1.2 (dp_same s1 r0') (fix_noList _)
    have ax : upd G1 dx (exd dx (("name", u1) :: [("reason", u0)])) a = some (exo a C (some dx)) := by rw [upd_ne (fun z => nda z.symm)]; exact s1 _ _ ax
    have dxx : upd G1 dx (exd dx (("name", u1) :: [("reason", u0)])) dx = some (exd dx (("name", u1) :: [("reason", u0)])) := upd_same
    generalize upd G1 dx (exd dx (("name", u1) :: [("reason", u0)])) = L1 at e1 r0' r1' ax dxx ⊢
    have h2L := dp_but (a := a) (φ := _) ha e1 h2
    refine ⟨_, rfl, v2, d2, rfl, h2L, z2, fun G2 u2 s2 r2 => ⟨_, rfl, a, C, rfl, T.oex, no _ (by simp), .inr ⟨dx, _, s2 _ _ ax, s2 _ _ dxx, (by show 2 ≤ 900; decide), ?_⟩⟩⟩
    have e2 : ∀ b o, H b = some o → b ≠ a → upd G2 dx (exd dx (("number", u2) :: (("name", u1) :: [("reason", u0)]))) b = some o := fun b o e nb => by rw [upd_ne (ne_of_none e hdn)]; exact s2 _ _ (e1 b o e nb)
    have k2 : Keeps G2 (upd G2 dx (exd dx (("number", u2) :: (("name", u1) :: [("reason", u0)])))) := keeps_ext (φ := _) (s2 _ _ dxx)
    have r2' := dp_keep k2.1 k2.2 r2 (fix_noList _)
    have r0' := dp_keep k2.1 k2.2 (dp_same s2 r0') (fix_noList _)
    have r1' := dp_keep k2.1 k2.2 (dp_same s2 r1') (fix_noList _)
    have ax : upd G2 dx (exd dx (("number", u2) :: (("name", u1) :: [("reason", u0)]))) a = some (exo a C (some dx)) := by rw [upd_ne (fun z => nda z.symm)]; exact s2 _ _ ax
    have dxx : upd G2 dx (exd dx (("number", u2) :: (("name", u1) :: [("reason", u0)]))) dx = some (exd dx (("number", u2) :: (("name", u1) :: [("reason", u0)]))) := upd_same
    generalize upd G2 dx (exd dx (("number", u2) :: (("name", u1) :: [("reason", u0)]))) = L2 at e2 r0' r1' r2' ax dxx ⊢
    exact k L2 dx [u0, u1, u2] ax dxx (.cons r0' (.cons r1' (.cons r2' (.nil)))) e2 rfl
end
end K1

set_option Elab.async false
set_option linter.all false
set_option maxRecDepth 100000
set_option maxHeartbeats 4000000
namespace K1
open PySem PySem.Spec PyProof.Rows L2 Rx
abbrev sMade : Stmt := topS 25
abbrev sNamed : Stmt := topS 26
def fldL : List (List Str) := [["position"], ["reason"], ["name"], ["index"], ["name"], ["sender"], ["event"], ["line"], ["line"], ["index"], ["ring"], ["most"], ["cut"], ["what"], ["line", "reason"], ["line", "reason"], ["reason", "name", "number"]]
def flds (k : Nat) : List Str := fldL.getD k []
/-- a row of errors of the classes C 0, C 1, .. -/
def ErrU (K : PySem.W.Frag) (H : Hp) (C : Nat → Addr) (ds : List PyData) (rs : List V) : Prop := ∀ k v, rs[k]? = some v → ErrAt K H v (C k) (flds k) (fixAll (ds.take (flds k).length))
section
variable {K : PySem.W.Frag} {H H' : Hp} {C : Nat → Addr} {ds : List PyData} {rs : List V}
theorem ErrU.nil : ErrU K H C ds [] := fun k v e => by simp at e
theorem ErrU.same (u : ErrU K H C ds rs) (sm : Same H H') : ErrU K H' C ds rs := fun k v e => (u k v e).same sm
theorem ErrU.snoc (u : ErrU K H C ds rs) (sm : Same H H') {v : V} (e : ErrAt K H' v (C rs.length) (flds rs.length) (fixAll (ds.take (flds rs.length).length))) : ErrU K H' C ds (rs ++ [v]) := fun k x h => by
  by_cases hk : k < rs.length
  · rw [List.getElem?_append_left hk] at h
    exact (u k x h).same sm
  · have hk2 : k = rs.length := by
      have := (List.getElem?_eq_some_iff.mp h).1
      rw [List.length_append] at this
      simp at this
      omega
    subst hk2
    rw [List.getElem?_append_right (Nat.le_refl _), Nat.sub_self] at h
    simp at h
    subst h
    exact e
end
structure AllErr (P : Program) (w : World) (K : PySem.W.Frag) (mg : Str → Option Value) (base : Heap) (C : Nat → Addr) : Prop where
  e0 : ErrT P w K mg base "BadText" (C 0) ["position"]
  e1 : ErrT P w K mg base "Fault" (C 1) ["reason"]
  e2 : ErrT P w K mg base "UnknownProcess" (C 2) ["name"]
  e3 : ErrT P w K mg base "BadInputs" (C 3) ["index"]
  e4 : ErrT P w K mg base "NotReady" (C 4) ["name"]
  e5 : ErrT P w K mg base "BadSender" (C 5) ["sender"]
  e6 : ErrT P w K mg base "BadEvent" (C 6) ["event"]
  e7 : ErrT P w K mg base "BadRecordLine" (C 7) ["line"]
  e8 : ErrT P w K mg base "BadLine" (C 8) ["line"]
  e9 : ErrT P w K mg base "BadWait" (C 9) ["index"]
  e10 : ErrT P w K mg base "NotLive" (C 10) ["ring"]
  e11 : ErrT P w K mg base "TooMany" (C 11) ["most"]
  e12 : ErrT P w K mg base "BadCut" (C 12) ["cut"]
  e13 : ErrT P w K mg base "Missing" (C 13) ["what"]
  e14 : ErrT P w K mg base "BadProgram" (C 14) ["line", "reason"]
  e15 : ErrT P w K mg base "BadConditions" (C 15) ["line", "reason"]
  e16 : ErrT P w K mg base "BadRecord" (C 16) ["reason", "name", "number"]
def spMade (K : PySem.W.Frag) (C : Nat → Addr) : Sp := fun vs H Q _ => ∃ (v1 v2 v3 : V) (d1 d2 d3 : PyData), vs = [v1, v2, v3] ∧ Dp K H v1 d1 ∧ Dp K H v2 d2 ∧ Dp K H v3 d3 ∧ (sz d1 ≤ 1000 ∧ sz d2 ≤ 1000 ∧ sz d3 ≤ 1000) ∧
  ∀ (H' : Hp) (l : Addr) (rs : List V), Same H H' → H l = none → H' l = some (.lst rs) → rs.length = 17 → ErrU K H' C [d1, d2, d3] rs → Q (.ref l) H'
section
variable {P : Program} {w : World} {K : PySem.W.Frag} {mg : Str → Option Value} {base : Heap} {C : Nat → Addr}
theorem scM : FnScope ["_law_one", "_law_two", "_law_three", "_law_found"] ["_law_one", "_law_two", "_law_three"] (defScope sMade) := ⟨rfl, rfl, rfl, by decide +kernel, rfl, by decide +kernel, by decide +kernel⟩
theorem scN : FnScope ["_law_one", "_law_two", "_law_three", "_law_found"] ["_law_one", "_law_two", "_law_three"] (defScope sNamed) := ⟨rfl, rfl, rfl, by decide +kernel, rfl, by decide +kernel, by decide +kernel⟩
theorem one_le {d1 : PyData} (h : sz d1 ≤ 1000) : ∀ d ∈ [d1], sz d ≤ 1000 := fun d hd => by rw [List.mem_singleton.mp hd]; exact h
theorem two_le {d1 d2 : PyData} (h : sz d1 ≤ 1000) (h2 : sz d2 ≤ 1000) : ∀ d ∈ [d1, d2], sz d ≤ 1000 := fun d hd => by
  rcases List.mem_cons.mp hd with rfl | hd
  · exact h
  · exact one_le h2 d hd
theorem three_le {d1 d2 d3 : PyData} (h : sz d1 ≤ 1000) (h2 : sz d2 ≤ 1000) (h3 : sz d3 ≤ 1000) : ∀ d ∈ [d1, d2, d3], sz d ≤ 1000 := fun d hd => by
  rcases List.mem_cons.mp hd with rfl | hd
  · exact h
  · exact two_le h2 h3 d hd
theorem ok_made {f : Addr} {fd : FuncData} (F : Fun K "_law_made" "_law_made" sMade f fd) (E : AllErr P w K mg base C) : FnOk P w K mg base CX0 4 f fd ["_law_one", "_law_two", "_law_three"] (spMade K C) := by
  refine F.ok scM (fun vs H Q E h => ?_) (fun cdv A outer s H vs Q E0 hr h => ?_)
  · obtain ⟨v1, v2, v3, d1, d2, d3, rfl, _⟩ := h
    rfl
  · obtain ⟨v1, v2, v3, d1, d2, d3, rfl, h1, h2, h3, ⟨z1, z2, z3⟩, k⟩ := h
    obtain ⟨f0, fd0, i0, t0, g0, b0, c0⟩ := E.e0.ini
    obtain ⟨f1, fd1, i1, t1, g1, b1, c1⟩ := E.e1.ini
    obtain ⟨f2, fd2, i2, t2, g2, b2, c2⟩ := E.e2.ini
    obtain ⟨f3, fd3, i3, t3, g3, b3, c3⟩ := E.e3.ini
    obtain ⟨f4, fd4, i4, t4, g4, b4, c4⟩ := E.e4.ini
    obtain ⟨f5, fd5, i5, t5, g5, b5, c5⟩ := E.e5.ini
    obtain ⟨f6, fd6, i6, t6, g6, b6, c6⟩ := E.e6.ini
    obtain ⟨f7, fd7, i7, t7, g7, b7, c7⟩ := E.e7.ini
    obtain ⟨f8, fd8, i8, t8, g8, b8, c8⟩ := E.e8.ini
    obtain ⟨f9, fd9, i9, t9, g9, b9, c9⟩ := E.e9.ini
    obtain ⟨f10, fd10, i10, t10, g10, b10, c10⟩ := E.e10.ini
    obtain ⟨f11, fd11, i11, t11, g11, b11, c11⟩ := E.e11.ini
    obtain ⟨f12, fd12, i12, t12, g12, b12, c12⟩ := E.e12.ini
    obtain ⟨f13, fd13, i13, t13, g13, b13, c13⟩ := E.e13.ini
    obtain ⟨f14, fd14, i14, t14, g14, b14, c14⟩ := E.e14.ini
    obtain ⟨f15, fd15, i15, t15, g15, b15, c15⟩ := E.e15.ini
    obtain ⟨f16, fd16, i16, t16, g16, b16, c16⟩ := E.e16.ini
    refine ⟨_, (pss_cons (ps_set (i := 3) scM.nd rfl (.inl rfl) (pe_lst (pa_cons (pe_exv E.e0.oex i0 t0 g0 hr b0 pass0 rfl E.e0.mgx (by decide) (pa_cons (pv 0) pa_nil)) (pa_cons (pe_exv E.e1.oex i1 t1 g1 hr b1 pass0 rfl E.e1.mgx (by decide) (pa_cons (pv 0) pa_nil)) (pa_cons (pe_exv E.e2.oex i2 t2 g2 hr b2 pass0 rfl E.e2.mgx (by decide) (pa_cons (pv 0) pa_nil)) (pa_cons (pe_exv E.e3.oex i3 t3 g3 hr b3 pass0 rfl E.e3.mgx (by decide) (pa_cons (pv 0) pa_nil)) pa_nil))))))
      (pss_cons (ps_set (i := 3) scM.nd rfl (.inl rfl) (pe_op op_cat (pv 3) (pe_lst (pa_cons (pe_exv E.e4.oex i4 t4 g4 hr b4 pass0 rfl E.e4.mgx (by decide) (pa_cons (pv 0) pa_nil)) (pa_cons (pe_exv E.e5.oex i5 t5 g5 hr b5 pass0 rfl E.e5.mgx (by decide) (pa_cons (pv 0) pa_nil)) (pa_cons (pe_exv E.e6.oex i6 t6 g6 hr b6 pass0 rfl E.e6.mgx (by decide) (pa_cons (pv 0) pa_nil)) (pa_cons (pe_exv E.e7.oex i7 t7 g7 hr b7 pass0 rfl E.e7.mgx (by decide) (pa_cons (pv 0) pa_nil)) pa_nil)))))))
      (pss_cons (ps_set (i := 3) scM.nd rfl (.inl rfl) (pe_op op_cat (pv 3) (pe_lst (pa_cons (pe_exv E.e8.oex i8 t8 g8 hr b8 pass0 rfl E.e8.mgx (by decide) (pa_cons (pv 0) pa_nil)) (pa_cons (pe_exv E.e9.oex i9 t9 g9 hr b9 pass0 rfl E.e9.mgx (by decide) (pa_cons (pv 0) pa_nil)) (pa_cons (pe_exv E.e10.oex i10 t10 g10 hr b10 pass0 rfl E.e10.mgx (by decide) (pa_cons (pv 0) pa_nil)) (pa_cons (pe_exv E.e11.oex i11 t11 g11 hr b11 pass0 rfl E.e11.mgx (by decide) (pa_cons (pv 0) pa_nil)) (pa_cons (pe_exv E.e12.oex i12 t12 g12 hr b12 pass0 rfl E.e12.mgx (by decide) (pa_cons (pv 0) pa_nil)) pa_nil))))))))
      (pss_cons (ps_set (i := 3) scM.nd rfl (.inl rfl) (pe_op op_cat (pv 3) (pe_lst (pa_cons (pe_exv E.e13.oex i13 t13 g13 hr b13 pass0 rfl E.e13.mgx (by decide) (pa_cons (pv 0) pa_nil)) pa_nil))))
      (pss_cons (ps_set (i := 3) scM.nd rfl (.inl rfl) (pe_op op_cat (pv 3) (pe_lst (pa_cons (pe_exv E.e14.oex i14 t14 g14 hr b14 pass0 rfl E.e14.mgx (by decide) (pa_cons (pv 0) (pa_cons (pv 1) pa_nil))) (pa_cons (pe_exv E.e15.oex i15 t15 g15 hr b15 pass0 rfl E.e15.mgx (by decide) (pa_cons (pv 0) (pa_cons (pv 1) pa_nil))) pa_nil)))))
      (pss_one (ps_ret (pe_op op_cat (pv 3) (pe_lst (pa_cons (pe_exv E.e16.oex i16 t16 g16 hr b16 pass0 rfl E.e16.mgx (by decide) (pa_cons (pv 0) (pa_cons (pv 1) (pa_cons (pv 2) pa_nil)))) pa_nil)))))))))), ?_⟩
    have u : ErrU K H C [d1, d2, d3] [] := ErrU.nil
    have sm : Same H H := Same.refl H
    refine ⟨_, rfl, rfl, rfl, fun a0 n0 => init_read n0 rfl (.cons (dp_same sm h1) .nil) (one_le z1) fun H0 s0 r0 => ?_⟩
    have u : ErrU K H0 C [d1, d2, d3] [.ref a0] := u.snoc s0 r0
    have sm : Same H H0 := sm.trans s0
    refine ⟨_, rfl, rfl, rfl, fun a1 n1 => init_read n1 rfl (.cons (dp_same sm h1) .nil) (one_le z1) fun H1 s1 r1 => ?_⟩
    have u : ErrU K H1 C [d1, d2, d3] [.ref a0, .ref a1] := u.snoc s1 r1
    have sm : Same H H1 := sm.trans s1
    refine ⟨_, rfl, rfl, rfl, fun a2 n2 => init_read n2 rfl (.cons (dp_same sm h1) .nil) (one_le z1) fun H2 s2 r2 => ?_⟩
    have u : ErrU K H2 C [d1, d2, d3] [.ref a0, .ref a1, .ref a2] := u.snoc s2 r2
    have sm : Same H H2 := sm.trans s2
    refine ⟨_, rfl, rfl, rfl, fun a3 n3 => init_read n3 rfl (.cons (dp_same sm h1) .nil) (one_le z1) fun H3 s3 r3 => ?_⟩
    have u : ErrU K H3 C [d1, d2, d3] [.ref a0, .ref a1, .ref a2, .ref a3] := u.snoc s3 r3
    have sm : Same H H3 := sm.trans s3
    refine ⟨(by show 4 ≤ sizeLine; decide), fun l0 nl0 => ?_⟩
    have u := u.same (same_new (o := .lst [.ref a0, .ref a1, .ref a2, .ref a3]) nl0)
    have sm := sm.trans (same_new (o := .lst [.ref a0, .ref a1, .ref a2, .ref a3]) nl0)
    have hl : upd H3 l0 (.lst [.ref a0, .ref a1, .ref a2, .ref a3]) l0 = some (.lst [.ref a0, .ref a1, .ref a2, .ref a3]) := upd_same
    refine ⟨_, rfl, ?_⟩
    refine ⟨_, rfl, rfl, rfl, fun a4 n4 => init_read n4 rfl (.cons (dp_same sm h1) .nil) (one_le z1) fun H4 s4 r4 => ?_⟩
    have u : ErrU K H4 C [d1, d2, d3] [.ref a0, .ref a1, .ref a2, .ref a3, .ref a4] := u.snoc s4 r4
    have sm : Same H H4 := sm.trans s4
    have hl := s4 _ _ hl
    refine ⟨_, rfl, rfl, rfl, fun a5 n5 => init_read n5 rfl (.cons (dp_same sm h1) .nil) (one_le z1) fun H5 s5 r5 => ?_⟩
    have u : ErrU K H5 C [d1, d2, d3] [.ref a0, .ref a1, .ref a2, .ref a3, .ref a4, .ref a5] := u.snoc s5 r5
    have sm : Same H H5 := sm.trans s5
    have hl := s5 _ _ hl
    refine ⟨_, rfl, rfl, rfl, fun a6 n6 => init_read n6 rfl (.cons (dp_same sm h1) .nil) (one_le z1) fun H6 s6 r6 => ?_⟩
    have u : ErrU K H6 C [d1, d2, d3] [.ref a0, .ref a1, .ref a2, .ref a3, .ref a4, .ref a5, .ref a6] := u.snoc s6 r6
    have sm : Same H H6 := sm.trans s6
    have hl := s6 _ _ hl
    refine ⟨_, rfl, rfl, rfl, fun a7 n7 => init_read n7 rfl (.cons (dp_same sm h1) .nil) (one_le z1) fun H7 s7 r7 => ?_⟩
    have u : ErrU K H7 C [d1, d2, d3] [.ref a0, .ref a1, .ref a2, .ref a3, .ref a4, .ref a5, .ref a6, .ref a7] := u.snoc s7 r7
    have sm : Same H H7 := sm.trans s7
    have hl := s7 _ _ hl
    refine ⟨(by show 4 ≤ sizeLine; decide), fun l1 nl1 => ?_⟩
    have u := u.same (same_new (o := .lst [.ref a4, .ref a5, .ref a6, .ref a7]) nl1)
    have sm := sm.trans (same_new (o := .lst [.ref a4, .ref a5, .ref a6, .ref a7]) nl1)
    have hl := same_new (o := .lst [.ref a4, .ref a5, .ref a6, .ref a7]) nl1 _ _ hl
    refine ⟨_, _, _, _, rfl, rfl, hl, upd_same, (by show 8 ≤ sizeLine; decide), fun m1 nm1 => ?_⟩
    have hnew : H m1 = none := sm.free nm1
    have u := u.same (same_new (o := .lst [.ref a0, .ref a1, .ref a2, .ref a3, .ref a4, .ref a5, .ref a6, .ref a7]) nm1)
    have sm := sm.trans (same_new (o := .lst [.ref a0, .ref a1, .ref a2, .ref a3, .ref a4, .ref a5, .ref a6, .ref a7]) nm1)
    have hl : upd (upd H7 l1 (.lst [.ref a4, .ref a5, .ref a6, .ref a7])) m1 (.lst [.ref a0, .ref a1, .ref a2, .ref a3, .ref a4, .ref a5, .ref a6, .ref a7]) m1 = some (.lst [.ref a0, .ref a1, .ref a2, .ref a3, .ref a4, .ref a5, .ref a6, .ref a7]) := upd_same
    refine ⟨_, rfl, ?_⟩
    refine ⟨_, rfl, rfl, rfl, fun a8 n8 => init_read n8 rfl (.cons (dp_same sm h1) .nil) (one_le z1) fun H8 s8 r8 => ?_⟩
    have u : ErrU K H8 C [d1, d2, d3] [.ref a0, .ref a1, .ref a2, .ref a3, .ref a4, .ref a5, .ref a6, .ref a7, .ref a8] := u.snoc s8 r8
    have sm : Same H H8 := sm.trans s8
    have hl := s8 _ _ hl
    refine ⟨_, rfl, rfl, rfl, fun a9 n9 => init_read n9 rfl (.cons (dp_same sm h1) .nil) (one_le z1) fun H9 s9 r9 => ?_⟩
    have u : ErrU K H9 C [d1, d2, d3] [.ref a0, .ref a1, .ref a2, .ref a3, .ref a4, .ref a5, .ref a6, .ref a7, .ref a8, .ref a9] := u.snoc s9 r9
    have sm : Same H H9 := sm.trans s9
    have hl := s9 _ _ hl
    refine ⟨_, rfl, rfl, rfl, fun a10 n10 => init_read n10 rfl (.cons (dp_same sm h1) .nil) (one_le z1) fun H10 s10 r10 => ?_⟩
    have u : ErrU K H10 C [d1, d2, d3] [.ref a0, .ref a1, .ref a2, .ref a3, .ref a4, .ref a5, .ref a6, .ref a7, .ref a8, .ref a9, .ref a10] := u.snoc s10 r10
    have sm : Same H H10 := sm.trans s10
    have hl := s10 _ _ hl
    refine ⟨_, rfl, rfl, rfl, fun a11 n11 => init_read n11 rfl (.cons (dp_same sm h1) .nil) (one_le z1) fun H11 s11 r11 => ?_⟩
    have u : ErrU K H11 C [d1, d2, d3] [.ref a0, .ref a1, .ref a2, .ref a3, .ref a4, .ref a5, .ref a6, .ref a7, .ref a8, .ref a9, .ref a10, .ref a11] := u.snoc s11 r11
    have sm : Same H H11 := sm.trans s11
    have hl := s11 _ _ hl
    refine ⟨_, rfl, rfl, rfl, fun a12 n12 => init_read n12 rfl (.cons (dp_same sm h1) .nil) (one_le z1) fun H12 s12 r12 => ?_⟩
    have u : ErrU K H12 C [d1, d2, d3] [.ref a0, .ref a1, .ref a2, .ref a3, .ref a4, .ref a5, .ref a6, .ref a7, .ref a8, .ref a9, .ref a10, .ref a11, .ref a12] := u.snoc s12 r12
    have sm : Same H H12 := sm.trans s12
    have hl := s12 _ _ hl
    refine ⟨(by show 5 ≤ sizeLine; decide), fun l2 nl2 => ?_⟩
    have u := u.same (same_new (o := .lst [.ref a8, .ref a9, .ref a10, .ref a11, .ref a12]) nl2)
    have sm := sm.trans (same_new (o := .lst [.ref a8, .ref a9, .ref a10, .ref a11, .ref a12]) nl2)
    have hl := same_new (o := .lst [.ref a8, .ref a9, .ref a10, .ref a11, .ref a12]) nl2 _ _ hl
    refine ⟨_, _, _, _, rfl, rfl, hl, upd_same, (by show 13 ≤ sizeLine; decide), fun m2 nm2 => ?_⟩
    have hnew : H m2 = none := sm.free nm2
    have u := u.same (same_new (o := .lst [.ref a0, .ref a1, .ref a2, .ref a3, .ref a4, .ref a5, .ref a6, .ref a7, .ref a8, .ref a9, .ref a10, .ref a11, .ref a12]) nm2)
    have sm := sm.trans (same_new (o := .lst [.ref a0, .ref a1, .ref a2, .ref a3, .ref a4, .ref a5, .ref a6, .ref a7, .ref a8, .ref a9, .ref a10, .ref a11, .ref a12]) nm2)
    have hl : upd (upd H12 l2 (.lst [.ref a8, .ref a9, .ref a10, .ref a11, .ref a12])) m2 (.lst [.ref a0, .ref a1, .ref a2, .ref a3, .ref a4, .ref a5, .ref a6, .ref a7, .ref a8, .ref a9, .ref a10, .ref a11, .ref a12]) m2 = some (.lst [.ref a0, .ref a1, .ref a2, .ref a3, .ref a4, .ref a5, .ref a6, .ref a7, .ref a8, .ref a9, .ref a10, .ref a11, .ref a12]) := upd_same
    refine ⟨_, rfl, ?_⟩
    refine ⟨_, rfl, rfl, rfl, fun a13 n13 => init_read n13 rfl (.cons (dp_same sm h1) .nil) (one_le z1) fun H13 s13 r13 => ?_⟩
    have u : ErrU K H13 C [d1, d2, d3] [.ref a0, .ref a1, .ref a2, .ref a3, .ref a4, .ref a5, .ref a6, .ref a7, .ref a8, .ref a9, .ref a10, .ref a11, .ref a12, .ref a13] := u.snoc s13 r13
    have sm : Same H H13 := sm.trans s13
    have hl := s13 _ _ hl
    refine ⟨(by show 1 ≤ sizeLine; decide), fun l3 nl3 => ?_⟩
    have u := u.same (same_new (o := .lst [.ref a13]) nl3)
    have sm := sm.trans (same_new (o := .lst [.ref a13]) nl3)
    have hl := same_new (o := .lst [.ref a13]) nl3 _ _ hl
    refine ⟨_, _, _, _, rfl, rfl, hl, upd_same, (by show 14 ≤ sizeLine; decide), fun m3 nm3 => ?_⟩
    have hnew : H m3 = none := sm.free nm3
    have u := u.same (same_new (o := .lst [.ref a0, .ref a1, .ref a2, .ref a3, .ref a4, .ref a5, .ref a6, .ref a7, .ref a8, .ref a9, .ref a10, .ref a11, .ref a12, .ref a13]) nm3)
    have sm := sm.trans (same_new (o := .lst [.ref a0, .ref a1, .ref a2, .ref a3, .ref a4, .ref a5, .ref a6, .ref a7, .ref a8, .ref a9, .ref a10, .ref a11, .ref a12, .ref a13]) nm3)
    have hl : upd (upd H13 l3 (.lst [.ref a13])) m3 (.lst [.ref a0, .ref a1, .ref a2, .ref a3, .ref a4, .ref a5, .ref a6, .ref a7, .ref a8, .ref a9, .ref a10, .ref a11, .ref a12, .ref a13]) m3 = some (.lst [.ref a0, .ref a1, .ref a2, .ref a3, .ref a4, .ref a5, .ref a6, .ref a7, .ref a8, .ref a9, .ref a10, .ref a11, .ref a12, .ref a13]) := upd_same
    refine ⟨_, rfl, ?_⟩
    refine ⟨_, rfl, _, rfl, rfl, rfl, fun a14 n14 => init_read n14 rfl (.cons (dp_same sm h1) (.cons (dp_same sm h2) .nil)) (two_le z1 z2) fun H14 s14 r14 => ?_⟩
    have u : ErrU K H14 C [d1, d2, d3] [.ref a0, .ref a1, .ref a2, .ref a3, .ref a4, .ref a5, .ref a6, .ref a7, .ref a8, .ref a9, .ref a10, .ref a11, .ref a12, .ref a13, .ref a14] := u.snoc s14 r14
    have sm : Same H H14 := sm.trans s14
    have hl := s14 _ _ hl
    refine ⟨_, rfl, _, rfl, rfl, rfl, fun a15 n15 => init_read n15 rfl (.cons (dp_same sm h1) (.cons (dp_same sm h2) .nil)) (two_le z1 z2) fun H15 s15 r15 => ?_⟩
    have u : ErrU K H15 C [d1, d2, d3] [.ref a0, .ref a1, .ref a2, .ref a3, .ref a4, .ref a5, .ref a6, .ref a7, .ref a8, .ref a9, .ref a10, .ref a11, .ref a12, .ref a13, .ref a14, .ref a15] := u.snoc s15 r15
    have sm : Same H H15 := sm.trans s15
    have hl := s15 _ _ hl
    refine ⟨(by show 2 ≤ sizeLine; decide), fun l4 nl4 => ?_⟩
    have u := u.same (same_new (o := .lst [.ref a14, .ref a15]) nl4)
    have sm := sm.trans (same_new (o := .lst [.ref a14, .ref a15]) nl4)
    have hl := same_new (o := .lst [.ref a14, .ref a15]) nl4 _ _ hl
    refine ⟨_, _, _, _, rfl, rfl, hl, upd_same, (by show 16 ≤ sizeLine; decide), fun m4 nm4 => ?_⟩
    have hnew : H m4 = none := sm.free nm4
    have u := u.same (same_new (o := .lst [.ref a0, .ref a1, .ref a2, .ref a3, .ref a4, .ref a5, .ref a6, .ref a7, .ref a8, .ref a9, .ref a10, .ref a11, .ref a12, .ref a13, .ref a14, .ref a15]) nm4)
    have sm := sm.trans (same_new (o := .lst [.ref a0, .ref a1, .ref a2, .ref a3, .ref a4, .ref a5, .ref a6, .ref a7, .ref a8, .ref a9, .ref a10, .ref a11, .ref a12, .ref a13, .ref a14, .ref a15]) nm4)
    have hl : upd (upd H15 l4 (.lst [.ref a14, .ref a15])) m4 (.lst [.ref a0, .ref a1, .ref a2, .ref a3, .ref a4, .ref a5, .ref a6, .ref a7, .ref a8, .ref a9, .ref a10, .ref a11, .ref a12, .ref a13, .ref a14, .ref a15]) m4 = some (.lst [.ref a0, .ref a1, .ref a2, .ref a3, .ref a4, .ref a5, .ref a6, .ref a7, .ref a8, .ref a9, .ref a10, .ref a11, .ref a12, .ref a13, .ref a14, .ref a15]) := upd_same
    refine ⟨_, rfl, ?_⟩
    refine ⟨_, rfl, _, rfl, _, rfl, rfl, rfl, fun a16 n16 => init_read n16 rfl (.cons (dp_same sm h1) (.cons (dp_same sm h2) (.cons (dp_same sm h3) .nil))) (three_le z1 z2 z3) fun H16 s16 r16 => ?_⟩
    have u : ErrU K H16 C [d1, d2, d3] [.ref a0, .ref a1, .ref a2, .ref a3, .ref a4, .ref a5, .ref a6, .ref a7, .ref a8, .ref a9, .ref a10, .ref a11, .ref a12, .ref a13, .ref a14, .ref a15, .ref a16] := u.snoc s16 r16
    have sm : Same H H16 := sm.trans s16
    have hl := s16 _ _ hl
    refine ⟨(by show 1 ≤ sizeLine; decide), fun l5 nl5 => ?_⟩
    have u := u.same (same_new (o := .lst [.ref a16]) nl5)
    have sm := sm.trans (same_new (o := .lst [.ref a16]) nl5)
    have hl := same_new (o := .lst [.ref a16]) nl5 _ _ hl
    refine ⟨_, _, _, _, rfl, rfl, hl, upd_same, (by show 17 ≤ sizeLine; decide), fun m5 nm5 => ?_⟩
    have hnew : H m5 = none := sm.free nm5
    have u := u.same (same_new (o := .lst [.ref a0, .ref a1, .ref a2, .ref a3, .ref a4, .ref a5, .ref a6, .ref a7, .ref a8, .ref a9, .ref a10, .ref a11, .ref a12, .ref a13, .ref a14, .ref a15, .ref a16]) nm5)
    have sm := sm.trans (same_new (o := .lst [.ref a0, .ref a1, .ref a2, .ref a3, .ref a4, .ref a5, .ref a6, .ref a7, .ref a8, .ref a9, .ref a10, .ref a11, .ref a12, .ref a13, .ref a14, .ref a15, .ref a16]) nm5)
    have hl : upd (upd H16 l5 (.lst [.ref a16])) m5 (.lst [.ref a0, .ref a1, .ref a2, .ref a3, .ref a4, .ref a5, .ref a6, .ref a7, .ref a8, .ref a9, .ref a10, .ref a11, .ref a12, .ref a13, .ref a14, .ref a15, .ref a16]) m5 = some (.lst [.ref a0, .ref a1, .ref a2, .ref a3, .ref a4, .ref a5, .ref a6, .ref a7, .ref a8, .ref a9, .ref a10, .ref a11, .ref a12, .ref a13, .ref a14, .ref a15, .ref a16]) := upd_same
    exact k _ _ _ sm hnew hl rfl u
theorem ok_named {f : Addr} {fd : FuncData} (F : Fun K "_law_named" "_law_named" sNamed f fd) (E : AllErr P w K mg base C) : FnOk P w K mg base CX0 4 f fd ["_law_one", "_law_two", "_law_three"] (spMade K C) := by
  refine F.ok scN (fun vs H Q E h => ?_) (fun cdv A outer s H vs Q E0 hr h => ?_)
  · obtain ⟨v1, v2, v3, d1, d2, d3, rfl, _⟩ := h
    rfl
  · obtain ⟨v1, v2, v3, d1, d2, d3, rfl, h1, h2, h3, ⟨z1, z2, z3⟩, k⟩ := h
    obtain ⟨f0, fd0, i0, t0, g0, b0, c0⟩ := E.e0.ini
    obtain ⟨f1, fd1, i1, t1, g1, b1, c1⟩ := E.e1.ini
    obtain ⟨f2, fd2, i2, t2, g2, b2, c2⟩ := E.e2.ini
    obtain ⟨f3, fd3, i3, t3, g3, b3, c3⟩ := E.e3.ini
    obtain ⟨f4, fd4, i4, t4, g4, b4, c4⟩ := E.e4.ini
    obtain ⟨f5, fd5, i5, t5, g5, b5, c5⟩ := E.e5.ini
    obtain ⟨f6, fd6, i6, t6, g6, b6, c6⟩ := E.e6.ini
    obtain ⟨f7, fd7, i7, t7, g7, b7, c7⟩ := E.e7.ini
    obtain ⟨f8, fd8, i8, t8, g8, b8, c8⟩ := E.e8.ini
    obtain ⟨f9, fd9, i9, t9, g9, b9, c9⟩ := E.e9.ini
    obtain ⟨f10, fd10, i10, t10, g10, b10, c10⟩ := E.e10.ini
    obtain ⟨f11, fd11, i11, t11, g11, b11, c11⟩ := E.e11.ini
    obtain ⟨f12, fd12, i12, t12, g12, b12, c12⟩ := E.e12.ini
    obtain ⟨f13, fd13, i13, t13, g13, b13, c13⟩ := E.e13.ini
    obtain ⟨f14, fd14, i14, t14, g14, b14, c14⟩ := E.e14.ini
    obtain ⟨f15, fd15, i15, t15, g15, b15, c15⟩ := E.e15.ini
    obtain ⟨f16, fd16, i16, t16, g16, b16, c16⟩ := E.e16.ini
    refine ⟨_, (pss_cons (ps_set (i := 3) scN.nd rfl (.inl rfl) (pe_lst (pa_cons (pe_exvK E.e0.oex i0 t0 g0 hr c0 pass0 rfl E.e0.mgx (pk_cons (pv 0) pk_nil)) (pa_cons (pe_exvK E.e1.oex i1 t1 g1 hr c1 pass0 rfl E.e1.mgx (pk_cons (pv 0) pk_nil)) (pa_cons (pe_exvK E.e2.oex i2 t2 g2 hr c2 pass0 rfl E.e2.mgx (pk_cons (pv 0) pk_nil)) pa_nil)))))
      (pss_cons (ps_set (i := 3) scN.nd rfl (.inl rfl) (pe_op op_cat (pv 3) (pe_lst (pa_cons (pe_exvK E.e3.oex i3 t3 g3 hr c3 pass0 rfl E.e3.mgx (pk_cons (pv 0) pk_nil)) (pa_cons (pe_exvK E.e4.oex i4 t4 g4 hr c4 pass0 rfl E.e4.mgx (pk_cons (pv 0) pk_nil)) (pa_cons (pe_exvK E.e5.oex i5 t5 g5 hr c5 pass0 rfl E.e5.mgx (pk_cons (pv 0) pk_nil)) pa_nil))))))
      (pss_cons (ps_set (i := 3) scN.nd rfl (.inl rfl) (pe_op op_cat (pv 3) (pe_lst (pa_cons (pe_exvK E.e6.oex i6 t6 g6 hr c6 pass0 rfl E.e6.mgx (pk_cons (pv 0) pk_nil)) (pa_cons (pe_exvK E.e7.oex i7 t7 g7 hr c7 pass0 rfl E.e7.mgx (pk_cons (pv 0) pk_nil)) (pa_cons (pe_exvK E.e8.oex i8 t8 g8 hr c8 pass0 rfl E.e8.mgx (pk_cons (pv 0) pk_nil)) pa_nil))))))
      (pss_cons (ps_set (i := 3) scN.nd rfl (.inl rfl) (pe_op op_cat (pv 3) (pe_lst (pa_cons (pe_exvK E.e9.oex i9 t9 g9 hr c9 pass0 rfl E.e9.mgx (pk_cons (pv 0) pk_nil)) (pa_cons (pe_exvK E.e10.oex i10 t10 g10 hr c10 pass0 rfl E.e10.mgx (pk_cons (pv 0) pk_nil)) (pa_cons (pe_exvK E.e11.oex i11 t11 g11 hr c11 pass0 rfl E.e11.mgx (pk_cons (pv 0) pk_nil)) pa_nil))))))
      (pss_cons (ps_set (i := 3) scN.nd rfl (.inl rfl) (pe_op op_cat (pv 3) (pe_lst (pa_cons (pe_exvK E.e12.oex i12 t12 g12 hr c12 pass0 rfl E.e12.mgx (pk_cons (pv 0) pk_nil)) (pa_cons (pe_exvK E.e13.oex i13 t13 g13 hr c13 pass0 rfl E.e13.mgx (pk_cons (pv 0) pk_nil)) (pa_cons (pe_exvK E.e14.oex i14 t14 g14 hr c14 pass0 rfl E.e14.mgx (pk_cons (pv 1) (pk_cons (pv 0) pk_nil))) pa_nil))))))
      (pss_cons (ps_set (i := 3) scN.nd rfl (.inl rfl) (pe_op op_cat (pv 3) (pe_lst (pa_cons (pe_exvK E.e15.oex i15 t15 g15 hr c15 pass0 rfl E.e15.mgx (pk_cons (pv 1) (pk_cons (pv 0) pk_nil))) pa_nil))))
      (pss_cons (ps_set (i := 3) scN.nd rfl (.inl rfl) (pe_op op_cat (pv 3) (pe_lst (pa_cons (pe_exvK E.e16.oex i16 t16 g16 hr c16 pass0 rfl E.e16.mgx (pk_cons (pv 2) (pk_cons (pv 1) (pk_cons (pv 0) pk_nil)))) pa_nil))))
      (pss_one (ps_ret (pv 3)))))))))), ?_⟩
    have u : ErrU K H C [d1, d2, d3] [] := ErrU.nil
    have sm : Same H H := Same.refl H
    refine ⟨_, rfl, rfl, rfl, fun a0 n0 => init_read n0 rfl (.cons (dp_same sm h1) .nil) (one_le z1) fun H0 s0 r0 => ?_⟩
    have u : ErrU K H0 C [d1, d2, d3] [.ref a0] := u.snoc s0 r0
    have sm : Same H H0 := sm.trans s0
    refine ⟨_, rfl, rfl, rfl, fun a1 n1 => init_read n1 rfl (.cons (dp_same sm h1) .nil) (one_le z1) fun H1 s1 r1 => ?_⟩
    have u : ErrU K H1 C [d1, d2, d3] [.ref a0, .ref a1] := u.snoc s1 r1
    have sm : Same H H1 := sm.trans s1
    refine ⟨_, rfl, rfl, rfl, fun a2 n2 => init_read n2 rfl (.cons (dp_same sm h1) .nil) (one_le z1) fun H2 s2 r2 => ?_⟩
    have u : ErrU K H2 C [d1, d2, d3] [.ref a0, .ref a1, .ref a2] := u.snoc s2 r2
    have sm : Same H H2 := sm.trans s2
    refine ⟨(by show 3 ≤ sizeLine; decide), fun l0 nl0 => ?_⟩
    have u := u.same (same_new (o := .lst [.ref a0, .ref a1, .ref a2]) nl0)
    have sm := sm.trans (same_new (o := .lst [.ref a0, .ref a1, .ref a2]) nl0)
    have hl : upd H2 l0 (.lst [.ref a0, .ref a1, .ref a2]) l0 = some (.lst [.ref a0, .ref a1, .ref a2]) := upd_same
    refine ⟨_, rfl, ?_⟩
    refine ⟨_, rfl, rfl, rfl, fun a3 n3 => init_read n3 rfl (.cons (dp_same sm h1) .nil) (one_le z1) fun H3 s3 r3 => ?_⟩
    have u : ErrU K H3 C [d1, d2, d3] [.ref a0, .ref a1, .ref a2, .ref a3] := u.snoc s3 r3
    have sm : Same H H3 := sm.trans s3
    have hl := s3 _ _ hl
    refine ⟨_, rfl, rfl, rfl, fun a4 n4 => init_read n4 rfl (.cons (dp_same sm h1) .nil) (one_le z1) fun H4 s4 r4 => ?_⟩
    have u : ErrU K H4 C [d1, d2, d3] [.ref a0, .ref a1, .ref a2, .ref a3, .ref a4] := u.snoc s4 r4
    have sm : Same H H4 := sm.trans s4
    have hl := s4 _ _ hl
    refine ⟨_, rfl, rfl, rfl, fun a5 n5 => init_read n5 rfl (.cons (dp_same sm h1) .nil) (one_le z1) fun H5 s5 r5 => ?_⟩
    have u : ErrU K H5 C [d1, d2, d3] [.ref a0, .ref a1, .ref a2, .ref a3, .ref a4, .ref a5] := u.snoc s5 r5
    have sm : Same H H5 := sm.trans s5
    have hl := s5 _ _ hl
    refine ⟨(by show 3 ≤ sizeLine; decide), fun l1 nl1 => ?_⟩
    have u := u.same (same_new (o := .lst [.ref a3, .ref a4, .ref a5]) nl1)
    have sm := sm.trans (same_new (o := .lst [.ref a3, .ref a4, .ref a5]) nl1)
    have hl := same_new (o := .lst [.ref a3, .ref a4, .ref a5]) nl1 _ _ hl
    refine ⟨_, _, _, _, rfl, rfl, hl, upd_same, (by show 6 ≤ sizeLine; decide), fun m1 nm1 => ?_⟩
    have hnew : H m1 = none := sm.free nm1
    have u := u.same (same_new (o := .lst [.ref a0, .ref a1, .ref a2, .ref a3, .ref a4, .ref a5]) nm1)
    have sm := sm.trans (same_new (o := .lst [.ref a0, .ref a1, .ref a2, .ref a3, .ref a4, .ref a5]) nm1)
    have hl : upd (upd H5 l1 (.lst [.ref a3, .ref a4, .ref a5])) m1 (.lst [.ref a0, .ref a1, .ref a2, .ref a3, .ref a4, .ref a5]) m1 = some (.lst [.ref a0, .ref a1, .ref a2, .ref a3, .ref a4, .ref a5]) := upd_same
    refine ⟨_, rfl, ?_⟩
    refine ⟨_, rfl, rfl, rfl, fun a6 n6 => init_read n6 rfl (.cons (dp_same sm h1) .nil) (one_le z1) fun H6 s6 r6 => ?_⟩
    have u : ErrU K H6 C [d1, d2, d3] [.ref a0, .ref a1, .ref a2, .ref a3, .ref a4, .ref a5, .ref a6] := u.snoc s6 r6
    have sm : Same H H6 := sm.trans s6
    have hl := s6 _ _ hl
    refine ⟨_, rfl, rfl, rfl, fun a7 n7 => init_read n7 rfl (.cons (dp_same sm h1) .nil) (one_le z1) fun H7 s7 r7 => ?_⟩
    have u : ErrU K H7 C [d1, d2, d3] [.ref a0, .ref a1, .ref a2, .ref a3, .ref a4, .ref a5, .ref a6, .ref a7] := u.snoc s7 r7
    have sm : Same H H7 := sm.trans s7
    have hl := s7 _ _ hl
    refine ⟨_, rfl, rfl, rfl, fun a8 n8 => init_read n8 rfl (.cons (dp_same sm h1) .nil) (one_le z1) fun H8 s8 r8 => ?_⟩
    have u : ErrU K H8 C [d1, d2, d3] [.ref a0, .ref a1, .ref a2, .ref a3, .ref a4, .ref a5, .ref a6, .ref a7, .ref a8] := u.snoc s8 r8
    have sm : Same H H8 := sm.trans s8
    have hl := s8 _ _ hl
    refine ⟨(by show 3 ≤ sizeLine; decide), fun l2 nl2 => ?_⟩
    have u := u.same (same_new (o := .lst [.ref a6, .ref a7, .ref a8]) nl2)
    have sm := sm.trans (same_new (o := .lst [.ref a6, .ref a7, .ref a8]) nl2)
    have hl := same_new (o := .lst [.ref a6, .ref a7, .ref a8]) nl2 _ _ hl
    refine ⟨_, _, _, _, rfl, rfl, hl, upd_same, (by show 9 ≤ sizeLine; decide), fun m2 nm2 => ?_⟩
    have hnew : H m2 = none := sm.free nm2
    have u := u.same (same_new (o := .lst [.ref a0, .ref a1, .ref a2, .ref a3, .ref a4, .ref a5, .ref a6, .ref a7, .ref a8]) nm2)
    have sm := sm.trans (same_new (o := .lst [.ref a0, .ref a1, .ref a2, .ref a3, .ref a4, .ref a5, .ref a6, .ref a7, .ref a8]) nm2)
    have hl : upd (upd H8 l2 (.lst [.ref a6, .ref a7, .ref a8])) m2 (.lst [.ref a0, .ref a1, .ref a2, .ref a3, .ref a4, .ref a5, .ref a6, .ref a7, .ref a8]) m2 = some (.lst [.ref a0, .ref a1, .ref a2, .ref a3, .ref a4, .ref a5, .ref a6, .ref a7, .ref a8]) := upd_same
    refine ⟨_, rfl, ?_⟩
    refine ⟨_, rfl, rfl, rfl, fun a9 n9 => init_read n9 rfl (.cons (dp_same sm h1) .nil) (one_le z1) fun H9 s9 r9 => ?_⟩
    have u : ErrU K H9 C [d1, d2, d3] [.ref a0, .ref a1, .ref a2, .ref a3, .ref a4, .ref a5, .ref a6, .ref a7, .ref a8, .ref a9] := u.snoc s9 r9
    have sm : Same H H9 := sm.trans s9
    have hl := s9 _ _ hl
    refine ⟨_, rfl, rfl, rfl, fun a10 n10 => init_read n10 rfl (.cons (dp_same sm h1) .nil) (one_le z1) fun H10 s10 r10 => ?_⟩
    have u : ErrU K H10 C [d1, d2, d3] [.ref a0, .ref a1, .ref a2, .ref a3, .ref a4, .ref a5, .ref a6, .ref a7, .ref a8, .ref a9, .ref a10] := u.snoc s10 r10
    have sm : Same H H10 := sm.trans s10
    have hl := s10 _ _ hl
    refine ⟨_, rfl, rfl, rfl, fun a11 n11 => init_read n11 rfl (.cons (dp_same sm h1) .nil) (one_le z1) fun H11 s11 r11 => ?_⟩
    have u : ErrU K H11 C [d1, d2, d3] [.ref a0, .ref a1, .ref a2, .ref a3, .ref a4, .ref a5, .ref a6, .ref a7, .ref a8, .ref a9, .ref a10, .ref a11] := u.snoc s11 r11
    have sm : Same H H11 := sm.trans s11
    have hl := s11 _ _ hl
    refine ⟨(by show 3 ≤ sizeLine; decide), fun l3 nl3 => ?_⟩
    have u := u.same (same_new (o := .lst [.ref a9, .ref a10, .ref a11]) nl3)
    have sm := sm.trans (same_new (o := .lst [.ref a9, .ref a10, .ref a11]) nl3)
    have hl := same_new (o := .lst [.ref a9, .ref a10, .ref a11]) nl3 _ _ hl
    refine ⟨_, _, _, _, rfl, rfl, hl, upd_same, (by show 12 ≤ sizeLine; decide), fun m3 nm3 => ?_⟩
    have hnew : H m3 = none := sm.free nm3
    have u := u.same (same_new (o := .lst [.ref a0, .ref a1, .ref a2, .ref a3, .ref a4, .ref a5, .ref a6, .ref a7, .ref a8, .ref a9, .ref a10, .ref a11]) nm3)
    have sm := sm.trans (same_new (o := .lst [.ref a0, .ref a1, .ref a2, .ref a3, .ref a4, .ref a5, .ref a6, .ref a7, .ref a8, .ref a9, .ref a10, .ref a11]) nm3)
    have hl : upd (upd H11 l3 (.lst [.ref a9, .ref a10, .ref a11])) m3 (.lst [.ref a0, .ref a1, .ref a2, .ref a3, .ref a4, .ref a5, .ref a6, .ref a7, .ref a8, .ref a9, .ref a10, .ref a11]) m3 = some (.lst [.ref a0, .ref a1, .ref a2, .ref a3, .ref a4, .ref a5, .ref a6, .ref a7, .ref a8, .ref a9, .ref a10, .ref a11]) := upd_same
    refine ⟨_, rfl, ?_⟩
    refine ⟨_, rfl, rfl, rfl, fun a12 n12 => init_read n12 rfl (.cons (dp_same sm h1) .nil) (one_le z1) fun H12 s12 r12 => ?_⟩
    have u : ErrU K H12 C [d1, d2, d3] [.ref a0, .ref a1, .ref a2, .ref a3, .ref a4, .ref a5, .ref a6, .ref a7, .ref a8, .ref a9, .ref a10, .ref a11, .ref a12] := u.snoc s12 r12
    have sm : Same H H12 := sm.trans s12
    have hl := s12 _ _ hl
    refine ⟨_, rfl, rfl, rfl, fun a13 n13 => init_read n13 rfl (.cons (dp_same sm h1) .nil) (one_le z1) fun H13 s13 r13 => ?_⟩
    have u : ErrU K H13 C [d1, d2, d3] [.ref a0, .ref a1, .ref a2, .ref a3, .ref a4, .ref a5, .ref a6, .ref a7, .ref a8, .ref a9, .ref a10, .ref a11, .ref a12, .ref a13] := u.snoc s13 r13
    have sm : Same H H13 := sm.trans s13
    have hl := s13 _ _ hl
    refine ⟨_, rfl, _, rfl, rfl, rfl, fun a14 n14 => init_read n14 rfl (.cons (dp_same sm h1) (.cons (dp_same sm h2) .nil)) (two_le z1 z2) fun H14 s14 r14 => ?_⟩
    have u : ErrU K H14 C [d1, d2, d3] [.ref a0, .ref a1, .ref a2, .ref a3, .ref a4, .ref a5, .ref a6, .ref a7, .ref a8, .ref a9, .ref a10, .ref a11, .ref a12, .ref a13, .ref a14] := u.snoc s14 r14
    have sm : Same H H14 := sm.trans s14
    have hl := s14 _ _ hl
    refine ⟨(by show 3 ≤ sizeLine; decide), fun l4 nl4 => ?_⟩
    have u := u.same (same_new (o := .lst [.ref a12, .ref a13, .ref a14]) nl4)
    have sm := sm.trans (same_new (o := .lst [.ref a12, .ref a13, .ref a14]) nl4)
    have hl := same_new (o := .lst [.ref a12, .ref a13, .ref a14]) nl4 _ _ hl
    refine ⟨_, _, _, _, rfl, rfl, hl, upd_same, (by show 15 ≤ sizeLine; decide), fun m4 nm4 => ?_⟩
    have hnew : H m4 = none := sm.free nm4
    have u := u.same (same_new (o := .lst [.ref a0, .ref a1, .ref a2, .ref a3, .ref a4, .ref a5, .ref a6, .ref a7, .ref a8, .ref a9, .ref a10, .ref a11, .ref a12, .ref a13, .ref a14]) nm4)
    have sm := sm.trans (same_new (o := .lst [.ref a0, .ref a1, .ref a2, .ref a3, .ref a4, .ref a5, .ref a6, .ref a7, .ref a8, .ref a9, .ref a10, .ref a11, .ref a12, .ref a13, .ref a14]) nm4)
    have hl : upd (upd H14 l4 (.lst [.ref a12, .ref a13, .ref a14])) m4 (.lst [.ref a0, .ref a1, .ref a2, .ref a3, .ref a4, .ref a5, .ref a6, .ref a7, .ref a8, .ref a9, .ref a10, .ref a11, .ref a12, .ref a13, .ref a14]) m4 = some (.lst [.ref a0, .ref a1, .ref a2, .ref a3, .ref a4, .ref a5, .ref a6, .ref a7, .ref a8, .ref a9, .ref a10, .ref a11, .ref a12, .ref a13, .ref a14]) := upd_same
    refine ⟨_, rfl, ?_⟩
    refine ⟨_, rfl, _, rfl, rfl, rfl, fun a15 n15 => init_read n15 rfl (.cons (dp_same sm h1) (.cons (dp_same sm h2) .nil)) (two_le z1 z2) fun H15 s15 r15 => ?_⟩
    have u : ErrU K H15 C [d1, d2, d3] [.ref a0, .ref a1, .ref a2, .ref a3, .ref a4, .ref a5, .ref a6, .ref a7, .ref a8, .ref a9, .ref a10, .ref a11, .ref a12, .ref a13, .ref a14, .ref a15] := u.snoc s15 r15
    have sm : Same H H15 := sm.trans s15
    have hl := s15 _ _ hl
    refine ⟨(by show 1 ≤ sizeLine; decide), fun l5 nl5 => ?_⟩
    have u := u.same (same_new (o := .lst [.ref a15]) nl5)
    have sm := sm.trans (same_new (o := .lst [.ref a15]) nl5)
    have hl := same_new (o := .lst [.ref a15]) nl5 _ _ hl
    refine ⟨_, _, _, _, rfl, rfl, hl, upd_same, (by show 16 ≤ sizeLine; decide), fun m5 nm5 => ?_⟩
    have hnew : H m5 = none := sm.free nm5
    have u := u.same (same_new (o := .lst [.ref a0, .ref a1, .ref a2, .ref a3, .ref a4, .ref a5, .ref a6, .ref a7, .ref a8, .ref a9, .ref a10, .ref a11, .ref a12, .ref a13, .ref a14, .ref a15]) nm5)
    have sm := sm.trans (same_new (o := .lst [.ref a0, .ref a1, .ref a2, .ref a3, .ref a4, .ref a5, .ref a6, .ref a7, .ref a8, .ref a9, .ref a10, .ref a11, .ref a12, .ref a13, .ref a14, .ref a15]) nm5)
    have hl : upd (upd H15 l5 (.lst [.ref a15])) m5 (.lst [.ref a0, .ref a1, .ref a2, .ref a3, .ref a4, .ref a5, .ref a6, .ref a7, .ref a8, .ref a9, .ref a10, .ref a11, .ref a12, .ref a13, .ref a14, .ref a15]) m5 = some (.lst [.ref a0, .ref a1, .ref a2, .ref a3, .ref a4, .ref a5, .ref a6, .ref a7, .ref a8, .ref a9, .ref a10, .ref a11, .ref a12, .ref a13, .ref a14, .ref a15]) := upd_same
    refine ⟨_, rfl, ?_⟩
    refine ⟨_, rfl, _, rfl, _, rfl, rfl, rfl, fun a16 n16 => init_read n16 rfl (.cons (dp_same sm h1) (.cons (dp_same sm h2) (.cons (dp_same sm h3) .nil))) (three_le z1 z2 z3) fun H16 s16 r16 => ?_⟩
    have u : ErrU K H16 C [d1, d2, d3] [.ref a0, .ref a1, .ref a2, .ref a3, .ref a4, .ref a5, .ref a6, .ref a7, .ref a8, .ref a9, .ref a10, .ref a11, .ref a12, .ref a13, .ref a14, .ref a15, .ref a16] := u.snoc s16 r16
    have sm : Same H H16 := sm.trans s16
    have hl := s16 _ _ hl
    refine ⟨(by show 1 ≤ sizeLine; decide), fun l6 nl6 => ?_⟩
    have u := u.same (same_new (o := .lst [.ref a16]) nl6)
    have sm := sm.trans (same_new (o := .lst [.ref a16]) nl6)
    have hl := same_new (o := .lst [.ref a16]) nl6 _ _ hl
    refine ⟨_, _, _, _, rfl, rfl, hl, upd_same, (by show 17 ≤ sizeLine; decide), fun m6 nm6 => ?_⟩
    have hnew : H m6 = none := sm.free nm6
    have u := u.same (same_new (o := .lst [.ref a0, .ref a1, .ref a2, .ref a3, .ref a4, .ref a5, .ref a6, .ref a7, .ref a8, .ref a9, .ref a10, .ref a11, .ref a12, .ref a13, .ref a14, .ref a15, .ref a16]) nm6)
    have sm := sm.trans (same_new (o := .lst [.ref a0, .ref a1, .ref a2, .ref a3, .ref a4, .ref a5, .ref a6, .ref a7, .ref a8, .ref a9, .ref a10, .ref a11, .ref a12, .ref a13, .ref a14, .ref a15, .ref a16]) nm6)
    have hl : upd (upd H16 l6 (.lst [.ref a16])) m6 (.lst [.ref a0, .ref a1, .ref a2, .ref a3, .ref a4, .ref a5, .ref a6, .ref a7, .ref a8, .ref a9, .ref a10, .ref a11, .ref a12, .ref a13, .ref a14, .ref a15, .ref a16]) m6 = some (.lst [.ref a0, .ref a1, .ref a2, .ref a3, .ref a4, .ref a5, .ref a6, .ref a7, .ref a8, .ref a9, .ref a10, .ref a11, .ref a12, .ref a13, .ref a14, .ref a15, .ref a16]) := upd_same
    exact ⟨_, rfl, k _ _ _ sm hnew hl rfl u⟩
end
end K1

set_option Elab.async false
set_option linter.all false
set_option maxRecDepth 100000
set_option maxHeartbeats 4000000
namespace K1
open PySem PySem.Spec PyProof.Rows L2 Rx
abbrev sFields : Stmt := topS 27
abbrev sKinds : Stmt := topS 28
/-- what is asked of the errors' classes when they are looked at -/
structure Kit (K : PySem.W.Frag) (C : Nat → Addr) (R : Addr) : Prop where
  kd : ∀ k j, k < 17 → j < 17 → PySem.W.kitOne K (.ref (C k)) (.ref (C j)) = some (decide (k = j))
  kr : ∀ k, k < 17 → PySem.W.kitOne K (.ref (C k)) (.ref R) = some true
  kv : ∀ k, k < 17 → PySem.W.kitOne K (.ref (C k)) (.type "ValueError") = some true
  ec : ∀ k, k < 17 → ErrC K (C k)
  no : ∀ k, k < 17 → ∀ f ∈ flds k, PySem.W.findIn K (.ref (C k)) f = some none
  cd : ClsD K
def spFields (K : PySem.W.Frag) (C : Nat → Addr) : Sp := fun vs H Q _ => ∃ (k : Nat) (v : V) (es : List PyData), vs = [.int k, v] ∧ k < 17 ∧ ErrAt K H v (C k) (flds k) es ∧
  ∀ (H' : Hp) (l : Addr) (us : List V), Same H H' → H' l = some (.lst us) → DpAll K H' us es → Q (.ref l) H'
section
variable {P : Program} {w : World} {K : PySem.W.Frag} {mg : Str → Option Value} {base : Heap} {C : Nat → Addr} {R : Addr}
theorem scFd : FnScope ["_law_k", "_law_e"] ["_law_k", "_law_e"] (defScope sFields) := ⟨rfl, rfl, rfl, by decide +kernel, rfl, by decide +kernel, by decide +kernel⟩
theorem look1 (f : Str) (u : V) : ([(f, u)] : List (Str × V)).lookup f = some u := by rw [lookup_put, if_pos rfl]

theorem ok_fields {f : Addr} {fd : FuncData} (F : Fun K "_law_fields" "_law_fields" sFields f fd) (T : Kit K C R) : FnOk P w K mg base CX0 1 f fd ["_law_k", "_law_e"] (spFields K C) := by
  refine F.ok scFd (fun vs H Q E h => ?_) (fun cdv A outer s H vs Q E hr h => ?_)
  · obtain ⟨k, v, es, rfl, _⟩ := h
    rfl
  · obtain ⟨k, v, es, rfl, hk, ⟨a, d, us, rfl, ha, hd, hu, hl⟩, q⟩ := h
    refine ⟨_, (pss_cons (ps_if (pt_cmpR op_eq (pv 0) pe_int (nomark _)) (pss_one (ps_ret (pe_lst (pa_cons (pe_exf (pv 1)) pa_nil)))) pss_nil)
      (pss_cons (ps_if (pt_cmpR op_eq (pv 0) pe_int (nomark _)) (pss_one (ps_ret (pe_lst (pa_cons (pe_exf (pv 1)) pa_nil)))) pss_nil)
      (pss_cons (ps_if (pt_cmpR op_in_seq (pv 0) (pe_tup (pa_cons pe_int (pa_cons pe_int pa_nil))) (by rfl)) (pss_one (ps_ret (pe_lst (pa_cons (pe_exf (pv 1)) pa_nil)))) pss_nil)
      (pss_cons (ps_if (pt_cmpR op_in_seq (pv 0) (pe_tup (pa_cons pe_int (pa_cons pe_int pa_nil))) (by rfl)) (pss_one (ps_ret (pe_lst (pa_cons (pe_exf (pv 1)) pa_nil)))) pss_nil)
      (pss_cons (ps_if (pt_cmpR op_eq (pv 0) pe_int (nomark _)) (pss_one (ps_ret (pe_lst (pa_cons (pe_exf (pv 1)) pa_nil)))) pss_nil)
      (pss_cons (ps_if (pt_cmpR op_eq (pv 0) pe_int (nomark _)) (pss_one (ps_ret (pe_lst (pa_cons (pe_exf (pv 1)) pa_nil)))) pss_nil)
      (pss_cons (ps_if (pt_cmpR op_in_seq (pv 0) (pe_tup (pa_cons pe_int (pa_cons pe_int pa_nil))) (by rfl)) (pss_one (ps_ret (pe_lst (pa_cons (pe_exf (pv 1)) pa_nil)))) pss_nil)
      (pss_cons (ps_if (pt_cmpR op_eq (pv 0) pe_int (nomark _)) (pss_one (ps_ret (pe_lst (pa_cons (pe_exf (pv 1)) pa_nil)))) pss_nil)
      (pss_cons (ps_if (pt_cmpR op_eq (pv 0) pe_int (nomark _)) (pss_one (ps_ret (pe_lst (pa_cons (pe_exf (pv 1)) pa_nil)))) pss_nil)
      (pss_cons (ps_if (pt_cmpR op_eq (pv 0) pe_int (nomark _)) (pss_one (ps_ret (pe_lst (pa_cons (pe_exf (pv 1)) pa_nil)))) pss_nil)
      (pss_cons (ps_if (pt_cmpR op_eq (pv 0) pe_int (nomark _)) (pss_one (ps_ret (pe_lst (pa_cons (pe_exf (pv 1)) pa_nil)))) pss_nil)
      (pss_one (ps_ret (pe_ifExp (pt_cmpR op_lt (pv 0) pe_int (nomark _)) (pe_lst (pa_cons (pe_exf (pv 1)) (pa_cons (pe_exf (pv 1)) pa_nil))) (pe_lst (pa_cons (pe_exf (pv 1)) (pa_cons (pe_exf (pv 1)) (pa_cons (pe_exf (pv 1)) pa_nil)))))))))))))))))), ?_⟩
    have T1 := T.ec k hk
    have T2 := T.no k hk
    have sm : Same H H := Same.refl H
    match k, hk, T1, T2, ha, hd, hl with
    | 0, _, T1, T2, ha, hd, hl =>
      match us, hl, hd, hu with
      | [u0], _, hd, hu =>
        refine ⟨_, rfl, rfl, _, rfl, iteTc (by decide) ?_⟩
        refine ⟨_, rfl, a, _, d, _, u0, rfl, T1, T2 _ (by simp [flds, fldL]), sm _ _ ha, sm _ _ hd, look1 _ _, (by show 1 ≤ sizeLine; decide), fun l nl => ?_⟩
        exact q _ l [u0] (sm.trans (same_new nl)) upd_same (dpAll_same (sm.trans (same_new nl)) hu)
    | 1, _, T1, T2, ha, hd, hl =>
      match us, hl, hd, hu with
      | [u0], _, hd, hu =>
        refine ⟨_, rfl, rfl, _, rfl, iteFc (by decide) ?_⟩
        refine ⟨_, rfl, rfl, _, rfl, iteTc (by decide) ?_⟩
        refine ⟨_, rfl, a, _, d, _, u0, rfl, T1, T2 _ (by simp [flds, fldL]), sm _ _ ha, sm _ _ hd, look1 _ _, (by show 1 ≤ sizeLine; decide), fun l nl => ?_⟩
        exact q _ l [u0] (sm.trans (same_new nl)) upd_same (dpAll_same (sm.trans (same_new nl)) hu)
    | 2, _, T1, T2, ha, hd, hl =>
      match us, hl, hd, hu with
      | [u0], _, hd, hu =>
        refine ⟨_, rfl, rfl, _, rfl, iteFc (by decide) ?_⟩
        refine ⟨_, rfl, rfl, _, rfl, iteFc (by decide) ?_⟩
        refine ⟨_, rfl, (by show 2 ≤ sizeLine; decide), fun q2 nq2 => ?_⟩
        have sm := sm.trans (same_new (o := .tup [.int 2, .int 4]) nq2)
        refine ⟨q2, _, rfl, .inr (SqT.of upd_same), rfl, rfl, _, rfl, iteTc (by decide) ?_⟩
        refine ⟨_, rfl, a, _, d, _, u0, rfl, T1, T2 _ (by simp [flds, fldL]), sm _ _ ha, sm _ _ hd, look1 _ _, (by show 1 ≤ sizeLine; decide), fun l nl => ?_⟩
        exact q _ l [u0] (sm.trans (same_new nl)) upd_same (dpAll_same (sm.trans (same_new nl)) hu)
    | 3, _, T1, T2, ha, hd, hl =>
      match us, hl, hd, hu with
      | [u0], _, hd, hu =>
        refine ⟨_, rfl, rfl, _, rfl, iteFc (by decide) ?_⟩
        refine ⟨_, rfl, rfl, _, rfl, iteFc (by decide) ?_⟩
        refine ⟨_, rfl, (by show 2 ≤ sizeLine; decide), fun q2 nq2 => ?_⟩
        have sm := sm.trans (same_new (o := .tup [.int 2, .int 4]) nq2)
        refine ⟨q2, _, rfl, .inr (SqT.of upd_same), rfl, rfl, _, rfl, iteFc (by decide) ?_⟩
        refine ⟨_, rfl, (by show 2 ≤ sizeLine; decide), fun q3 nq3 => ?_⟩
        have sm := sm.trans (same_new (o := .tup [.int 3, .int 9]) nq3)
        refine ⟨q3, _, rfl, .inr (SqT.of upd_same), rfl, rfl, _, rfl, iteTc (by decide) ?_⟩
        refine ⟨_, rfl, a, _, d, _, u0, rfl, T1, T2 _ (by simp [flds, fldL]), sm _ _ ha, sm _ _ hd, look1 _ _, (by show 1 ≤ sizeLine; decide), fun l nl => ?_⟩
        exact q _ l [u0] (sm.trans (same_new nl)) upd_same (dpAll_same (sm.trans (same_new nl)) hu)
    | 4, _, T1, T2, ha, hd, hl =>
      match us, hl, hd, hu with
      | [u0], _, hd, hu =>
        refine ⟨_, rfl, rfl, _, rfl, iteFc (by decide) ?_⟩
        refine ⟨_, rfl, rfl, _, rfl, iteFc (by decide) ?_⟩
        refine ⟨_, rfl, (by show 2 ≤ sizeLine; decide), fun q2 nq2 => ?_⟩
        have sm := sm.trans (same_new (o := .tup [.int 2, .int 4]) nq2)
        refine ⟨q2, _, rfl, .inr (SqT.of upd_same), rfl, rfl, _, rfl, iteTc (by decide) ?_⟩
        refine ⟨_, rfl, a, _, d, _, u0, rfl, T1, T2 _ (by simp [flds, fldL]), sm _ _ ha, sm _ _ hd, look1 _ _, (by show 1 ≤ sizeLine; decide), fun l nl => ?_⟩
        exact q _ l [u0] (sm.trans (same_new nl)) upd_same (dpAll_same (sm.trans (same_new nl)) hu)
    | 5, _, T1, T2, ha, hd, hl =>
      match us, hl, hd, hu with
      | [u0], _, hd, hu =>
        refine ⟨_, rfl, rfl, _, rfl, iteFc (by decide) ?_⟩
        refine ⟨_, rfl, rfl, _, rfl, iteFc (by decide) ?_⟩
        refine ⟨_, rfl, (by show 2 ≤ sizeLine; decide), fun q2 nq2 => ?_⟩
        have sm := sm.trans (same_new (o := .tup [.int 2, .int 4]) nq2)
        refine ⟨q2, _, rfl, .inr (SqT.of upd_same), rfl, rfl, _, rfl, iteFc (by decide) ?_⟩
        refine ⟨_, rfl, (by show 2 ≤ sizeLine; decide), fun q3 nq3 => ?_⟩
        have sm := sm.trans (same_new (o := .tup [.int 3, .int 9]) nq3)
        refine ⟨q3, _, rfl, .inr (SqT.of upd_same), rfl, rfl, _, rfl, iteFc (by decide) ?_⟩
        refine ⟨_, rfl, rfl, _, rfl, iteTc (by decide) ?_⟩
        refine ⟨_, rfl, a, _, d, _, u0, rfl, T1, T2 _ (by simp [flds, fldL]), sm _ _ ha, sm _ _ hd, look1 _ _, (by show 1 ≤ sizeLine; decide), fun l nl => ?_⟩
        exact q _ l [u0] (sm.trans (same_new nl)) upd_same (dpAll_same (sm.trans (same_new nl)) hu)
    | 6, _, T1, T2, ha, hd, hl =>
      match us, hl, hd, hu with
      | [u0], _, hd, hu =>
        refine ⟨_, rfl, rfl, _, rfl, iteFc (by decide) ?_⟩
        refine ⟨_, rfl, rfl, _, rfl, iteFc (by decide) ?_⟩
        refine ⟨_, rfl, (by show 2 ≤ sizeLine; decide), fun q2 nq2 => ?_⟩
        have sm := sm.trans (same_new (o := .tup [.int 2, .int 4]) nq2)
        refine ⟨q2, _, rfl, .inr (SqT.of upd_same), rfl, rfl, _, rfl, iteFc (by decide) ?_⟩
        refine ⟨_, rfl, (by show 2 ≤ sizeLine; decide), fun q3 nq3 => ?_⟩
        have sm := sm.trans (same_new (o := .tup [.int 3, .int 9]) nq3)
        refine ⟨q3, _, rfl, .inr (SqT.of upd_same), rfl, rfl, _, rfl, iteFc (by decide) ?_⟩
        refine ⟨_, rfl, rfl, _, rfl, iteFc (by decide) ?_⟩
        refine ⟨_, rfl, rfl, _, rfl, iteTc (by decide) ?_⟩
        refine ⟨_, rfl, a, _, d, _, u0, rfl, T1, T2 _ (by simp [flds, fldL]), sm _ _ ha, sm _ _ hd, look1 _ _, (by show 1 ≤ sizeLine; decide), fun l nl => ?_⟩
        exact q _ l [u0] (sm.trans (same_new nl)) upd_same (dpAll_same (sm.trans (same_new nl)) hu)
    | 7, _, T1, T2, ha, hd, hl =>
      match us, hl, hd, hu with
      | [u0], _, hd, hu =>
        refine ⟨_, rfl, rfl, _, rfl, iteFc (by decide) ?_⟩
        refine ⟨_, rfl, rfl, _, rfl, iteFc (by decide) ?_⟩
        refine ⟨_, rfl, (by show 2 ≤ sizeLine; decide), fun q2 nq2 => ?_⟩
        have sm := sm.trans (same_new (o := .tup [.int 2, .int 4]) nq2)
        refine ⟨q2, _, rfl, .inr (SqT.of upd_same), rfl, rfl, _, rfl, iteFc (by decide) ?_⟩
        refine ⟨_, rfl, (by show 2 ≤ sizeLine; decide), fun q3 nq3 => ?_⟩
        have sm := sm.trans (same_new (o := .tup [.int 3, .int 9]) nq3)
        refine ⟨q3, _, rfl, .inr (SqT.of upd_same), rfl, rfl, _, rfl, iteFc (by decide) ?_⟩
        refine ⟨_, rfl, rfl, _, rfl, iteFc (by decide) ?_⟩
        refine ⟨_, rfl, rfl, _, rfl, iteFc (by decide) ?_⟩
        refine ⟨_, rfl, (by show 2 ≤ sizeLine; decide), fun q6 nq6 => ?_⟩
        have sm := sm.trans (same_new (o := .tup [.int 7, .int 8]) nq6)
        refine ⟨q6, _, rfl, .inr (SqT.of upd_same), rfl, rfl, _, rfl, iteTc (by decide) ?_⟩
        refine ⟨_, rfl, a, _, d, _, u0, rfl, T1, T2 _ (by simp [flds, fldL]), sm _ _ ha, sm _ _ hd, look1 _ _, (by show 1 ≤ sizeLine; decide), fun l nl => ?_⟩
        exact q _ l [u0] (sm.trans (same_new nl)) upd_same (dpAll_same (sm.trans (same_new nl)) hu)
    | 8, _, T1, T2, ha, hd, hl =>
      match us, hl, hd, hu with
      | [u0], _, hd, hu =>
        refine ⟨_, rfl, rfl, _, rfl, iteFc (by decide) ?_⟩
        refine ⟨_, rfl, rfl, _, rfl, iteFc (by decide) ?_⟩
        refine ⟨_, rfl, (by show 2 ≤ sizeLine; decide), fun q2 nq2 => ?_⟩
        have sm := sm.trans (same_new (o := .tup [.int 2, .int 4]) nq2)
        refine ⟨q2, _, rfl, .inr (SqT.of upd_same), rfl, rfl, _, rfl, iteFc (by decide) ?_⟩
        refine ⟨_, rfl, (by show 2 ≤ sizeLine; decide), fun q3 nq3 => ?_⟩
        have sm := sm.trans (same_new (o := .tup [.int 3, .int 9]) nq3)
        refine ⟨q3, _, rfl, .inr (SqT.of upd_same), rfl, rfl, _, rfl, iteFc (by decide) ?_⟩
        refine ⟨_, rfl, rfl, _, rfl, iteFc (by decide) ?_⟩
        refine ⟨_, rfl, rfl, _, rfl, iteFc (by decide) ?_⟩
        refine ⟨_, rfl, (by show 2 ≤ sizeLine; decide), fun q6 nq6 => ?_⟩
        have sm := sm.trans (same_new (o := .tup [.int 7, .int 8]) nq6)
        refine ⟨q6, _, rfl, .inr (SqT.of upd_same), rfl, rfl, _, rfl, iteTc (by decide) ?_⟩
        refine ⟨_, rfl, a, _, d, _, u0, rfl, T1, T2 _ (by simp [flds, fldL]), sm _ _ ha, sm _ _ hd, look1 _ _, (by show 1 ≤ sizeLine; decide), fun l nl => ?_⟩
        exact q _ l [u0] (sm.trans (same_new nl)) upd_same (dpAll_same (sm.trans (same_new nl)) hu)
    | 9, _, T1, T2, ha, hd, hl =>
      match us, hl, hd, hu with
      | [u0], _, hd, hu =>
        refine ⟨_, rfl, rfl, _, rfl, iteFc (by decide) ?_⟩
        refine ⟨_, rfl, rfl, _, rfl, iteFc (by decide) ?_⟩
        refine ⟨_, rfl, (by show 2 ≤ sizeLine; decide), fun q2 nq2 => ?_⟩
        have sm := sm.trans (same_new (o := .tup [.int 2, .int 4]) nq2)
        refine ⟨q2, _, rfl, .inr (SqT.of upd_same), rfl, rfl, _, rfl, iteFc (by decide) ?_⟩
        refine ⟨_, rfl, (by show 2 ≤ sizeLine; decide), fun q3 nq3 => ?_⟩
        have sm := sm.trans (same_new (o := .tup [.int 3, .int 9]) nq3)
        refine ⟨q3, _, rfl, .inr (SqT.of upd_same), rfl, rfl, _, rfl, iteTc (by decide) ?_⟩
        refine ⟨_, rfl, a, _, d, _, u0, rfl, T1, T2 _ (by simp [flds, fldL]), sm _ _ ha, sm _ _ hd, look1 _ _, (by show 1 ≤ sizeLine; decide), fun l nl => ?_⟩
        exact q _ l [u0] (sm.trans (same_new nl)) upd_same (dpAll_same (sm.trans (same_new nl)) hu)
    | 10, _, T1, T2, ha, hd, hl =>
      match us, hl, hd, hu with
      | [u0], _, hd, hu =>
        refine ⟨_, rfl, rfl, _, rfl, iteFc (by decide) ?_⟩
        refine ⟨_, rfl, rfl, _, rfl, iteFc (by decide) ?_⟩
        refine ⟨_, rfl, (by show 2 ≤ sizeLine; decide), fun q2 nq2 => ?_⟩
        have sm := sm.trans (same_new (o := .tup [.int 2, .int 4]) nq2)
        refine ⟨q2, _, rfl, .inr (SqT.of upd_same), rfl, rfl, _, rfl, iteFc (by decide) ?_⟩
        refine ⟨_, rfl, (by show 2 ≤ sizeLine; decide), fun q3 nq3 => ?_⟩
        have sm := sm.trans (same_new (o := .tup [.int 3, .int 9]) nq3)
        refine ⟨q3, _, rfl, .inr (SqT.of upd_same), rfl, rfl, _, rfl, iteFc (by decide) ?_⟩
        refine ⟨_, rfl, rfl, _, rfl, iteFc (by decide) ?_⟩
        refine ⟨_, rfl, rfl, _, rfl, iteFc (by decide) ?_⟩
        refine ⟨_, rfl, (by show 2 ≤ sizeLine; decide), fun q6 nq6 => ?_⟩
        have sm := sm.trans (same_new (o := .tup [.int 7, .int 8]) nq6)
        refine ⟨q6, _, rfl, .inr (SqT.of upd_same), rfl, rfl, _, rfl, iteFc (by decide) ?_⟩
        refine ⟨_, rfl, rfl, _, rfl, iteTc (by decide) ?_⟩
        refine ⟨_, rfl, a, _, d, _, u0, rfl, T1, T2 _ (by simp [flds, fldL]), sm _ _ ha, sm _ _ hd, look1 _ _, (by show 1 ≤ sizeLine; decide), fun l nl => ?_⟩
        exact q _ l [u0] (sm.trans (same_new nl)) upd_same (dpAll_same (sm.trans (same_new nl)) hu)
    | 11, _, T1, T2, ha, hd, hl =>
      match us, hl, hd, hu with
      | [u0], _, hd, hu =>
        refine ⟨_, rfl, rfl, _, rfl, iteFc (by decide) ?_⟩
        refine ⟨_, rfl, rfl, _, rfl, iteFc (by decide) ?_⟩
        refine ⟨_, rfl, (by show 2 ≤ sizeLine; decide), fun q2 nq2 => ?_⟩
        have sm := sm.trans (same_new (o := .tup [.int 2, .int 4]) nq2)
        refine ⟨q2, _, rfl, .inr (SqT.of upd_same), rfl, rfl, _, rfl, iteFc (by decide) ?_⟩
        refine ⟨_, rfl, (by show 2 ≤ sizeLine; decide), fun q3 nq3 => ?_⟩
        have sm := sm.trans (same_new (o := .tup [.int 3, .int 9]) nq3)
        refine ⟨q3, _, rfl, .inr (SqT.of upd_same), rfl, rfl, _, rfl, iteFc (by decide) ?_⟩
        refine ⟨_, rfl, rfl, _, rfl, iteFc (by decide) ?_⟩
        refine ⟨_, rfl, rfl, _, rfl, iteFc (by decide) ?_⟩
        refine ⟨_, rfl, (by show 2 ≤ sizeLine; decide), fun q6 nq6 => ?_⟩
        have sm := sm.trans (same_new (o := .tup [.int 7, .int 8]) nq6)
        refine ⟨q6, _, rfl, .inr (SqT.of upd_same), rfl, rfl, _, rfl, iteFc (by decide) ?_⟩
        refine ⟨_, rfl, rfl, _, rfl, iteFc (by decide) ?_⟩
        refine ⟨_, rfl, rfl, _, rfl, iteTc (by decide) ?_⟩
        refine ⟨_, rfl, a, _, d, _, u0, rfl, T1, T2 _ (by simp [flds, fldL]), sm _ _ ha, sm _ _ hd, look1 _ _, (by show 1 ≤ sizeLine; decide), fun l nl => ?_⟩
        exact q _ l [u0] (sm.trans (same_new nl)) upd_same (dpAll_same (sm.trans (same_new nl)) hu)
    | 12, _, T1, T2, ha, hd, hl =>
      match us, hl, hd, hu with
      | [u0], _, hd, hu =>
        refine ⟨_, rfl, rfl, _, rfl, iteFc (by decide) ?_⟩
        refine ⟨_, rfl, rfl, _, rfl, iteFc (by decide) ?_⟩
        refine ⟨_, rfl, (by show 2 ≤ sizeLine; decide), fun q2 nq2 => ?_⟩
        have sm := sm.trans (same_new (o := .tup [.int 2, .int 4]) nq2)
        refine ⟨q2, _, rfl, .inr (SqT.of upd_same), rfl, rfl, _, rfl, iteFc (by decide) ?_⟩
        refine ⟨_, rfl, (by show 2 ≤ sizeLine; decide), fun q3 nq3 => ?_⟩
        have sm := sm.trans (same_new (o := .tup [.int 3, .int 9]) nq3)
        refine ⟨q3, _, rfl, .inr (SqT.of upd_same), rfl, rfl, _, rfl, iteFc (by decide) ?_⟩
        refine ⟨_, rfl, rfl, _, rfl, iteFc (by decide) ?_⟩
        refine ⟨_, rfl, rfl, _, rfl, iteFc (by decide) ?_⟩
        refine ⟨_, rfl, (by show 2 ≤ sizeLine; decide), fun q6 nq6 => ?_⟩
        have sm := sm.trans (same_new (o := .tup [.int 7, .int 8]) nq6)
        refine ⟨q6, _, rfl, .inr (SqT.of upd_same), rfl, rfl, _, rfl, iteFc (by decide) ?_⟩
        refine ⟨_, rfl, rfl, _, rfl, iteFc (by decide) ?_⟩
        refine ⟨_, rfl, rfl, _, rfl, iteFc (by decide) ?_⟩
        refine ⟨_, rfl, rfl, _, rfl, iteTc (by decide) ?_⟩
        refine ⟨_, rfl, a, _, d, _, u0, rfl, T1, T2 _ (by simp [flds, fldL]), sm _ _ ha, sm _ _ hd, look1 _ _, (by show 1 ≤ sizeLine; decide), fun l nl => ?_⟩
        exact q _ l [u0] (sm.trans (same_new nl)) upd_same (dpAll_same (sm.trans (same_new nl)) hu)
    | 13, _, T1, T2, ha, hd, hl =>
      match us, hl, hd, hu with
      | [u0], _, hd, hu =>
        refine ⟨_, rfl, rfl, _, rfl, iteFc (by decide) ?_⟩
        refine ⟨_, rfl, rfl, _, rfl, iteFc (by decide) ?_⟩
        refine ⟨_, rfl, (by show 2 ≤ sizeLine; decide), fun q2 nq2 => ?_⟩
        have sm := sm.trans (same_new (o := .tup [.int 2, .int 4]) nq2)
        refine ⟨q2, _, rfl, .inr (SqT.of upd_same), rfl, rfl, _, rfl, iteFc (by decide) ?_⟩
        refine ⟨_, rfl, (by show 2 ≤ sizeLine; decide), fun q3 nq3 => ?_⟩
        have sm := sm.trans (same_new (o := .tup [.int 3, .int 9]) nq3)
        refine ⟨q3, _, rfl, .inr (SqT.of upd_same), rfl, rfl, _, rfl, iteFc (by decide) ?_⟩
        refine ⟨_, rfl, rfl, _, rfl, iteFc (by decide) ?_⟩
        refine ⟨_, rfl, rfl, _, rfl, iteFc (by decide) ?_⟩
        refine ⟨_, rfl, (by show 2 ≤ sizeLine; decide), fun q6 nq6 => ?_⟩
        have sm := sm.trans (same_new (o := .tup [.int 7, .int 8]) nq6)
        refine ⟨q6, _, rfl, .inr (SqT.of upd_same), rfl, rfl, _, rfl, iteFc (by decide) ?_⟩
        refine ⟨_, rfl, rfl, _, rfl, iteFc (by decide) ?_⟩
        refine ⟨_, rfl, rfl, _, rfl, iteFc (by decide) ?_⟩
        refine ⟨_, rfl, rfl, _, rfl, iteFc (by decide) ?_⟩
        refine ⟨_, rfl, rfl, _, rfl, iteTc (by decide) ?_⟩
        refine ⟨_, rfl, a, _, d, _, u0, rfl, T1, T2 _ (by simp [flds, fldL]), sm _ _ ha, sm _ _ hd, look1 _ _, (by show 1 ≤ sizeLine; decide), fun l nl => ?_⟩
        exact q _ l [u0] (sm.trans (same_new nl)) upd_same (dpAll_same (sm.trans (same_new nl)) hu)
    | 14, _, T1, T2, ha, hd, hl =>
      match us, hl, hd, hu with
      | [u0, u1], _, hd, hu =>
        refine ⟨_, rfl, rfl, _, rfl, iteFc (by decide) ?_⟩
        refine ⟨_, rfl, rfl, _, rfl, iteFc (by decide) ?_⟩
        refine ⟨_, rfl, (by show 2 ≤ sizeLine; decide), fun q2 nq2 => ?_⟩
        have sm := sm.trans (same_new (o := .tup [.int 2, .int 4]) nq2)
        refine ⟨q2, _, rfl, .inr (SqT.of upd_same), rfl, rfl, _, rfl, iteFc (by decide) ?_⟩
        refine ⟨_, rfl, (by show 2 ≤ sizeLine; decide), fun q3 nq3 => ?_⟩
        have sm := sm.trans (same_new (o := .tup [.int 3, .int 9]) nq3)
        refine ⟨q3, _, rfl, .inr (SqT.of upd_same), rfl, rfl, _, rfl, iteFc (by decide) ?_⟩
        refine ⟨_, rfl, rfl, _, rfl, iteFc (by decide) ?_⟩
        refine ⟨_, rfl, rfl, _, rfl, iteFc (by decide) ?_⟩
        refine ⟨_, rfl, (by show 2 ≤ sizeLine; decide), fun q6 nq6 => ?_⟩
        have sm := sm.trans (same_new (o := .tup [.int 7, .int 8]) nq6)
        refine ⟨q6, _, rfl, .inr (SqT.of upd_same), rfl, rfl, _, rfl, iteFc (by decide) ?_⟩
        refine ⟨_, rfl, rfl, _, rfl, iteFc (by decide) ?_⟩
        refine ⟨_, rfl, rfl, _, rfl, iteFc (by decide) ?_⟩
        refine ⟨_, rfl, rfl, _, rfl, iteFc (by decide) ?_⟩
        refine ⟨_, rfl, rfl, _, rfl, iteFc (by decide) ?_⟩
        refine ⟨_, rfl, _, _, rfl, rfl, _, rfl, iteTc (by decide) ?_⟩
        refine ⟨_, rfl, a, _, d, _, u0, rfl, T1, T2 _ (by simp [flds, fldL]), sm _ _ ha, sm _ _ hd, (show ([("reason", u1), ("line", u0)] : List (Str × V)).lookup ("line" : Str) = some u0 by rw [lookup_put, if_neg (by decide +kernel)]; rw [lookup_put, if_pos rfl]), _, rfl, a, _, d, _, u1, rfl, T1, T2 _ (by simp [flds, fldL]), sm _ _ ha, sm _ _ hd, (show ([("reason", u1), ("line", u0)] : List (Str × V)).lookup ("reason" : Str) = some u1 by rw [lookup_put, if_pos rfl]), (by show 2 ≤ sizeLine; decide), fun l nl => ?_⟩
        exact q _ l [u0, u1] (sm.trans (same_new nl)) upd_same (dpAll_same (sm.trans (same_new nl)) hu)
    | 15, _, T1, T2, ha, hd, hl =>
      match us, hl, hd, hu with
      | [u0, u1], _, hd, hu =>
        refine ⟨_, rfl, rfl, _, rfl, iteFc (by decide) ?_⟩
        refine ⟨_, rfl, rfl, _, rfl, iteFc (by decide) ?_⟩
        refine ⟨_, rfl, (by show 2 ≤ sizeLine; decide), fun q2 nq2 => ?_⟩
        have sm := sm.trans (same_new (o := .tup [.int 2, .int 4]) nq2)
        refine ⟨q2, _, rfl, .inr (SqT.of upd_same), rfl, rfl, _, rfl, iteFc (by decide) ?_⟩
        refine ⟨_, rfl, (by show 2 ≤ sizeLine; decide), fun q3 nq3 => ?_⟩
        have sm := sm.trans (same_new (o := .tup [.int 3, .int 9]) nq3)
        refine ⟨q3, _, rfl, .inr (SqT.of upd_same), rfl, rfl, _, rfl, iteFc (by decide) ?_⟩
        refine ⟨_, rfl, rfl, _, rfl, iteFc (by decide) ?_⟩
        refine ⟨_, rfl, rfl, _, rfl, iteFc (by decide) ?_⟩
        refine ⟨_, rfl, (by show 2 ≤ sizeLine; decide), fun q6 nq6 => ?_⟩
        have sm := sm.trans (same_new (o := .tup [.int 7, .int 8]) nq6)
        refine ⟨q6, _, rfl, .inr (SqT.of upd_same), rfl, rfl, _, rfl, iteFc (by decide) ?_⟩
        refine ⟨_, rfl, rfl, _, rfl, iteFc (by decide) ?_⟩
        refine ⟨_, rfl, rfl, _, rfl, iteFc (by decide) ?_⟩
        refine ⟨_, rfl, rfl, _, rfl, iteFc (by decide) ?_⟩
        refine ⟨_, rfl, rfl, _, rfl, iteFc (by decide) ?_⟩
        refine ⟨_, rfl, _, _, rfl, rfl, _, rfl, iteTc (by decide) ?_⟩
        refine ⟨_, rfl, a, _, d, _, u0, rfl, T1, T2 _ (by simp [flds, fldL]), sm _ _ ha, sm _ _ hd, (show ([("reason", u1), ("line", u0)] : List (Str × V)).lookup ("line" : Str) = some u0 by rw [lookup_put, if_neg (by decide +kernel)]; rw [lookup_put, if_pos rfl]), _, rfl, a, _, d, _, u1, rfl, T1, T2 _ (by simp [flds, fldL]), sm _ _ ha, sm _ _ hd, (show ([("reason", u1), ("line", u0)] : List (Str × V)).lookup ("reason" : Str) = some u1 by rw [lookup_put, if_pos rfl]), (by show 2 ≤ sizeLine; decide), fun l nl => ?_⟩
        exact q _ l [u0, u1] (sm.trans (same_new nl)) upd_same (dpAll_same (sm.trans (same_new nl)) hu)
    | 16, _, T1, T2, ha, hd, hl =>
      match us, hl, hd, hu with
      | [u0, u1, u2], _, hd, hu =>
        refine ⟨_, rfl, rfl, _, rfl, iteFc (by decide) ?_⟩
        refine ⟨_, rfl, rfl, _, rfl, iteFc (by decide) ?_⟩
        refine ⟨_, rfl, (by show 2 ≤ sizeLine; decide), fun q2 nq2 => ?_⟩
        have sm := sm.trans (same_new (o := .tup [.int 2, .int 4]) nq2)
        refine ⟨q2, _, rfl, .inr (SqT.of upd_same), rfl, rfl, _, rfl, iteFc (by decide) ?_⟩
        refine ⟨_, rfl, (by show 2 ≤ sizeLine; decide), fun q3 nq3 => ?_⟩
        have sm := sm.trans (same_new (o := .tup [.int 3, .int 9]) nq3)
        refine ⟨q3, _, rfl, .inr (SqT.of upd_same), rfl, rfl, _, rfl, iteFc (by decide) ?_⟩
        refine ⟨_, rfl, rfl, _, rfl, iteFc (by decide) ?_⟩
        refine ⟨_, rfl, rfl, _, rfl, iteFc (by decide) ?_⟩
        refine ⟨_, rfl, (by show 2 ≤ sizeLine; decide), fun q6 nq6 => ?_⟩
        have sm := sm.trans (same_new (o := .tup [.int 7, .int 8]) nq6)
        refine ⟨q6, _, rfl, .inr (SqT.of upd_same), rfl, rfl, _, rfl, iteFc (by decide) ?_⟩
        refine ⟨_, rfl, rfl, _, rfl, iteFc (by decide) ?_⟩
        refine ⟨_, rfl, rfl, _, rfl, iteFc (by decide) ?_⟩
        refine ⟨_, rfl, rfl, _, rfl, iteFc (by decide) ?_⟩
        refine ⟨_, rfl, rfl, _, rfl, iteFc (by decide) ?_⟩
        refine ⟨_, rfl, _, _, rfl, rfl, _, rfl, iteFc (by decide) ?_⟩
        refine ⟨_, rfl, a, _, d, _, u0, rfl, T1, T2 _ (by simp [flds, fldL]), sm _ _ ha, sm _ _ hd, (show ([("number", u2), ("name", u1), ("reason", u0)] : List (Str × V)).lookup ("reason" : Str) = some u0 by rw [lookup_put, if_neg (by decide +kernel)]; rw [lookup_put, if_neg (by decide +kernel)]; rw [lookup_put, if_pos rfl]), _, rfl, a, _, d, _, u1, rfl, T1, T2 _ (by simp [flds, fldL]), sm _ _ ha, sm _ _ hd, (show ([("number", u2), ("name", u1), ("reason", u0)] : List (Str × V)).lookup ("name" : Str) = some u1 by rw [lookup_put, if_neg (by decide +kernel)]; rw [lookup_put, if_pos rfl]), _, rfl, a, _, d, _, u2, rfl, T1, T2 _ (by simp [flds, fldL]), sm _ _ ha, sm _ _ hd, (show ([("number", u2), ("name", u1), ("reason", u0)] : List (Str × V)).lookup ("number" : Str) = some u2 by rw [lookup_put, if_pos rfl]), (by show 3 ≤ sizeLine; decide), fun l nl => ?_⟩
        exact q _ l [u0, u1, u2] (sm.trans (same_new nl)) upd_same (dpAll_same (sm.trans (same_new nl)) hu)
    | n + 17, hk, _, _, _, _, _ => exact absurd hk (by omega)
end
end K1

set_option Elab.async false
set_option linter.all false
set_option maxRecDepth 100000
set_option maxHeartbeats 4000000
namespace K1
open PySem PySem.Spec PyProof.Rows L2 Rx
def nmL : List Str := ["BadText", "Fault", "UnknownProcess", "BadInputs", "NotReady", "BadSender", "BadEvent", "BadRecordLine", "BadLine", "BadWait", "NotLive", "TooMany", "BadCut", "Missing", "BadProgram", "BadConditions", "BadRecord"]
def nms (k : Nat) : Str := nmL.getD k ""
def spKinds (K : PySem.W.Frag) (C : Nat → Addr) : Sp := fun vs H Q _ => ∃ (k : Nat) (v : V) (fs : List Str) (es : List PyData), vs = [v] ∧ k < 17 ∧ ErrAt K H v (C k) fs es ∧
  ∀ (H' : Hp) (l : Addr), Same H H' → H' l = some (.lst [.int k]) → Q (.ref l) H'
def bits (k : Nat) : List V := (List.range 17).map fun i => V.bl (decide (k = i))
theorem bits_at {k i : Nat} (h : i < 17) : (bits k)[i]? = some (.bl (decide (k = i))) := by
  unfold bits
  rw [List.getElem?_map, List.getElem?_range h]
  rfl
section
variable {P : Program} {w : World} {K : PySem.W.Frag} {mg : Str → Option Value} {base : Heap} {C : Nat → Addr} {R : Addr}
theorem scK : FnScope ["_law_e", "_law_found", "_law_k"] ["_law_e"] (defScope sKinds) := ⟨rfl, rfl, rfl, by decide +kernel, rfl, by decide +kernel, by decide +kernel⟩
theorem ok_kinds {f : Addr} {fd : FuncData} (F : Fun K "_law_kinds" "_law_kinds" sKinds f fd) (B : TxtB mg) (mr : mg "range" = none) (T : Kit K C R) (me : ∀ k, k < 17 → mg (nms k) = some (.ref (C k))) : FnOk P w K mg base CX0 1 f fd ["_law_e"] (spKinds K C) := by
  refine F.ok scK (fun vs H Q E h => ?_) (fun cdv A outer s H vs Q E hr h => ?_)
  · obtain ⟨k, v, fs, es, rfl, _⟩ := h
    rfl
  · obtain ⟨k, v, fs, es, rfl, hk, ⟨a, d, us, rfl, ha, hd, hu, hl⟩, q⟩ := h
    refine ⟨_, (pss_cons (ps_set (i := 1) scK.nd rfl (.inr rfl) (pe_lst (pa_cons (pe_callB call_isX (by rfl) B.isi (by decide +kernel) (pa_cons (pv 0) (pa_cons (pe_glob (v := .ref (C 0)) rfl (me 0 (by decide)) rfl) pa_nil))) (pa_cons (pe_callB call_isX (by rfl) B.isi (by decide +kernel) (pa_cons (pv 0) (pa_cons (pe_glob (v := .ref (C 1)) rfl (me 1 (by decide)) rfl) pa_nil))) pa_nil))))
      (pss_cons (ps_set (i := 1) scK.nd rfl (.inr rfl) (pe_op op_cat (pv 1) (pe_lst (pa_cons (pe_callB call_isX (by rfl) B.isi (by decide +kernel) (pa_cons (pv 0) (pa_cons (pe_glob (v := .ref (C 2)) rfl (me 2 (by decide)) rfl) pa_nil))) (pa_cons (pe_callB call_isX (by rfl) B.isi (by decide +kernel) (pa_cons (pv 0) (pa_cons (pe_glob (v := .ref (C 3)) rfl (me 3 (by decide)) rfl) pa_nil))) pa_nil)))))
      (pss_cons (ps_set (i := 1) scK.nd rfl (.inr rfl) (pe_op op_cat (pv 1) (pe_lst (pa_cons (pe_callB call_isX (by rfl) B.isi (by decide +kernel) (pa_cons (pv 0) (pa_cons (pe_glob (v := .ref (C 4)) rfl (me 4 (by decide)) rfl) pa_nil))) (pa_cons (pe_callB call_isX (by rfl) B.isi (by decide +kernel) (pa_cons (pv 0) (pa_cons (pe_glob (v := .ref (C 5)) rfl (me 5 (by decide)) rfl) pa_nil))) pa_nil)))))
      (pss_cons (ps_set (i := 1) scK.nd rfl (.inr rfl) (pe_op op_cat (pv 1) (pe_lst (pa_cons (pe_callB call_isX (by rfl) B.isi (by decide +kernel) (pa_cons (pv 0) (pa_cons (pe_glob (v := .ref (C 6)) rfl (me 6 (by decide)) rfl) pa_nil))) (pa_cons (pe_callB call_isX (by rfl) B.isi (by decide +kernel) (pa_cons (pv 0) (pa_cons (pe_glob (v := .ref (C 7)) rfl (me 7 (by decide)) rfl) pa_nil))) pa_nil)))))
      (pss_cons (ps_set (i := 1) scK.nd rfl (.inr rfl) (pe_op op_cat (pv 1) (pe_lst (pa_cons (pe_callB call_isX (by rfl) B.isi (by decide +kernel) (pa_cons (pv 0) (pa_cons (pe_glob (v := .ref (C 8)) rfl (me 8 (by decide)) rfl) pa_nil))) (pa_cons (pe_callB call_isX (by rfl) B.isi (by decide +kernel) (pa_cons (pv 0) (pa_cons (pe_glob (v := .ref (C 9)) rfl (me 9 (by decide)) rfl) pa_nil))) (pa_cons (pe_callB call_isX (by rfl) B.isi (by decide +kernel) (pa_cons (pv 0) (pa_cons (pe_glob (v := .ref (C 10)) rfl (me 10 (by decide)) rfl) pa_nil))) pa_nil))))))
      (pss_cons (ps_set (i := 1) scK.nd rfl (.inr rfl) (pe_op op_cat (pv 1) (pe_lst (pa_cons (pe_callB call_isX (by rfl) B.isi (by decide +kernel) (pa_cons (pv 0) (pa_cons (pe_glob (v := .ref (C 11)) rfl (me 11 (by decide)) rfl) pa_nil))) (pa_cons (pe_callB call_isX (by rfl) B.isi (by decide +kernel) (pa_cons (pv 0) (pa_cons (pe_glob (v := .ref (C 12)) rfl (me 12 (by decide)) rfl) pa_nil))) (pa_cons (pe_callB call_isX (by rfl) B.isi (by decide +kernel) (pa_cons (pv 0) (pa_cons (pe_glob (v := .ref (C 13)) rfl (me 13 (by decide)) rfl) pa_nil))) pa_nil))))))
      (pss_cons (ps_set (i := 1) scK.nd rfl (.inr rfl) (pe_op op_cat (pv 1) (pe_lst (pa_cons (pe_callB call_isX (by rfl) B.isi (by decide +kernel) (pa_cons (pv 0) (pa_cons (pe_glob (v := .ref (C 14)) rfl (me 14 (by decide)) rfl) pa_nil))) (pa_cons (pe_callB call_isX (by rfl) B.isi (by decide +kernel) (pa_cons (pv 0) (pa_cons (pe_glob (v := .ref (C 15)) rfl (me 15 (by decide)) rfl) pa_nil))) pa_nil)))))
      (pss_cons (ps_set (i := 1) scK.nd rfl (.inr rfl) (pe_op op_cat (pv 1) (pe_lst (pa_cons (pe_callB call_isX (by rfl) B.isi (by decide +kernel) (pa_cons (pv 0) (pa_cons (pe_glob (v := .ref (C 16)) rfl (me 16 (by decide)) rfl) pa_nil))) pa_nil))))
      (pss_one (ps_ret (pe_lc (own := [("_law_k", 2)]) (g := gName 2) (tt := tTest (tOp (rIxL K) (tVar 1) (tVar 2))) (te := tVar 2) rfl scK.nd (pi_range1 rfl mr (pa_cons pe_int pa_nil))
            (blkOk_by (own := [("_law_k", 2)]) (N := ["_law_e", "_law_found", "_law_k"]) (sc := defScope sKinds) (by decide +kernel))
            (fun _ _ _ _ _ => pg_name (i := 2) scK.nd rfl (Or.inl rfl)) (fun _ _ _ _ _ => pts_one (pt_val (pe_ix ix_list (pv 1) (pv 2) (fun _ _ => rfl))))
            (fun _ _ _ _ _ => pv 2)))))))))))), ?_⟩
    have sm : Same H H := Same.refl H
    refine ⟨_, rfl, a, C k, d, _, _, _, _, rfl, .own _, T.ec k hk, T.cd, sm _ _ ha, sm _ _ hd, T.kd k 0 hk (by decide), ?_⟩
    refine ⟨_, rfl, a, C k, d, _, _, _, _, rfl, .own _, T.ec k hk, T.cd, sm _ _ ha, sm _ _ hd, T.kd k 1 hk (by decide), ?_⟩
    refine ⟨(by show 2 ≤ sizeLine; decide), fun l0 nl0 => ?_⟩
    have sm := sm.trans (same_new (o := .lst [.bl (decide (k = 0)), .bl (decide (k = 1))]) nl0)
    have hl : upd H l0 (.lst [.bl (decide (k = 0)), .bl (decide (k = 1))]) l0 = some (.lst [.bl (decide (k = 0)), .bl (decide (k = 1))]) := upd_same
    refine ⟨_, rfl, ?_⟩
    refine ⟨_, rfl, a, C k, d, _, _, _, _, rfl, .own _, T.ec k hk, T.cd, sm _ _ ha, sm _ _ hd, T.kd k 2 hk (by decide), ?_⟩
    refine ⟨_, rfl, a, C k, d, _, _, _, _, rfl, .own _, T.ec k hk, T.cd, sm _ _ ha, sm _ _ hd, T.kd k 3 hk (by decide), ?_⟩
    refine ⟨(by show 2 ≤ sizeLine; decide), fun l1 nl1 => ?_⟩
    have sm := sm.trans (same_new (o := .lst [.bl (decide (k = 2)), .bl (decide (k = 3))]) nl1)
    have hl := same_new (o := .lst [.bl (decide (k = 2)), .bl (decide (k = 3))]) nl1 _ _ hl
    refine ⟨_, _, _, _, rfl, rfl, hl, upd_same, (by show 4 ≤ sizeLine; decide), fun m1 nm1 => ?_⟩
    have sm := sm.trans (same_new (o := .lst [.bl (decide (k = 0)), .bl (decide (k = 1)), .bl (decide (k = 2)), .bl (decide (k = 3))]) nm1)
    have hl : upd (upd (upd H l0 (.lst [.bl (decide (k = 0)), .bl (decide (k = 1))])) l1 (.lst [.bl (decide (k = 2)), .bl (decide (k = 3))])) m1 (.lst [.bl (decide (k = 0)), .bl (decide (k = 1)), .bl (decide (k = 2)), .bl (decide (k = 3))]) m1 = some (.lst [.bl (decide (k = 0)), .bl (decide (k = 1)), .bl (decide (k = 2)), .bl (decide (k = 3))]) := upd_same
    refine ⟨_, rfl, ?_⟩
    refine ⟨_, rfl, a, C k, d, _, _, _, _, rfl, .own _, T.ec k hk, T.cd, sm _ _ ha, sm _ _ hd, T.kd k 4 hk (by decide), ?_⟩
    refine ⟨_, rfl, a, C k, d, _, _, _, _, rfl, .own _, T.ec k hk, T.cd, sm _ _ ha, sm _ _ hd, T.kd k 5 hk (by decide), ?_⟩
    refine ⟨(by show 2 ≤ sizeLine; decide), fun l2 nl2 => ?_⟩
    have sm := sm.trans (same_new (o := .lst [.bl (decide (k = 4)), .bl (decide (k = 5))]) nl2)
    have hl := same_new (o := .lst [.bl (decide (k = 4)), .bl (decide (k = 5))]) nl2 _ _ hl
    refine ⟨_, _, _, _, rfl, rfl, hl, upd_same, (by show 6 ≤ sizeLine; decide), fun m2 nm2 => ?_⟩
    have sm := sm.trans (same_new (o := .lst [.bl (decide (k = 0)), .bl (decide (k = 1)), .bl (decide (k = 2)), .bl (decide (k = 3)), .bl (decide (k = 4)), .bl (decide (k = 5))]) nm2)
    have hl : upd (upd (upd (upd (upd H l0 (.lst [.bl (decide (k = 0)), .bl (decide (k = 1))])) l1 (.lst [.bl (decide (k = 2)), .bl (decide (k = 3))])) m1 (.lst [.bl (decide (k = 0)), .bl (decide (k = 1)), .bl (decide (k = 2)), .bl (decide (k = 3))])) l2 (.lst [.bl (decide (k = 4)), .bl (decide (k = 5))])) m2 (.lst [.bl (decide (k = 0)), .bl (decide (k = 1)), .bl (decide (k = 2)), .bl (decide (k = 3)), .bl (decide (k = 4)), .bl (decide (k = 5))]) m2 = some (.lst [.bl (decide (k = 0)), .bl (decide (k = 1)), .bl (decide (k = 2)), .bl (decide (k = 3)), .bl (decide (k = 4)), .bl (decide (k = 5))]) := upd_same
    refine ⟨_, rfl, ?_⟩
    refine ⟨_, rfl, a, C k, d, _, _, _, _, rfl, .own _, T.ec k hk, T.cd, sm _ _ ha, sm _ _ hd, T.kd k 6 hk (by decide), ?_⟩
    refine ⟨_, rfl, a, C k, d, _, _, _, _, rfl, .own _, T.ec k hk, T.cd, sm _ _ ha, sm _ _ hd, T.kd k 7 hk (by decide), ?_⟩
    refine ⟨(by show 2 ≤ sizeLine; decide), fun l3 nl3 => ?_⟩
    have sm := sm.trans (same_new (o := .lst [.bl (decide (k = 6)), .bl (decide (k = 7))]) nl3)
    have hl := same_new (o := .lst [.bl (decide (k = 6)), .bl (decide (k = 7))]) nl3 _ _ hl
    refine ⟨_, _, _, _, rfl, rfl, hl, upd_same, (by show 8 ≤ sizeLine; decide), fun m3 nm3 => ?_⟩
    have sm := sm.trans (same_new (o := .lst [.bl (decide (k = 0)), .bl (decide (k = 1)), .bl (decide (k = 2)), .bl (decide (k = 3)), .bl (decide (k = 4)), .bl (decide (k = 5)), .bl (decide (k = 6)), .bl (decide (k = 7))]) nm3)
    have hl : upd (upd (upd (upd (upd (upd (upd H l0 (.lst [.bl (decide (k = 0)), .bl (decide (k = 1))])) l1 (.lst [.bl (decide (k = 2)), .bl (decide (k = 3))])) m1 (.lst [.bl (decide (k = 0)), .bl (decide (k = 1)), .bl (decide (k = 2)), .bl (decide (k = 3))])) l2 (.lst [.bl (decide (k = 4)), .bl (decide (k = 5))])) m2 (.lst [.bl (decide (k = 0)), .bl (decide (k = 1)), .bl (decide (k = 2)), .bl (decide (k = 3)), .bl (decide (k = 4)), .bl (decide (k = 5))])) l3 (.lst [.bl (decide (k = 6)), .bl (decide (k = 7))])) m3 (.lst [.bl (decide (k = 0)), .bl (decide (k = 1)), .bl (decide (k = 2)), .bl (decide (k = 3)), .bl (decide (k = 4)), .bl (decide (k = 5)), .bl (decide (k = 6)), .bl (decide (k = 7))]) m3 = some (.lst [.bl (decide (k = 0)), .bl (decide (k = 1)), .bl (decide (k = 2)), .bl (decide (k = 3)), .bl (decide (k = 4)), .bl (decide (k = 5)), .bl (decide (k = 6)), .bl (decide (k = 7))]) := upd_same
    refine ⟨_, rfl, ?_⟩
    refine ⟨_, rfl, a, C k, d, _, _, _, _, rfl, .own _, T.ec k hk, T.cd, sm _ _ ha, sm _ _ hd, T.kd k 8 hk (by decide), ?_⟩
    refine ⟨_, rfl, a, C k, d, _, _, _, _, rfl, .own _, T.ec k hk, T.cd, sm _ _ ha, sm _ _ hd, T.kd k 9 hk (by decide), ?_⟩
    refine ⟨_, rfl, a, C k, d, _, _, _, _, rfl, .own _, T.ec k hk, T.cd, sm _ _ ha, sm _ _ hd, T.kd k 10 hk (by decide), ?_⟩
    refine ⟨(by show 3 ≤ sizeLine; decide), fun l4 nl4 => ?_⟩
    have sm := sm.trans (same_new (o := .lst [.bl (decide (k = 8)), .bl (decide (k = 9)), .bl (decide (k = 10))]) nl4)
    have hl := same_new (o := .lst [.bl (decide (k = 8)), .bl (decide (k = 9)), .bl (decide (k = 10))]) nl4 _ _ hl
    refine ⟨_, _, _, _, rfl, rfl, hl, upd_same, (by show 11 ≤ sizeLine; decide), fun m4 nm4 => ?_⟩
    have sm := sm.trans (same_new (o := .lst [.bl (decide (k = 0)), .bl (decide (k = 1)), .bl (decide (k = 2)), .bl (decide (k = 3)), .bl (decide (k = 4)), .bl (decide (k = 5)), .bl (decide (k = 6)), .bl (decide (k = 7)), .bl (decide (k = 8)), .bl (decide (k = 9)), .bl (decide (k = 10))]) nm4)
    have hl : upd (upd (upd (upd (upd (upd (upd (upd (upd H l0 (.lst [.bl (decide (k = 0)), .bl (decide (k = 1))])) l1 (.lst [.bl (decide (k = 2)), .bl (decide (k = 3))])) m1 (.lst [.bl (decide (k = 0)), .bl (decide (k = 1)), .bl (decide (k = 2)), .bl (decide (k = 3))])) l2 (.lst [.bl (decide (k = 4)), .bl (decide (k = 5))])) m2 (.lst [.bl (decide (k = 0)), .bl (decide (k = 1)), .bl (decide (k = 2)), .bl (decide (k = 3)), .bl (decide (k = 4)), .bl (decide (k = 5))])) l3 (.lst [.bl (decide (k = 6)), .bl (decide (k = 7))])) m3 (.lst [.bl (decide (k = 0)), .bl (decide (k = 1)), .bl (decide (k = 2)), .bl (decide (k = 3)), .bl (decide (k = 4)), .bl (decide (k = 5)), .bl (decide (k = 6)), .bl (decide (k = 7))])) l4 (.lst [.bl (decide (k = 8)), .bl (decide (k = 9)), .bl (decide (k = 10))])) m4 (.lst [.bl (decide (k = 0)), .bl (decide (k = 1)), .bl (decide (k = 2)), .bl (decide (k = 3)), .bl (decide (k = 4)), .bl (decide (k = 5)), .bl (decide (k = 6)), .bl (decide (k = 7)), .bl (decide (k = 8)), .bl (decide (k = 9)), .bl (decide (k = 10))]) m4 = some (.lst [.bl (decide (k = 0)), .bl (decide (k = 1)), .bl (decide (k = 2)), .bl (decide (k = 3)), .bl (decide (k = 4)), .bl (decide (k = 5)), .bl (decide (k = 6)), .bl (decide (k = 7)), .bl (decide (k = 8)), .bl (decide (k = 9)), .bl (decide (k = 10))]) := upd_same
    refine ⟨_, rfl, ?_⟩
    refine ⟨_, rfl, a, C k, d, _, _, _, _, rfl, .own _, T.ec k hk, T.cd, sm _ _ ha, sm _ _ hd, T.kd k 11 hk (by decide), ?_⟩
    refine ⟨_, rfl, a, C k, d, _, _, _, _, rfl, .own _, T.ec k hk, T.cd, sm _ _ ha, sm _ _ hd, T.kd k 12 hk (by decide), ?_⟩
    refine ⟨_, rfl, a, C k, d, _, _, _, _, rfl, .own _, T.ec k hk, T.cd, sm _ _ ha, sm _ _ hd, T.kd k 13 hk (by decide), ?_⟩
    refine ⟨(by show 3 ≤ sizeLine; decide), fun l5 nl5 => ?_⟩
    have sm := sm.trans (same_new (o := .lst [.bl (decide (k = 11)), .bl (decide (k = 12)), .bl (decide (k = 13))]) nl5)
    have hl := same_new (o := .lst [.bl (decide (k = 11)), .bl (decide (k = 12)), .bl (decide (k = 13))]) nl5 _ _ hl
    refine ⟨_, _, _, _, rfl, rfl, hl, upd_same, (by show 14 ≤ sizeLine; decide), fun m5 nm5 => ?_⟩
    have sm := sm.trans (same_new (o := .lst [.bl (decide (k = 0)), .bl (decide (k = 1)), .bl (decide (k = 2)), .bl (decide (k = 3)), .bl (decide (k = 4)), .bl (decide (k = 5)), .bl (decide (k = 6)), .bl (decide (k = 7)), .bl (decide (k = 8)), .bl (decide (k = 9)), .bl (decide (k = 10)), .bl (decide (k = 11)), .bl (decide (k = 12)), .bl (decide (k = 13))]) nm5)
    have hl : upd (upd (upd (upd (upd (upd (upd (upd (upd (upd (upd H l0 (.lst [.bl (decide (k = 0)), .bl (decide (k = 1))])) l1 (.lst [.bl (decide (k = 2)), .bl (decide (k = 3))])) m1 (.lst [.bl (decide (k = 0)), .bl (decide (k = 1)), .bl (decide (k = 2)), .bl (decide (k = 3))])) l2 (.lst [.bl (decide (k = 4)), .bl (decide (k = 5))])) m2 (.lst [.bl (decide (k = 0)), .bl (decide (k = 1)), .bl (decide (k = 2)), .bl (decide (k = 3)), .bl (decide (k = 4)), .bl (decide (k = 5))])) l3 (.lst [.bl (decide (k = 6)), .bl (decide (k = 7))])) m3 (.lst [.bl (decide (k = 0)), .bl (decide (k = 1)), .bl (decide (k = 2)), .bl (decide (k = 3)), .bl (decide (k = 4)), .bl (decide (k = 5)), .bl (decide (k = 6)), .bl (decide (k = 7))])) l4 (.lst [.bl (decide (k = 8)), .bl (decide (k = 9)), .bl (decide (k = 10))])) m4 (.lst [.bl (decide (k = 0)), .bl (decide (k = 1)), .bl (decide (k = 2)), .bl (decide (k = 3)), .bl (decide (k = 4)), .bl (decide (k = 5)), .bl (decide (k = 6)), .bl (decide (k = 7)), .bl (decide (k = 8)), .bl (decide (k = 9)), .bl (decide (k = 10))])) l5 (.lst [.bl (decide (k = 11)), .bl (decide (k = 12)), .bl (decide (k = 13))])) m5 (.lst [.bl (decide (k = 0)), .bl (decide (k = 1)), .bl (decide (k = 2)), .bl (decide (k = 3)), .bl (decide (k = 4)), .bl (decide (k = 5)), .bl (decide (k = 6)), .bl (decide (k = 7)), .bl (decide (k = 8)), .bl (decide (k = 9)), .bl (decide (k = 10)), .bl (decide (k = 11)), .bl (decide (k = 12)), .bl (decide (k = 13))]) m5 = some (.lst [.bl (decide (k = 0)), .bl (decide (k = 1)), .bl (decide (k = 2)), .bl (decide (k = 3)), .bl (decide (k = 4)), .bl (decide (k = 5)), .bl (decide (k = 6)), .bl (decide (k = 7)), .bl (decide (k = 8)), .bl (decide (k = 9)), .bl (decide (k = 10)), .bl (decide (k = 11)), .bl (decide (k = 12)), .bl (decide (k = 13))]) := upd_same
    refine ⟨_, rfl, ?_⟩
    refine ⟨_, rfl, a, C k, d, _, _, _, _, rfl, .own _, T.ec k hk, T.cd, sm _ _ ha, sm _ _ hd, T.kd k 14 hk (by decide), ?_⟩
    refine ⟨_, rfl, a, C k, d, _, _, _, _, rfl, .own _, T.ec k hk, T.cd, sm _ _ ha, sm _ _ hd, T.kd k 15 hk (by decide), ?_⟩
    refine ⟨(by show 2 ≤ sizeLine; decide), fun l6 nl6 => ?_⟩
    have sm := sm.trans (same_new (o := .lst [.bl (decide (k = 14)), .bl (decide (k = 15))]) nl6)
    have hl := same_new (o := .lst [.bl (decide (k = 14)), .bl (decide (k = 15))]) nl6 _ _ hl
    refine ⟨_, _, _, _, rfl, rfl, hl, upd_same, (by show 16 ≤ sizeLine; decide), fun m6 nm6 => ?_⟩
    have sm := sm.trans (same_new (o := .lst [.bl (decide (k = 0)), .bl (decide (k = 1)), .bl (decide (k = 2)), .bl (decide (k = 3)), .bl (decide (k = 4)), .bl (decide (k = 5)), .bl (decide (k = 6)), .bl (decide (k = 7)), .bl (decide (k = 8)), .bl (decide (k = 9)), .bl (decide (k = 10)), .bl (decide (k = 11)), .bl (decide (k = 12)), .bl (decide (k = 13)), .bl (decide (k = 14)), .bl (decide (k = 15))]) nm6)
    have hl : upd (upd (upd (upd (upd (upd (upd (upd (upd (upd (upd (upd (upd H l0 (.lst [.bl (decide (k = 0)), .bl (decide (k = 1))])) l1 (.lst [.bl (decide (k = 2)), .bl (decide (k = 3))])) m1 (.lst [.bl (decide (k = 0)), .bl (decide (k = 1)), .bl (decide (k = 2)), .bl (decide (k = 3))])) l2 (.lst [.bl (decide (k = 4)), .bl (decide (k = 5))])) m2 (.lst [.bl (decide (k = 0)), .bl (decide (k = 1)), .bl (decide (k = 2)), .bl (decide (k = 3)), .bl (decide (k = 4)), .bl (decide (k = 5))])) l3 (.lst [.bl (decide (k = 6)), .bl (decide (k = 7))])) m3 (.lst [.bl (decide (k = 0)), .bl (decide (k = 1)), .bl (decide (k = 2)), .bl (decide (k = 3)), .bl (decide (k = 4)), .bl (decide (k = 5)), .bl (decide (k = 6)), .bl (decide (k = 7))])) l4 (.lst [.bl (decide (k = 8)), .bl (decide (k = 9)), .bl (decide (k = 10))])) m4 (.lst [.bl (decide (k = 0)), .bl (decide (k = 1)), .bl (decide (k = 2)), .bl (decide (k = 3)), .bl (decide (k = 4)), .bl (decide (k = 5)), .bl (decide (k = 6)), .bl (decide (k = 7)), .bl (decide (k = 8)), .bl (decide (k = 9)), .bl (decide (k = 10))])) l5 (.lst [.bl (decide (k = 11)), .bl (decide (k = 12)), .bl (decide (k = 13))])) m5 (.lst [.bl (decide (k = 0)), .bl (decide (k = 1)), .bl (decide (k = 2)), .bl (decide (k = 3)), .bl (decide (k = 4)), .bl (decide (k = 5)), .bl (decide (k = 6)), .bl (decide (k = 7)), .bl (decide (k = 8)), .bl (decide (k = 9)), .bl (decide (k = 10)), .bl (decide (k = 11)), .bl (decide (k = 12)), .bl (decide (k = 13))])) l6 (.lst [.bl (decide (k = 14)), .bl (decide (k = 15))])) m6 (.lst [.bl (decide (k = 0)), .bl (decide (k = 1)), .bl (decide (k = 2)), .bl (decide (k = 3)), .bl (decide (k = 4)), .bl (decide (k = 5)), .bl (decide (k = 6)), .bl (decide (k = 7)), .bl (decide (k = 8)), .bl (decide (k = 9)), .bl (decide (k = 10)), .bl (decide (k = 11)), .bl (decide (k = 12)), .bl (decide (k = 13)), .bl (decide (k = 14)), .bl (decide (k = 15))]) m6 = some (.lst [.bl (decide (k = 0)), .bl (decide (k = 1)), .bl (decide (k = 2)), .bl (decide (k = 3)), .bl (decide (k = 4)), .bl (decide (k = 5)), .bl (decide (k = 6)), .bl (decide (k = 7)), .bl (decide (k = 8)), .bl (decide (k = 9)), .bl (decide (k = 10)), .bl (decide (k = 11)), .bl (decide (k = 12)), .bl (decide (k = 13)), .bl (decide (k = 14)), .bl (decide (k = 15))]) := upd_same
    refine ⟨_, rfl, ?_⟩
    refine ⟨_, rfl, a, C k, d, _, _, _, _, rfl, .own _, T.ec k hk, T.cd, sm _ _ ha, sm _ _ hd, T.kd k 16 hk (by decide), ?_⟩
    refine ⟨(by show 1 ≤ sizeLine; decide), fun l7 nl7 => ?_⟩
    have sm := sm.trans (same_new (o := .lst [.bl (decide (k = 16))]) nl7)
    have hl := same_new (o := .lst [.bl (decide (k = 16))]) nl7 _ _ hl
    refine ⟨_, _, _, _, rfl, rfl, hl, upd_same, (by show 17 ≤ sizeLine; decide), fun m7 nm7 => ?_⟩
    have sm := sm.trans (same_new (o := .lst [.bl (decide (k = 0)), .bl (decide (k = 1)), .bl (decide (k = 2)), .bl (decide (k = 3)), .bl (decide (k = 4)), .bl (decide (k = 5)), .bl (decide (k = 6)), .bl (decide (k = 7)), .bl (decide (k = 8)), .bl (decide (k = 9)), .bl (decide (k = 10)), .bl (decide (k = 11)), .bl (decide (k = 12)), .bl (decide (k = 13)), .bl (decide (k = 14)), .bl (decide (k = 15)), .bl (decide (k = 16))]) nm7)
    have hl : upd (upd (upd (upd (upd (upd (upd (upd (upd (upd (upd (upd (upd (upd (upd H l0 (.lst [.bl (decide (k = 0)), .bl (decide (k = 1))])) l1 (.lst [.bl (decide (k = 2)), .bl (decide (k = 3))])) m1 (.lst [.bl (decide (k = 0)), .bl (decide (k = 1)), .bl (decide (k = 2)), .bl (decide (k = 3))])) l2 (.lst [.bl (decide (k = 4)), .bl (decide (k = 5))])) m2 (.lst [.bl (decide (k = 0)), .bl (decide (k = 1)), .bl (decide (k = 2)), .bl (decide (k = 3)), .bl (decide (k = 4)), .bl (decide (k = 5))])) l3 (.lst [.bl (decide (k = 6)), .bl (decide (k = 7))])) m3 (.lst [.bl (decide (k = 0)), .bl (decide (k = 1)), .bl (decide (k = 2)), .bl (decide (k = 3)), .bl (decide (k = 4)), .bl (decide (k = 5)), .bl (decide (k = 6)), .bl (decide (k = 7))])) l4 (.lst [.bl (decide (k = 8)), .bl (decide (k = 9)), .bl (decide (k = 10))])) m4 (.lst [.bl (decide (k = 0)), .bl (decide (k = 1)), .bl (decide (k = 2)), .bl (decide (k = 3)), .bl (decide (k = 4)), .bl (decide (k = 5)), .bl (decide (k = 6)), .bl (decide (k = 7)), .bl (decide (k = 8)), .bl (decide (k = 9)), .bl (decide (k = 10))])) l5 (.lst [.bl (decide (k = 11)), .bl (decide (k = 12)), .bl (decide (k = 13))])) m5 (.lst [.bl (decide (k = 0)), .bl (decide (k = 1)), .bl (decide (k = 2)), .bl (decide (k = 3)), .bl (decide (k = 4)), .bl (decide (k = 5)), .bl (decide (k = 6)), .bl (decide (k = 7)), .bl (decide (k = 8)), .bl (decide (k = 9)), .bl (decide (k = 10)), .bl (decide (k = 11)), .bl (decide (k = 12)), .bl (decide (k = 13))])) l6 (.lst [.bl (decide (k = 14)), .bl (decide (k = 15))])) m6 (.lst [.bl (decide (k = 0)), .bl (decide (k = 1)), .bl (decide (k = 2)), .bl (decide (k = 3)), .bl (decide (k = 4)), .bl (decide (k = 5)), .bl (decide (k = 6)), .bl (decide (k = 7)), .bl (decide (k = 8)), .bl (decide (k = 9)), .bl (decide (k = 10)), .bl (decide (k = 11)), .bl (decide (k = 12)), .bl (decide (k = 13)), .bl (decide (k = 14)), .bl (decide (k = 15))])) l7 (.lst [.bl (decide (k = 16))])) m7 (.lst [.bl (decide (k = 0)), .bl (decide (k = 1)), .bl (decide (k = 2)), .bl (decide (k = 3)), .bl (decide (k = 4)), .bl (decide (k = 5)), .bl (decide (k = 6)), .bl (decide (k = 7)), .bl (decide (k = 8)), .bl (decide (k = 9)), .bl (decide (k = 10)), .bl (decide (k = 11)), .bl (decide (k = 12)), .bl (decide (k = 13)), .bl (decide (k = 14)), .bl (decide (k = 15)), .bl (decide (k = 16))]) m7 = some (.lst [.bl (decide (k = 0)), .bl (decide (k = 1)), .bl (decide (k = 2)), .bl (decide (k = 3)), .bl (decide (k = 4)), .bl (decide (k = 5)), .bl (decide (k = 6)), .bl (decide (k = 7)), .bl (decide (k = 8)), .bl (decide (k = 9)), .bl (decide (k = 10)), .bl (decide (k = 11)), .bl (decide (k = 12)), .bl (decide (k = 13)), .bl (decide (k = 14)), .bl (decide (k = 15)), .bl (decide (k = 16))]) := upd_same
    obtain ⟨G, hG⟩ : ∃ G, G = (upd (upd (upd (upd (upd (upd (upd (upd (upd (upd (upd (upd (upd (upd (upd H l0 (.lst [.bl (decide (k = 0)), .bl (decide (k = 1))])) l1 (.lst [.bl (decide (k = 2)), .bl (decide (k = 3))])) m1 (.lst [.bl (decide (k = 0)), .bl (decide (k = 1)), .bl (decide (k = 2)), .bl (decide (k = 3))])) l2 (.lst [.bl (decide (k = 4)), .bl (decide (k = 5))])) m2 (.lst [.bl (decide (k = 0)), .bl (decide (k = 1)), .bl (decide (k = 2)), .bl (decide (k = 3)), .bl (decide (k = 4)), .bl (decide (k = 5))])) l3 (.lst [.bl (decide (k = 6)), .bl (decide (k = 7))])) m3 (.lst [.bl (decide (k = 0)), .bl (decide (k = 1)), .bl (decide (k = 2)), .bl (decide (k = 3)), .bl (decide (k = 4)), .bl (decide (k = 5)), .bl (decide (k = 6)), .bl (decide (k = 7))])) l4 (.lst [.bl (decide (k = 8)), .bl (decide (k = 9)), .bl (decide (k = 10))])) m4 (.lst [.bl (decide (k = 0)), .bl (decide (k = 1)), .bl (decide (k = 2)), .bl (decide (k = 3)), .bl (decide (k = 4)), .bl (decide (k = 5)), .bl (decide (k = 6)), .bl (decide (k = 7)), .bl (decide (k = 8)), .bl (decide (k = 9)), .bl (decide (k = 10))])) l5 (.lst [.bl (decide (k = 11)), .bl (decide (k = 12)), .bl (decide (k = 13))])) m5 (.lst [.bl (decide (k = 0)), .bl (decide (k = 1)), .bl (decide (k = 2)), .bl (decide (k = 3)), .bl (decide (k = 4)), .bl (decide (k = 5)), .bl (decide (k = 6)), .bl (decide (k = 7)), .bl (decide (k = 8)), .bl (decide (k = 9)), .bl (decide (k = 10)), .bl (decide (k = 11)), .bl (decide (k = 12)), .bl (decide (k = 13))])) l6 (.lst [.bl (decide (k = 14)), .bl (decide (k = 15))])) m6 (.lst [.bl (decide (k = 0)), .bl (decide (k = 1)), .bl (decide (k = 2)), .bl (decide (k = 3)), .bl (decide (k = 4)), .bl (decide (k = 5)), .bl (decide (k = 6)), .bl (decide (k = 7)), .bl (decide (k = 8)), .bl (decide (k = 9)), .bl (decide (k = 10)), .bl (decide (k = 11)), .bl (decide (k = 12)), .bl (decide (k = 13)), .bl (decide (k = 14)), .bl (decide (k = 15))])) l7 (.lst [.bl (decide (k = 16))])) m7 (.lst [.bl (decide (k = 0)), .bl (decide (k = 1)), .bl (decide (k = 2)), .bl (decide (k = 3)), .bl (decide (k = 4)), .bl (decide (k = 5)), .bl (decide (k = 6)), .bl (decide (k = 7)), .bl (decide (k = 8)), .bl (decide (k = 9)), .bl (decide (k = 10)), .bl (decide (k = 11)), .bl (decide (k = 12)), .bl (decide (k = 13)), .bl (decide (k = 14)), .bl (decide (k = 15)), .bl (decide (k = 16))])) := ⟨_, rfl⟩
    have hb : (upd (upd (upd (upd (upd (upd (upd (upd (upd (upd (upd (upd (upd (upd (upd H l0 (.lst [.bl (decide (k = 0)), .bl (decide (k = 1))])) l1 (.lst [.bl (decide (k = 2)), .bl (decide (k = 3))])) m1 (.lst [.bl (decide (k = 0)), .bl (decide (k = 1)), .bl (decide (k = 2)), .bl (decide (k = 3))])) l2 (.lst [.bl (decide (k = 4)), .bl (decide (k = 5))])) m2 (.lst [.bl (decide (k = 0)), .bl (decide (k = 1)), .bl (decide (k = 2)), .bl (decide (k = 3)), .bl (decide (k = 4)), .bl (decide (k = 5))])) l3 (.lst [.bl (decide (k = 6)), .bl (decide (k = 7))])) m3 (.lst [.bl (decide (k = 0)), .bl (decide (k = 1)), .bl (decide (k = 2)), .bl (decide (k = 3)), .bl (decide (k = 4)), .bl (decide (k = 5)), .bl (decide (k = 6)), .bl (decide (k = 7))])) l4 (.lst [.bl (decide (k = 8)), .bl (decide (k = 9)), .bl (decide (k = 10))])) m4 (.lst [.bl (decide (k = 0)), .bl (decide (k = 1)), .bl (decide (k = 2)), .bl (decide (k = 3)), .bl (decide (k = 4)), .bl (decide (k = 5)), .bl (decide (k = 6)), .bl (decide (k = 7)), .bl (decide (k = 8)), .bl (decide (k = 9)), .bl (decide (k = 10))])) l5 (.lst [.bl (decide (k = 11)), .bl (decide (k = 12)), .bl (decide (k = 13))])) m5 (.lst [.bl (decide (k = 0)), .bl (decide (k = 1)), .bl (decide (k = 2)), .bl (decide (k = 3)), .bl (decide (k = 4)), .bl (decide (k = 5)), .bl (decide (k = 6)), .bl (decide (k = 7)), .bl (decide (k = 8)), .bl (decide (k = 9)), .bl (decide (k = 10)), .bl (decide (k = 11)), .bl (decide (k = 12)), .bl (decide (k = 13))])) l6 (.lst [.bl (decide (k = 14)), .bl (decide (k = 15))])) m6 (.lst [.bl (decide (k = 0)), .bl (decide (k = 1)), .bl (decide (k = 2)), .bl (decide (k = 3)), .bl (decide (k = 4)), .bl (decide (k = 5)), .bl (decide (k = 6)), .bl (decide (k = 7)), .bl (decide (k = 8)), .bl (decide (k = 9)), .bl (decide (k = 10)), .bl (decide (k = 11)), .bl (decide (k = 12)), .bl (decide (k = 13)), .bl (decide (k = 14)), .bl (decide (k = 15))])) l7 (.lst [.bl (decide (k = 16))])) m7 (.lst [.bl (decide (k = 0)), .bl (decide (k = 1)), .bl (decide (k = 2)), .bl (decide (k = 3)), .bl (decide (k = 4)), .bl (decide (k = 5)), .bl (decide (k = 6)), .bl (decide (k = 7)), .bl (decide (k = 8)), .bl (decide (k = 9)), .bl (decide (k = 10)), .bl (decide (k = 11)), .bl (decide (k = 12)), .bl (decide (k = 13)), .bl (decide (k = 14)), .bl (decide (k = 15)), .bl (decide (k = 16))])) m7 = some (.lst (bits k)) := hl
    refine ⟨17, rfl, by decide, by decide, fun D hD => ?_⟩
    have nD : m7 ≠ D := ne_of_none hb hD
    refine lc_range (lo := 0) (n := 17) (fun i Hx => Hx D = some (.lst (if k < i then [V.int k] else [])) ∧ Same (upd (upd (upd (upd (upd (upd (upd (upd (upd (upd (upd (upd (upd (upd (upd H l0 (.lst [.bl (decide (k = 0)), .bl (decide (k = 1))])) l1 (.lst [.bl (decide (k = 2)), .bl (decide (k = 3))])) m1 (.lst [.bl (decide (k = 0)), .bl (decide (k = 1)), .bl (decide (k = 2)), .bl (decide (k = 3))])) l2 (.lst [.bl (decide (k = 4)), .bl (decide (k = 5))])) m2 (.lst [.bl (decide (k = 0)), .bl (decide (k = 1)), .bl (decide (k = 2)), .bl (decide (k = 3)), .bl (decide (k = 4)), .bl (decide (k = 5))])) l3 (.lst [.bl (decide (k = 6)), .bl (decide (k = 7))])) m3 (.lst [.bl (decide (k = 0)), .bl (decide (k = 1)), .bl (decide (k = 2)), .bl (decide (k = 3)), .bl (decide (k = 4)), .bl (decide (k = 5)), .bl (decide (k = 6)), .bl (decide (k = 7))])) l4 (.lst [.bl (decide (k = 8)), .bl (decide (k = 9)), .bl (decide (k = 10))])) m4 (.lst [.bl (decide (k = 0)), .bl (decide (k = 1)), .bl (decide (k = 2)), .bl (decide (k = 3)), .bl (decide (k = 4)), .bl (decide (k = 5)), .bl (decide (k = 6)), .bl (decide (k = 7)), .bl (decide (k = 8)), .bl (decide (k = 9)), .bl (decide (k = 10))])) l5 (.lst [.bl (decide (k = 11)), .bl (decide (k = 12)), .bl (decide (k = 13))])) m5 (.lst [.bl (decide (k = 0)), .bl (decide (k = 1)), .bl (decide (k = 2)), .bl (decide (k = 3)), .bl (decide (k = 4)), .bl (decide (k = 5)), .bl (decide (k = 6)), .bl (decide (k = 7)), .bl (decide (k = 8)), .bl (decide (k = 9)), .bl (decide (k = 10)), .bl (decide (k = 11)), .bl (decide (k = 12)), .bl (decide (k = 13))])) l6 (.lst [.bl (decide (k = 14)), .bl (decide (k = 15))])) m6 (.lst [.bl (decide (k = 0)), .bl (decide (k = 1)), .bl (decide (k = 2)), .bl (decide (k = 3)), .bl (decide (k = 4)), .bl (decide (k = 5)), .bl (decide (k = 6)), .bl (decide (k = 7)), .bl (decide (k = 8)), .bl (decide (k = 9)), .bl (decide (k = 10)), .bl (decide (k = 11)), .bl (decide (k = 12)), .bl (decide (k = 13)), .bl (decide (k = 14)), .bl (decide (k = 15))])) l7 (.lst [.bl (decide (k = 16))])) m7 (.lst [.bl (decide (k = 0)), .bl (decide (k = 1)), .bl (decide (k = 2)), .bl (decide (k = 3)), .bl (decide (k = 4)), .bl (decide (k = 5)), .bl (decide (k = 6)), .bl (decide (k = 7)), .bl (decide (k = 8)), .bl (decide (k = 9)), .bl (decide (k = 10)), .bl (decide (k = 11)), .bl (decide (k = 12)), .bl (decide (k = 13)), .bl (decide (k = 14)), .bl (decide (k = 15)), .bl (decide (k = 16))])) Hx) ?_ ?_ ?_
    · exact ⟨by rw [upd_same]; simp, same_new hD⟩
    · rintro i Hx hi ⟨h1, h2⟩
      refine ⟨rfl, _, rfl, _, rfl, m7, bits k, _, _, rfl, rfl, SqL.of (h2 _ _ hb), (by rw [Int.zero_add]; exact atI_nat (bits_at hi)), _, rfl, ?_⟩
      refine ite2 (fun e => ?_) (fun e => ?_)
      · have e' : k = i := of_decide_eq_true e
        subst e'
        rw [if_neg (Nat.lt_irrefl k)] at h1
        refine ⟨_, rfl, [], h1, (by show 0 < sizeLine; decide), ?_, ?_⟩
        · rw [upd_same, if_pos (Nat.lt_succ_self k)]
          simp
        · exact fun b o e => by rw [upd_ne (ne_of_none e hD)]; exact h2 b o e
      · have e' : ¬ k = i := fun z => e (decide_eq_true z)
        refine ⟨?_, h2⟩
        rw [h1]
        by_cases hki : k < i
        · rw [if_pos hki, if_pos (by omega)]
        · rw [if_neg hki, if_neg (by omega)]
    · rintro Hx ⟨h1, h2⟩
      rw [if_pos hk] at h1
      exact q Hx D (sm.trans h2) h1
end
end K1

set_option Elab.async false
set_option linter.all false
set_option maxRecDepth 100000
set_option maxHeartbeats 4000000
namespace K1
open PySem PySem.Spec PyProof.Rows L2 Rx
/-! ### how long the texts of drawn data are -/
theorem textFrom_le : ∀ (ts : List Str) (k : Nat) (acc : Str), (textFrom k acc ts).length ≤ acc.length + piled ts
  | [], _, acc => by simp [textFrom, piled]
  | t :: r, k, acc => by
    have ih := textFrom_le r (k + 1) (acc ++ (if k > 0 then ", " else "" : String) ++ t)
    have e : (acc ++ (if k > 0 then ", " else "" : String) ++ t).length ≤ acc.length + 2 + t.length := by
      rw [strLen_append, strLen_append]
      split
      · exact Nat.le_refl _
      · show acc.length + 0 + t.length ≤ _
        omega
    rw [piled_cons]
    show (textFrom (k + 1) _ r).length ≤ _
    omega
theorem listText_le (ts : List Str) : (listText ts).length ≤ piled ts + 2 := by
  have h := textFrom_le ts 0 "["
  unfold listText
  rw [strLen_append]
  have e1 : ("[" : Str).length = 1 := rfl
  have e2 : ("]" : Str).length = 1 := rfl
  omega
theorem piled_le {b : Nat} : ∀ {xs : List PyData}, (∀ x ∈ xs, x.shown.length ≤ b) → piled (PyData.shownAll xs) ≤ xs.length * (b + 2)
  | [], _ => by simp [PyData.shownAll, piled]
  | x :: xs, h => by
    have h1 := h x (by simp)
    have h2 := piled_le (xs := xs) fun y hy => h y (by simp [hy])
    rw [PyData.shownAll, piled_cons, List.length_cons, Nat.add_mul]
    omega
theorem list_le {b : Nat} {xs : List PyData} (h : ∀ x ∈ xs, x.shown.length ≤ b) (hl : xs.length ≤ 3) : (PyData.list xs).shown.length ≤ 3 * (b + 2) + 2 ∧ (PyData.tuple xs).shown.length ≤ 3 * (b + 2) + 2 := by
  have h1 := piled_le h
  have h2 : xs.length * (b + 2) ≤ 3 * (b + 2) := Nat.mul_le_mul_right _ hl
  have h3 := listText_le (PyData.shownAll xs)
  have h4 := fmt_text (PyData.shownAll xs)
  simp only [PyData.shown]
  omega
theorem all_show : ∀ {xs : List PyData}, (∀ x ∈ xs, x.showable = true) → PyData.showableAll xs = true
  | [], _ => by simp [PyData.showableAll]
  | x :: xs, h => by simp [PyData.showableAll, h x (by simp), all_show (xs := xs) fun y hy => h y (by simp [hy])]
theorem all_dict : ∀ {xs : List PyData}, (∀ x ∈ xs, x.hasDict = false) → PyData.hasDictAll xs = false
  | [], _ => by simp [PyData.hasDictAll]
  | x :: xs, h => by simp [PyData.hasDictAll, h x (by simp), all_dict (xs := xs) fun y hy => h y (by simp [hy])]
theorem all_depth {n : Nat} : ∀ {xs : List PyData}, (∀ x ∈ xs, x.depth ≤ n) → PyData.depthAll xs ≤ n
  | [], _ => by simp [PyData.depthAll]
  | x :: xs, h => by
    have h1 := h x (by simp)
    have h2 := all_depth (xs := xs) fun y hy => h y (by simp [hy])
    simp only [PyData.depthAll]
    omega
theorem all_sz {n : Nat} : ∀ {xs : List PyData}, (∀ x ∈ xs, sz x ≤ n) → szAll xs ≤ xs.length * n
  | [], _ => by simp [szAll]
  | x :: xs, h => by
    have h1 := h x (by simp)
    have h2 := all_sz (xs := xs) fun y hy => h y (by simp [hy])
    rw [szAll, List.length_cons, Nat.add_mul]
    omega
/-- what may be shown: within b signs, n deep -/
structure Showy (n b : Nat) (d : PyData) : Prop where
  sh : d.showable = true
  nd : d.hasDict = false
  dp : d.depth ≤ n
  ln : d.shown.length ≤ b
theorem Showy.seq {n b : Nat} {xs : List PyData} (h : ∀ x ∈ xs, Showy n b x) (hl : xs.length ≤ 3) : Showy (n + 1) (3 * (b + 2) + 2) (.list xs) ∧ Showy (n + 1) (3 * (b + 2) + 2) (.tuple xs) := by
  have h1 := all_show fun x hx => (h x hx).sh
  have h2 := all_dict fun x hx => (h x hx).nd
  have h3 := all_depth fun x hx => (h x hx).dp
  have h4 := list_le (fun x hx => (h x hx).ln) hl
  exact ⟨⟨by simp [PyData.showable, h1], by simp [PyData.hasDict, h2], by simp only [PyData.depth]; omega, h4.1⟩, ⟨by simp [PyData.showable, h1], by simp [PyData.hasDict, h2], by simp only [PyData.depth]; omega, h4.2⟩⟩
def shB : Nat → Nat
  | 0 => 40
  | n + 1 => 3 * (shB n + 2) + 2
def szB : Nat → Nat
  | 0 => 1
  | n + 1 => 2 + 3 * szB n
theorem menu_ok : menu.all (fun d => d.showable && !d.hasDict && decide (d.depth = 0) && decide (sz d = 1) && decide (d.shown.length ≤ 40)) = true := by decide +kernel
theorem menu_fix : ∀ d ∈ menu, fix d = d := by
  intro d h
  simp only [menu, List.mem_cons, List.not_mem_nil, or_false] at h
  rcases h with rfl | rfl | rfl | rfl | rfl | rfl | rfl | rfl | rfl | rfl | rfl | rfl <;> simp [fix]
theorem shB_mono (n : Nat) : 40 ≤ shB n := by
  cases n with
  | zero => simp [shB]
  | succ n => 
    induction n with
    | zero => simp [shB]
    | succ n ih => simp only [shB] at ih ⊢; omega
theorem szB_pos (n : Nat) : 1 ≤ szB n := by cases n <;> simp [szB] <;> omega
theorem drawn_ok {n : Nat} {d : PyData} (h : Drawn n d) : Showy n (shB n) d ∧ Showy n (shB n) (fix d) ∧ sz d ≤ szB n := by
  induction h with
  | @leaf n d hm =>
    have h := List.all_eq_true.mp menu_ok d hm
    simp only [Bool.and_eq_true, Bool.not_eq_true', decide_eq_true_eq] at h
    obtain ⟨⟨⟨⟨h1, h2⟩, h3⟩, h4⟩, h5⟩ := h
    have h6 := shB_mono n
    have h7 := szB_pos n
    rw [menu_fix d hm]
    exact ⟨⟨h1, h2, by omega, by omega⟩, ⟨h1, h2, by omega, by omega⟩, by omega⟩
  | @list n xs hl _ ih =>
    have a := (Showy.seq (fun x hx => (ih x hx).1) hl).1
    have b := (Showy.seq (xs := fixAll xs) (n := n) (b := shB n) (fun x hx => by
      rw [fixAll_map] at hx
      obtain ⟨y, hy, rfl⟩ := List.mem_map.mp hx
      exact (ih y hy).2.1) (by rw [fixAll_map, List.length_map]; exact hl)).2
    have c := all_sz fun x hx => (ih x hx).2.2
    have c2 : xs.length * szB n ≤ 3 * szB n := Nat.mul_le_mul_right _ hl
    refine ⟨a, ?_, ?_⟩
    · rw [fix]; exact b
    · simp only [sz, szB]; omega
  | @tup n xs hl _ ih =>
    have a := (Showy.seq (fun x hx => (ih x hx).1) hl).2
    have b := (Showy.seq (xs := fixAll xs) (n := n) (b := shB n) (fun x hx => by
      rw [fixAll_map] at hx
      obtain ⟨y, hy, rfl⟩ := List.mem_map.mp hx
      exact (ih y hy).2.1) (by rw [fixAll_map, List.length_map]; exact hl)).2
    have c := all_sz fun x hx => (ih x hx).2.2
    have c2 : xs.length * szB n ≤ 3 * szB n := Nat.mul_le_mul_right _ hl
    refine ⟨a, ?_, ?_⟩
    · rw [fix]; exact b
    · simp only [sz, szB]; omega
end K1

set_option Elab.async false
set_option linter.all false
set_option maxRecDepth 100000
set_option maxHeartbeats 4000000
namespace K1
open PySem PySem.Spec PyProof.Rows L2 Rx
/-- a heap without some addresses -/
def hidS (X : List Addr) (H : Hp) : Hp := fun b => if b ∈ X then none else H b
theorem hidS_at {X : List Addr} {H : Hp} {b : Addr} (h : b ∉ X) : hidS X H b = H b := if_neg h
theorem hidS_some {X : List Addr} {H : Hp} {b : Addr} {o : HO} (h : hidS X H b = some o) : b ∉ X ∧ H b = some o := by
  unfold hidS at h
  split at h
  · cases h
  · rename_i n
    exact ⟨n, h⟩
theorem hidS_same (X : List Addr) (H : Hp) : Same (hidS X H) H := fun b o h => (hidS_some h).2
theorem hidS_mono {X : List Addr} {H H' : Hp} (h : ∀ b o, b ∉ X → H b = some o → H' b = some o) : Same (hidS X H) (hidS X H') := fun b o e => by
  obtain ⟨n, q⟩ := hidS_some e
  rw [hidS_at n]
  exact h b o n q
/-- all but the lists stays -/
def NL (H H' : Hp) : Prop := ∀ b o, H b = some o → (∀ xs, o ≠ .lst xs) → H' b = some o
theorem NL.keeps {H H' : Hp} (h : NL H H') : Keeps H H' := ⟨fun a xs e => h a _ e (fun _ z => by cases z), fun a o u e => h a _ e (fun _ z => by cases z)⟩
section
variable {K : PySem.W.Frag} {H H' : Hp} {C : Nat → Addr}
theorem ErrAt.nl {v : V} {D : Addr} {fs : List Str} {es : List PyData} (h : ErrAt K H v D fs es) (n : NL H H') (he : noListAll es = true) : ErrAt K H' v D fs es := by
  obtain ⟨a, d, us, h1, h2, h3, h4, h5⟩ := h
  exact ⟨a, d, us, h1, n _ _ h2 (fun _ z => by cases z), n _ _ h3 (fun _ z => by cases z), dpAll_keep n.keeps.1 n.keeps.2 h4 he, h5⟩
theorem ErrU.nl {ds : List PyData} {rs : List V} (u : ErrU K H C ds rs) (n : NL H H') : ErrU K H' C ds rs := fun k v e => (u k v e).nl n (fixAll_noList _)
/-- a pair of a row of errors and the data that they should hold -/
def KeptAt (K : PySem.W.Frag) (C : Nat → Addr) (H : Hp) (v : V) : Prop := ∃ (t r f : Addr) (rs fs : List V) (ds : List PyData), v = .ref t ∧ H t = some (.tup [.ref r, .ref f]) ∧ H r = some (.lst rs) ∧ rs.length = 17 ∧ ErrU K H C ds rs ∧ H f = some (.lst fs) ∧ DpAll K H fs (fixAll ds) ∧ ds.length = 3 ∧ ∀ d ∈ ds, Drawn 3 d
theorem KeptAt.same {v : V} (h : KeptAt K C H v) (e : Same H H') : KeptAt K C H' v := by
  obtain ⟨t, r, f, rs, fs, ds, h1, h2, h3, h4, h5, h6, h7, h8⟩ := h
  exact ⟨t, r, f, rs, fs, ds, h1, e _ _ h2, e _ _ h3, h4, h5.same e, e _ _ h6, dpAll_same e h7, h8⟩
/-- between the statements of a turn: the list of pairs, the stream; what stood in B beside them stands -/
structure Stage (K : PySem.W.Frag) (C : Nat → Addr) (s a p : Addr) (c : Nat) (B G : Hp) (ks : List V) : Prop where
  hk : G p = some (.lst ks)
  hks : ∀ v ∈ ks, KeptAt K C (hidS [s, a, p] G) v
  st : StreamAt G s a c
  sm : Same (hidS [s, a, p] B) (hidS [s, a, p] G)
  ns : p ≠ s
  na : p ≠ a
theorem Stage.app {s a p E l t : Addr} {c : Nat} {B G H3 : Hp} {ks fs rs : List V} {ds : List PyData} (Z : Stage K C s a p c B G ks) (hE : hidS [s, a, p] B E = some (.lst fs)) (hf : DpAll K (hidS [s, a, p] B) fs (fixAll ds)) (hd3 : ds.length = 3) (hdr : ∀ d ∈ ds, Drawn 3 d)
    (sm : Same G H3) (nl : G l = none) (hl : H3 l = some (.lst rs)) (len : rs.length = 17) (u : ErrU K H3 C ds rs) (nt : H3 t = none) :
    Stage K C s a p c B (upd (upd H3 t (.tup [.ref l, .ref E])) p (.lst (ks ++ [.ref t]))) (ks ++ [.ref t]) := by
  have hp3 : H3 p = some (.lst ks) := sm _ _ Z.hk
  have S3 : StreamAt H3 s a c := Z.st.same sm
  have trk : ∀ b, b ∈ [s, a, p] → G b ≠ none := fun b hb => by
    rcases List.mem_cons.mp hb with rfl | hb
    · exact Z.st.tr.1
    rcases List.mem_cons.mp hb with rfl | hb
    · exact Z.st.tr.2
    · rw [List.mem_singleton.mp hb, Z.hk]; simp
  have trk3 : ∀ b, b ∈ [s, a, p] → H3 b ≠ none := fun b hb => (Live.of_same sm) b (trk b hb)
  have lX : l ∉ [s, a, p] := fun z => trk l z nl
  have tX : t ∉ [s, a, p] := fun z => trk3 t z nt
  have tp : t ≠ p := fun z => tX (by rw [z]; simp)
  have ts : t ≠ s := fun z => tX (by rw [z]; simp)
  have ta : t ≠ a := fun z => tX (by rw [z]; simp)
  have lp : l ≠ p := fun z => lX (by rw [z]; simp)
  have lt : l ≠ t := ne_of_none hl nt
  have lists : ∀ b, b ∈ [s, a, p] → ∃ xs, H3 b = some (.lst xs) := fun b hb => by
    obtain ⟨n1, n2, n3, e1, e2, _⟩ := S3
    rcases List.mem_cons.mp hb with rfl | hb
    · exact ⟨_, e1⟩
    rcases List.mem_cons.mp hb with rfl | hb
    · exact ⟨_, e2⟩
    · rw [List.mem_singleton.mp hb]; exact ⟨_, hp3⟩
  have up : ∀ b o, b ∉ [s, a, p] → H3 b = some o → upd (upd H3 t (.tup [.ref l, .ref E])) p (.lst (ks ++ [.ref t])) b = some o := fun b o hb e => by
    rw [upd_ne (fun z => hb (by rw [z]; simp)), upd_ne (ne_of_none e nt)]
    exact e
  have big : Same (hidS [s, a, p] G) (hidS [s, a, p] (upd (upd H3 t (.tup [.ref l, .ref E])) p (.lst (ks ++ [.ref t])))) := hidS_mono fun b o hb e => up b o hb (sm b o e)
  have nl3 : NL H3 (hidS [s, a, p] (upd (upd H3 t (.tup [.ref l, .ref E])) p (.lst (ks ++ [.ref t])))) := fun b o e hn => by
    have hb : b ∉ [s, a, p] := fun z => by
      obtain ⟨xs, q⟩ := lists b z
      rw [e] at q
      exact hn xs (Option.some.inj q)
    rw [hidS_at hb]
    exact up b o hb e
  refine ⟨upd_same, fun v hv => ?_, (S3.same (same_new nt)).upd Z.ns Z.na, Z.sm.trans big, Z.ns, Z.na⟩
  rcases List.mem_append.mp hv with h | h
  · exact (Z.hks v h).same big
  · obtain rfl := List.mem_singleton.mp h
    refine ⟨t, l, E, rs, fs, ds, rfl, ?_, ?_, len, u.nl nl3, big _ _ (Z.sm _ _ hE), dpAll_same (Z.sm.trans big) hf, hd3, hdr⟩
    · rw [hidS_at tX, upd_ne tp, upd_same]
    · rw [hidS_at lX]
      exact up l _ lX hl
end
end K1

set_option Elab.async false
set_option linter.all false
set_option maxRecDepth 100000
set_option maxHeartbeats 4000000
namespace K1
open PySem PySem.Spec PyProof.Rows L2 Rx
abbrev sLaw : Stmt := topS 29
abbrev lawN : List Str := ["_law_script", "_law_stream", "_law_kept", "_law_turn", "_law_k", "_law_things", "_law_fixed_here", "_law_text", "_law_one", "_law_two", "_law_three", "_law_made_here", "_law_dues", "_law_found", "_law_thing_here"]
def spLaw (K : PySem.W.Frag) : Sp := fun vs H Q _ => ∃ (a : Addr) (ns : List Int), vs = [.ref a] ∧ SqL K H a (ns.map V.int) ∧ ∀ H', Q (.bl true) H'
theorem dpAll_take {K : PySem.W.Frag} {H : Hp} : ∀ {vs : List V} {ds : List PyData} (n : Nat), DpAll K H vs ds → DpAll K H (vs.take n) (ds.take n)
  | _, _, 0, _ => by simpa using DpAll.nil
  | _, _, _ + 1, .nil => by simpa using DpAll.nil
  | _, _, n + 1, .cons h1 h2 => .cons h1 (dpAll_take n h2)
theorem three {α : Type} {l : List α} (h : l.length = 3) : ∃ a b c, l = [a, b, c] :=
  match l, h with
  | [a, b, c], _ => ⟨a, b, c, rfl⟩
section
variable {P : Program} {w : World} {K : PySem.W.Frag} {mg : Str → Option Value} {base : Heap} {C : Nat → Addr} {R : Addr}
theorem scL : FnScope lawN ["_law_script"] (defScope sLaw) := ⟨rfl, rfl, rfl, by decide +kernel, rfl, by decide +kernel, by decide +kernel⟩
theorem ok_law {f fT fX fM fN fF fK : Addr} {fd fdT fdX fdM fdN fdF fdK : FuncData} (F : Fun K "law" "law" sLaw f fd) (T : TxtB mg) (mr : mg "range" = none) (ms : mg "str" = none) (mv : mg "ValueError" = none) (mR : mg "RerunError" = some (.ref R)) (Z : Kit K C R)
    (CT : Cal P w K mg base 5 "_law_thing" fT fdT ["_law_stream", "_law_deep"] (spThing K 3)) (CX : Cal P w K mg base 4 "_law_fixed" fX fdX ["_law_thing_here"] (spFixed K 3))
    (CM : Cal P w K mg base 4 "_law_made" fM fdM ["_law_one", "_law_two", "_law_three"] (spMade K C)) (CN : Cal P w K mg base 4 "_law_named" fN fdN ["_law_one", "_law_two", "_law_three"] (spMade K C))
    (CF : Cal P w K mg base 1 "_law_fields" fF fdF ["_law_k", "_law_e"] (spFields K C)) (CK : Cal P w K mg base 1 "_law_kinds" fK fdK ["_law_e"] (spKinds K C)) : FnG P w K mg base 6 f fd ["_law_script"] (spLaw K) := by
  refine fnG_of F scL (fun vs H Q E h => ?_) (fun cdv A outer s H vs Q hg hr h => ?_)
  · obtain ⟨a, ns, rfl, _⟩ := h
    rfl
  · obtain ⟨sc, ns, rfl, hsc, k⟩ := h
    have hr4 : Room 4 _ := hr.mono (by decide)
    have hr1 : Room 1 _ := hr.mono (by decide)
    have hu : (A.deeper (envOfC "law" (defScope sLaw) s.heap.objs.size f cdv)).units + 100 < cLine := by have := hr.un; omega
    have hg' : (A.deeper (envOfC "law" (defScope sLaw) s.heap.objs.size f cdv)).guards = some [] := hg
    refine ⟨_, (pss_cons (ps_set (i := 1) scL.nd rfl (.inr rfl) (pe_lst (pa_cons (pe_callTy call_list_of (by rfl) T.lst (by decide +kernel) (pa_cons (pv 0) pa_nil)) (pa_cons pe_int (pa_cons pe_int (pa_cons pe_int pa_nil))))))
      (pss_cons (ps_set (i := 2) scL.nd rfl (.inl rfl) (pe_lst pa_nil))
      (C8.pss_cut (ps_for PassesOwn.never rfl (pi_range1 rfl mr (pa_cons pe_int pa_nil)) (pg_name (i := 3) scL.nd rfl (.inl rfl)) (pss_cons (ps_setLc (i := 5) (own := [("_law_k", 4)]) (g := gName 4) (tt := tYes)  rfl scL.nd rfl rfl (sw_true rfl rfl rfl (by decide +kernel)) (pi_range1 rfl mr (pa_cons pe_int pa_nil))
            (blkOk_by (own := [("_law_k", 4)]) (N := lawN) (sc := defScope sLaw) (by decide +kernel)) (fun _ _ _ _ _ => pg_name (i := 4) scL.nd rfl (Or.inl rfl)) (fun _ _ _ _ _ => pts_nil)
            (fun _ _ _ _ _ => (pe_call CT.ok hr rfl CT.mg CT.kp CT.bi .nil pass0 (pa_cons (pv 1) (pa_cons pe_int pa_nil)))))
      (pss_cons (ps_set (i := 6) scL.nd rfl (.inr rfl) (pe_lc (own := [("_law_thing_here", 14)]) (g := gName 14) (tt := tYes)  rfl scL.nd (pi_list (pv 5))
            (blkOk_by (own := [("_law_thing_here", 14)]) (N := lawN) (sc := defScope sLaw) (by decide +kernel)) (fun _ _ _ _ _ => pg_name (i := 14) scL.nd rfl (Or.inl rfl)) (fun _ _ _ _ _ => pts_nil)
            (fun _ _ _ _ _ => (pe_call CX.ok hr4 rfl CX.mg CX.kp CX.bi .nil pass0 (pa_cons (pv 14) pa_nil)))))
      (pss_cons (ps_set (i := 7) scL.nd rfl (.inl rfl) (pe_callTy (call_strD hg' hu) (by rfl) ms (by decide +kernel) (pa_cons (pv 5) pa_nil)))
      (pss_cons (ps_asg (pv 5) (pg_unl rfl (pgs_cons (pg_name (i := 8) scL.nd rfl (.inl rfl)) (pgs_cons (pg_name (i := 9) scL.nd rfl (.inl rfl)) (pgs_cons (pg_name (i := 10) scL.nd rfl (.inl rfl)) pgs_nil)))))
      (pss_cons (ps_expr (pe_bm PySem.F.plainAttrs_list PySem.F.slot_list_append PySem.F.type_list_append mt_append (pv 2) (pa_cons (pe_tup (pa_cons (pe_call CM.ok hr4 rfl CM.mg CM.kp CM.bi .nil pass0 (pa_cons (pv 8) (pa_cons (pv 9) (pa_cons (pv 10) pa_nil)))) (pa_cons (pv 6) pa_nil))) pa_nil)))
      (pss_cons (ps_expr (pe_bm PySem.F.plainAttrs_list PySem.F.slot_list_append PySem.F.type_list_append mt_append (pv 2) (pa_cons (pe_tup (pa_cons (pe_call CN.ok hr4 rfl CN.mg CN.kp CN.bi .nil pass0 (pa_cons (pv 8) (pa_cons (pv 9) (pa_cons (pv 10) pa_nil)))) (pa_cons (pv 6) pa_nil))) pa_nil)))
      (pss_one (ps_if (pt_cmpR op_ne (pe_callTy (call_strD hg' hu) (by rfl) ms (by decide +kernel) (pa_cons (pv 5) pa_nil)) (pv 7) (nomark _)) (pss_one (ps_ret pe_bl)) pss_nil)))))))))
      (pss_cons (ps_for PassesOwn.never rfl (pi_list (pv 2)) (pg_tup rfl (pgs_cons (pg_name (i := 11) scL.nd rfl (.inl rfl)) (pgs_cons (pg_name (i := 6) scL.nd rfl (.inr rfl)) pgs_nil))) (pss_cons (ps_set (i := 12) scL.nd rfl (.inl rfl) (pe_op op_cat (pe_lc (own := [("_law_k", 4)]) (g := gName 4) (tt := tYes) (te := tSl (rSlL K) (tVar 6) tNoPart (tPart (tC (.int 1)))) rfl scL.nd (pi_range1 rfl mr (pa_cons pe_int pa_nil))
            (blkOk_by (own := [("_law_k", 4)]) (N := lawN) (sc := defScope sLaw) (by decide +kernel)) (fun _ _ _ _ _ => pg_name (i := 4) scL.nd rfl (Or.inl rfl)) (fun _ _ _ _ _ => pts_nil)
            (fun _ _ _ _ _ => (pe_slice sl_list (pv 6) po_none (po_some pe_int)))) (pe_lst (pa_cons (pe_slice sl_list (pv 6) po_none (po_some pe_int)) (pa_cons (pe_slice sl_list (pv 6) po_none (po_some pe_int)) (pa_cons (pv 6) pa_nil))))))
      (pss_one (ps_for PassesOwn.never rfl (pi_range1 rfl mr (pa_cons pe_int pa_nil)) (pg_name (i := 4) scL.nd rfl (.inl rfl)) (pss_cons (ps_set (i := 13) scL.nd rfl (.inl rfl) (pe_call CF.ok hr1 rfl CF.mg CF.kp CF.bi .nil pass0 (pa_cons (pv 4) (pa_cons (pe_ix ix_list (pv 11) (pv 4) (fun _ _ => rfl)) pa_nil))))
      (pss_cons (ps_if (PW.pt (pw_or (pt_cmpR op_ne (pe_callTy (call_strD hg' hu) (by rfl) ms (by decide +kernel) (pa_cons (pv 13) pa_nil)) (pe_callTy (call_strD hg' hu) (by rfl) ms (by decide +kernel) (pa_cons (pe_ix ix_list (pv 12) (pv 4) (fun _ _ => rfl)) pa_nil)) (nomark _)) (pw_or1 (pt_cmpR (op_neD hr.units) (pe_call CK.ok hr1 rfl CK.mg CK.kp CK.bi .nil pass0 (pa_cons (pe_ix ix_list (pv 11) (pv 4) (fun _ _ => rfl)) pa_nil)) (pe_lst (pa_cons (pv 4) pa_nil)) (nomark _))))) (pss_one (ps_ret pe_bl)) pss_nil)
      (pss_one (ps_if (PW.pt (pw_or (pt_not (pt_val (pe_callB call_isX (by rfl) T.isi (by decide +kernel) (pa_cons (pe_ix ix_list (pv 11) (pv 4) (fun _ _ => rfl)) (pa_cons (pe_glob (v := .ref R) rfl mR rfl) pa_nil))))) (pw_or1 (pt_not (pt_val (pe_callB call_isX (by rfl) T.isi (by decide +kernel) (pa_cons (pe_ix ix_list (pv 11) (pv 4) (fun _ _ => rfl)) (pa_cons (pe_bltn (v := .ty "ValueError") (by rfl) mv (by decide +kernel) rfl) pa_nil)))))))) (pss_one (ps_ret pe_bl)) pss_nil))))))))
      (pss_one (ps_ret pe_bl)))))), ?_⟩
    refine ⟨_, rfl, sc, _, rfl, .inl hsc, fun a1 n1 => ⟨(by show 4 ≤ sizeLine; decide), fun st nst => ?_⟩⟩
    refine ⟨(by show 0 ≤ sizeLine; decide), fun kp nkp => ?_⟩
    have st1 : a1 ≠ st := fun z => by rw [← z, upd_same] at nst; cases nst
    have k1 : kp ≠ st := fun z => by rw [z, upd_same] at nkp; cases nkp
    have k2 : kp ≠ a1 := fun z => by rw [z, upd_ne st1, upd_same] at nkp; cases nkp
    have Z0 : Stage K C st a1 kp 0 (fun _ => none) (upd (upd (upd H a1 (.lst (ns.map V.int))) st (.lst [.ref a1, .int 0, .int 0, .int 0])) kp (.lst [])) [] :=
      ⟨upd_same, (fun v hv => by cases hv), ⟨ns, 0, 0, by rw [upd_ne k1.symm, upd_same]; rfl, by rw [upd_ne k2.symm, upd_ne st1, upd_same], by decide, by decide⟩, (fun b o e => by obtain ⟨_, q⟩ := hidS_some e; cases q), k1, k2⟩
    refine ⟨fun σ' H' => ∃ (x3 x4 x5 x6 x7 x8 x9 x10 x11 x12 x13 x14 : Option V), σ' = [some (.ref sc), some (.ref st), some (.ref kp), x3, x4, x5, x6, x7, x8, x9, x10, x11, x12, x13, x14] ∧
      ∃ ks : List V, H' kp = some (.lst ks) ∧ ∀ v ∈ ks, KeptAt K C H' v, ?_, ?_⟩
    · refine ⟨3, rfl, by decide, by decide, ?_⟩
      refine for_range (lo := 0) (n := 3) (fun i σ Hc => ∃ (x3 x4 x5 x6 x7 x8 x9 x10 x11 x12 x13 x14 : Option V), σ = [some (.ref sc), some (.ref st), some (.ref kp), x3, x4, x5, x6, x7, x8, x9, x10, x11, x12, x13, x14] ∧
        ∃ (ks : List V) (c : Nat), Stage K C st a1 kp c (fun _ => none) Hc ks ∧ ks.length ≤ 2 * i ∧ c ≤ i * 198) ?_ ?_ ?_
      · exact ⟨none, none, none, none, none, none, none, none, none, none, none, none, rfl, [], 0, Z0, Nat.le_refl _, Nat.le_refl _⟩
      · rintro i σ Hc hi ⟨x3, x4, x5, x6, x7, x8, x9, x10, x11, x12, x13, x14, rfl, ks, c, Z, hkl, hc⟩
        refine ⟨3, rfl, by decide, by decide, fun D hD => ?_⟩
        have S := Z.st
        have Ds : D ≠ st := fun z => S.tr.1 (by rw [← z]; exact hD)
        have Da : D ≠ a1 := fun z => S.tr.2 (by rw [← z]; exact hD)
        have Dk : D ≠ kp := fun z => by rw [z, Z.hk] at hD; cases hD
        refine lc_range (lo := 0) (n := 3) (fun i Hx => ∃ (vs : List V) (ds : List PyData) (cx : Nat), Hx D = some (.lst vs) ∧ DpAll K (newIn (upd Hc D (.lst [])) Hx) vs ds ∧ ds.length = i ∧ (∀ x ∈ ds, Drawn 3 x) ∧ StreamAt Hx st a1 cx ∧ cx ≤ c + i * 66 ∧ Else2 st a1 Hc Hx) ?_ ?_ ?_
        · exact ⟨[], [], c, upd_same, .nil, rfl, (fun _ h => by cases h), S.same (same_new hD), by omega, .of_same (same_new hD)⟩
        · rintro j Hx hj ⟨vs, ds, cx, hx, hds, hl, hdr, Sx, hcx, elx⟩
          have LD : Live (upd Hc D (.lst [])) Hx := fun b hb => by
            by_cases e : b = D
            · rw [e, hx]; simp
            · rw [upd_ne e] at hb
              exact Sx.live elx b hb
          refine ⟨rfl, ?_⟩
          dsimp only [tYes]
          rw [if_pos rfl]
          refine ⟨_, rfl, st, a1, cx, rfl, Sx, (by show cx + 66 ≤ 1000000; omega), fun v dd H4 c4 hv hdd S4 hc4 el4 => ?_⟩
          have hc4' : c4 ≤ cx + 66 := hc4
          have h4D : H4 D = some (.lst vs) := el4 D _ hx Ds Da
          have vlen : vs.length ≤ 3 := by rw [dpAll_len hds]; omega
          refine ⟨vs, h4D, Nat.lt_of_le_of_lt vlen (by decide), vs ++ [v], ds ++ [dd], c4, upd_same, dpAll_app (dpAll_same (newIn_mono (Live.refl _) fun b o n q => ?_) hds) (.cons (dp_same (newIn_mono LD fun b o n q => ?_) hv) .nil), (by rw [List.length_append, hl]; rfl), ?_, S4.upd Ds Da, by omega, fun b o e n1 n2 => ?_⟩
          · have bD : b ≠ D := fun z => by rw [z, upd_same] at n; cases n
            rw [upd_ne bD] at n
            rw [upd_ne bD]
            exact el4 b o q (fun z => S.tr.1 (by rw [← z]; exact n)) (fun z => S.tr.2 (by rw [← z]; exact n))
          · have bD : b ≠ D := fun z => by rw [z, hx] at n; cases n
            rw [upd_ne bD]
            exact q
          · intro x hx'
            rcases List.mem_append.mp hx' with h | h
            · exact hdr x h
            · rw [List.mem_singleton.mp h]; exact hdd
          · rw [upd_ne (ne_of_none e hD)]
            exact el4 b o (elx b o e n1 n2) n1 n2
        · rintro H1 ⟨vs, ds, c1, hD1, hds, hl, hdr, S1, hc1, el1⟩
          obtain ⟨d1, d2, d3, rfl⟩ := three hl
          obtain ⟨v1, v2, v3, rfl⟩ := three ((dpAll_len hds).trans hl)
          have X : ∀ b, b ∈ [st, a1, kp] → Hc b ≠ none := fun b hb => by
            rcases List.mem_cons.mp hb with rfl | hb
            · exact S.tr.1
            rcases List.mem_cons.mp hb with rfl | hb
            · exact S.tr.2
            · rw [List.mem_singleton.mp hb, Z.hk]; simp
          have hc1' : c1 ≤ c + 198 := by omega
          have DX : D ∉ [st, a1, kp] := fun z => X D z hD
          have hds1 : DpAll K (hidS [st, a1, kp] H1) [v1, v2, v3] [d1, d2, d3] := dpAll_same (fun b o e => by
            obtain ⟨n, q⟩ := newIn_some e
            have bD : b ≠ D := fun z => by rw [z, upd_same] at n; cases n
            rw [upd_ne bD] at n
            rw [hidS_at (fun z => X b z n)]
            exact q) hds
          have Z1 : Stage K C st a1 kp c1 (fun _ => none) H1 ks := ⟨el1 kp _ Z.hk Z.ns Z.na, fun v hv => (Z.hks v hv).same (hidS_mono fun b o hb e => el1 b o e (fun z => hb (by rw [z]; simp)) (fun z => hb (by rw [z]; simp))), S1, (fun b o e => by obtain ⟨_, q⟩ := hidS_some e; cases q), Z.ns, Z.na⟩
          refine ⟨_, rfl, D, rfl, ⟨[v1, v2, v3], SqL.of hD1⟩, fun E2 hE => ?_⟩
          have lenV := dpAll_len hds
          have E2X : E2 ∉ [st, a1, kp] := fun z => by
            have := (S1.live el1) E2 (X E2 z)
            exact this hE
          refine lc_list (K := K) (a := D) (xs := [v1, v2, v3]) (fun j Hx => ∃ fs : List V, Hx E2 = some (.lst fs) ∧ DpAll K Hx fs (fixAll (([d1, d2, d3] : List PyData).take j)) ∧ Same H1 Hx) ?_ (fun j Hx _ p => SqL.of (p.choose_spec.2.2 _ _ hD1)) ?_ ?_
          · exact ⟨[], upd_same, by rw [List.take_zero]; exact .nil, same_new hE⟩
          · rintro j x Hx hxj ⟨fs, h1, h2, h3⟩
            obtain ⟨d, hd, hdd⟩ := dpAll_getV hds1 hxj
            have hm : d ∈ [d1, d2, d3] := List.mem_of_getElem? hd
            obtain ⟨ok1, ok2, ok3⟩ := drawn_ok (hdr d hm)
            refine ⟨rfl, ?_⟩
            dsimp only [tYes]
            rw [if_pos rfl]
            refine ⟨_, rfl, x, d, rfl, dp_same ((hidS_same _ _).trans h3) hdd, ok1.dp, Nat.le_trans ok3 (by decide), fun H4 v' sm4 hv' => ?_⟩
            have h4 := sm4 E2 _ h1
            have kk : Keeps H4 (upd H4 E2 (.lst (fs ++ [v']))) := keeps_lst h4
            have vlen : fs.length ≤ 3 := by
              rw [dpAll_len h2, fixAll_map, List.length_map, List.length_take]
              omega
            refine ⟨fs, h4, Nat.lt_of_le_of_lt vlen (by decide), fs ++ [v'], upd_same, ?_, same_upd (h3.trans sm4) hE⟩
            rw [show ([d1, d2, d3] : List PyData).take (j + 1) = ([d1, d2, d3] : List PyData).take j ++ [d] by rw [List.take_add_one, hd]; rfl, fixAll_map, List.map_append, ← fixAll_map]
            exact dpAll_app (dpAll_keep kk.1 kk.2 (dpAll_same sm4 h2) (fixAll_noList _)) (.cons (dp_keep kk.1 kk.2 hv' (fix_noList _)) .nil)
          · rintro H2 ⟨fs, hE2, hfs, sm2⟩
            rw [lenV, List.take_length] at hfs
            have big2 : Same (hidS [st, a1, kp] H1) (hidS [st, a1, kp] H2) := hidS_mono fun b o _ e => sm2 b o e
            have Z2 : Stage K C st a1 kp c1 H2 H2 ks := ⟨sm2 _ _ Z1.hk, fun v hv => (Z1.hks v hv).same big2, S1.same sm2, Same.refl _, Z.ns, Z.na⟩
            have hDX : hidS [st, a1, kp] H2 D = some (.lst [v1, v2, v3]) := by rw [hidS_at DX]; exact sm2 _ _ hD1
            have hEX : hidS [st, a1, kp] H2 E2 = some (.lst fs) := by rw [hidS_at E2X]; exact hE2
            have lst2 : ∀ b, b ∈ [st, a1, kp] → ∃ xs, H2 b = some (.lst xs) := fun b hb => by
              obtain ⟨n1, n2, n3, e1, e2, _⟩ := Z2.st
              rcases List.mem_cons.mp hb with rfl | hb
              · exact ⟨_, e1⟩
              rcases List.mem_cons.mp hb with rfl | hb
              · exact ⟨_, e2⟩
              · rw [List.mem_singleton.mp hb]; exact ⟨_, Z2.hk⟩
            have nl2 : NL H2 (hidS [st, a1, kp] H2) := fun b o e hn => by
              rw [hidS_at (fun z => by
                obtain ⟨xs, q⟩ := lst2 b z
                rw [e] at q
                exact hn xs (Option.some.inj q))]
              exact e
            have hfX : DpAll K (hidS [st, a1, kp] H2) fs (fixAll [d1, d2, d3]) := dpAll_keep nl2.keeps.1 nl2.keeps.2 hfs (fixAll_noList _)
            have DL : Dp K (hidS [st, a1, kp] H2) (.ref D) (.list [d1, d2, d3]) := .lst (SqL.of hDX) (dpAll_same big2 hds1)
            have Sh : Showy 4 (3 * (shB 3 + 2) + 2) (.list [d1, d2, d3]) := (Showy.seq (fun d hd => (drawn_ok (hdr d hd)).1) (by omega)).1
            have shl : (PyData.list [d1, d2, d3]).shown.length ≤ sizeLine := Nat.le_trans Sh.ln (by decide)
            have d4 : (PyData.list [d1, d2, d3]).depth ≤ 64 := Nat.le_trans Sh.dp (by decide)
            refine ⟨_, rfl, D, .list [d1, d2, d3], rfl, dp_same (hidS_same _ _) DL, Sh.sh, Sh.nd, d4, shl, ?_⟩
            have g1 : ∀ G, Same (hidS [st, a1, kp] H2) (hidS [st, a1, kp] G) → Dp K G v1 d1 ∧ Dp K G v2 d2 ∧ Dp K G v3 d3 := fun G sm => by
              have q := dpAll_same ((big2.trans sm).trans (hidS_same _ _)) hds1
              cases q with
              | cons q1 q => cases q with
                | cons q2 q => cases q with
                  | cons q3 q => exact ⟨q1, q2, q3⟩
            have z3 : sz d1 ≤ 1000 ∧ sz d2 ≤ 1000 ∧ sz d3 ≤ 1000 := ⟨Nat.le_trans (drawn_ok (hdr d1 (by simp))).2.2 (by decide), Nat.le_trans (drawn_ok (hdr d2 (by simp))).2.2 (by decide), Nat.le_trans (drawn_ok (hdr d3 (by simp))).2.2 (by decide)⟩
            have hks6 : ks.length ≤ 4 := by omega
            refine ⟨_, rfl, D, [v1, v2, v3], rfl, SqL.of (hidS_same _ _ _ _ hDX), rfl, _, _, rfl, _, _, rfl, _, _, rfl, rfl, ?_⟩
            have gA := g1 H2 (Same.refl _)
            refine ⟨_, rfl, .inl ⟨rfl, _, SqL.of Z2.hk⟩, _, rfl, _, rfl, _, rfl, v1, v2, v3, d1, d2, d3, rfl, gA.1, gA.2.1, gA.2.2, z3, fun H3 l rs sm3 nl3 hl3 len3 u3 => ⟨_, rfl, (by show 2 ≤ sizeLine; decide), fun t nt => ?_⟩⟩
            have Z3 := Z2.app hEX hfX rfl hdr sm3 nl3 hl3 len3 u3 nt
            refine ⟨kp, ks, _, rfl, rfl, (by rw [upd_ne (ne_of_none (sm3 _ _ Z2.hk) nt)]; exact sm3 _ _ Z2.hk), Nat.lt_of_le_of_lt hks6 (by decide), ?_⟩
            have gB := g1 _ Z3.sm
            refine ⟨_, rfl, .inl ⟨rfl, _, SqL.of Z3.hk⟩, _, rfl, _, rfl, _, rfl, v1, v2, v3, d1, d2, d3, rfl, gB.1, gB.2.1, gB.2.2, z3, fun H5 l5 rs5 sm5 nl5 hl5 len5 u5 => ⟨_, rfl, (by show 2 ≤ sizeLine; decide), fun t5 nt5 => ?_⟩⟩
            have Z5 := Z3.app hEX hfX rfl hdr sm5 nl5 hl5 len5 u5 nt5
            refine ⟨kp, ks ++ [.ref t], _, rfl, rfl, (by rw [upd_ne (ne_of_none (sm5 _ _ Z3.hk) nt5)]; exact sm5 _ _ Z3.hk), Nat.lt_of_le_of_lt (by rw [List.length_append]; show ks.length + 1 ≤ 5; omega) (by decide : 5 < sizeLine), ?_⟩
            refine ⟨_, rfl, D, .list [d1, d2, d3], rfl, dp_same (Z5.sm.trans (hidS_same _ _)) DL, Sh.sh, Sh.nd, d4, shl, _, rfl, rfl, _, rfl, iteFc (by simp) ?_⟩
            refine ⟨_, _, _, _, _, _, _, _, _, _, _, _, rfl, _, c1, ⟨Z5.hk, Z5.hks, Z5.st, (fun b o e => by obtain ⟨_, q⟩ := hidS_some e; cases q), Z5.ns, Z5.na⟩, ?_, by omega⟩
            rw [List.length_append, List.length_append]
            show ks.length + 1 + 1 ≤ 2 * (i + 1)
            omega
      · rintro σ Hc ⟨x3, x4, x5, x6, x7, x8, x9, x10, x11, x12, x13, x14, rfl, ks, c, Z, hkl, hc⟩
        exact ⟨x3, x4, x5, x6, x7, x8, x9, x10, x11, x12, x13, x14, rfl, ks, Z.hk, fun v hv => (Z.hks v hv).same (hidS_same _ _)⟩
    · rintro σ' H0 ⟨x3, x4, x5, x6, x7, x8, x9, x10, x11, x12, x13, x14, rfl, ks, hks, hkept⟩
      refine ⟨_, rfl, kp, rfl, ⟨ks, SqL.of hks⟩, ?_⟩
      refine for_list (K := K) (a := kp) (xs := ks) (fun i σ Hx => ∃ (x3 x4 x5 x6 x7 x8 x9 x10 x11 x12 x13 x14 : Option V), σ = [some (.ref sc), some (.ref st), some (.ref kp), x3, x4, x5, x6, x7, x8, x9, x10, x11, x12, x13, x14] ∧ Same H0 Hx) ⟨x3, x4, x5, x6, x7, x8, x9, x10, x11, x12, x13, x14, rfl, Same.refl _⟩ (fun i σ Hx _ p => ?_) ?_ ?_
      · obtain ⟨_, _, _, _, _, _, _, _, _, _, _, _, _, sm⟩ := p
        exact SqL.of (sm _ _ hks)
      · rintro i x σ Hx hx ⟨x3, x4, x5, x6, x7, x8, x9, x10, x11, x12, x13, x14, rfl, sm0⟩
        obtain ⟨t, r, f, rs, fs, ds, rfl, ht, hrr, lenr, u, hf, hdf, hl3, hdr⟩ := (hkept x (List.mem_of_getElem? hx)).same sm0
        obtain ⟨d1, d2, d3, rfl⟩ := three hl3
        obtain ⟨w1, w2, w3, rfl⟩ := three ((dpAll_len hdf).trans (by rw [fixAll_map]; simp))
        refine ⟨t, [.ref r, .ref f], rfl, SqT.of ht, rfl, _, _, rfl, _, _, rfl, rfl, ?_⟩
        refine ⟨14, rfl, by decide, by decide, fun D hD => ?_⟩
        have fD : f ≠ D := ne_of_none hf hD
        refine lc_range (lo := 0) (n := 14) (fun j Hy => ∃ L : List V, Hy D = some (.lst L) ∧ L.length = j ∧ (∀ v ∈ L, ∃ p, v = .ref p ∧ p ≠ D ∧ Hy p = some (.lst [w1])) ∧ Same Hx Hy) ⟨[], upd_same, rfl, (fun _ h => by cases h), same_new hD⟩ ?_ ?_
        · rintro j Hy hj ⟨L, hL, hlen, hp, smy⟩
          refine ⟨rfl, ?_⟩
          dsimp only [tYes]
          rw [if_pos rfl]
          refine ⟨_, rfl, _, rfl, f, _, rfl, SqL.of (smy _ _ hf), fun p np => ?_⟩
          have pD : p ≠ D := fun z => by rw [z, hL] at np; cases np
          refine ⟨L, (by rw [upd_ne pD.symm]; exact hL), Nat.lt_of_le_of_lt (by omega : L.length ≤ 14) (by decide), L ++ [.ref p], upd_same, (by rw [List.length_append, hlen]; rfl), fun v hv => ?_, fun b o e => ?_⟩
          · rcases List.mem_append.mp hv with h | h
            · obtain ⟨p', e, n, q⟩ := hp v h
              exact ⟨p', e, n, by rw [upd_ne n, upd_ne (ne_of_none q np)]; exact q⟩
            · obtain rfl := List.mem_singleton.mp h
              exact ⟨p, rfl, pD, by rw [upd_ne pD, upd_same]; rfl⟩
          · rw [upd_ne (ne_of_none e hD), upd_ne (ne_of_none (smy _ _ e) np)]
            exact smy _ _ e
        · rintro Hy ⟨L, hL, hlen, hp, smy⟩
          refine ⟨_, rfl, _, rfl, f, _, rfl, SqL.of (smy _ _ hf), fun p1 np1 => ?_⟩
          have sm1 := smy.trans (same_new (o := .lst (cutV [w1, w2, w3] none (some 2))) np1)
          refine ⟨_, rfl, _, rfl, f, _, rfl, SqL.of (sm1 _ _ hf), fun p2 np2 => ?_⟩
          have sma := (same_new (o := .lst (cutV [w1, w2, w3] none (some 2))) np1).trans (same_new (o := .lst (cutV [w1, w2, w3] none (some 2))) np2)
          refine ⟨_, rfl, (by show 3 ≤ sizeLine; decide), fun l2 nl2 => ?_⟩
          have smb := sma.trans (same_new (o := .lst [.ref p1, .ref p2, .ref f]) nl2)
          refine ⟨_, _, _, _, rfl, rfl, smb _ _ hL, upd_same, (by rw [hlen]; show 14 + 3 ≤ sizeLine; decide), fun m nm => ?_⟩
          have smc := smb.trans (same_new (o := .lst (L ++ [.ref p1, .ref p2, .ref f])) nm)
          have hP1 := (same_new (o := .lst (L ++ [.ref p1, .ref p2, .ref f])) nm) _ _ ((same_new (o := .lst [.ref p1, .ref p2, .ref f]) nl2) _ _ ((same_new (o := .lst (cutV [w1, w2, w3] none (some 2))) np2) _ _ (upd_same (H := Hy) (a := p1) (o := .lst (cutV [w1, w2, w3] none (some 2))))))
          have hP2 := (same_new (o := .lst (L ++ [.ref p1, .ref p2, .ref f])) nm) _ _ ((same_new (o := .lst [.ref p1, .ref p2, .ref f]) nl2) _ _ (upd_same (H := upd Hy p1 (.lst (cutV [w1, w2, w3] none (some 2)))) (a := p2) (o := .lst (cutV [w1, w2, w3] none (some 2)))))
          have hM : upd (upd (upd (upd Hy p1 (.lst (cutV [w1, w2, w3] none (some 2)))) p2 (.lst (cutV [w1, w2, w3] none (some 2)))) l2 (.lst [.ref p1, .ref p2, .ref f])) m (.lst (L ++ [.ref p1, .ref p2, .ref f])) m = some (.lst (L ++ [.ref p1, .ref p2, .ref f])) := upd_same
          have smz : Same Hx _ := smy.trans smc
          have due : ∀ k, k < 17 → ∃ p, (L ++ [V.ref p1, .ref p2, .ref f])[k]? = some (.ref p) ∧ upd (upd (upd (upd Hy p1 (.lst (cutV [w1, w2, w3] none (some 2)))) p2 (.lst (cutV [w1, w2, w3] none (some 2)))) l2 (.lst [.ref p1, .ref p2, .ref f])) m (.lst (L ++ [.ref p1, .ref p2, .ref f])) p = some (.lst (([w1, w2, w3] : List V).take (flds k).length)) := fun k hk => by
            by_cases h14 : k < 14
            · have hkL : k < L.length := by rw [hlen]; exact h14
              obtain ⟨p, e, n, q⟩ := hp _ (List.getElem_mem hkL)
              refine ⟨p, by rw [List.getElem?_append_left hkL, List.getElem?_eq_getElem hkL, e], ?_⟩
              have e1 : (flds k).length = 1 := by
                match k, h14 with
                | 0, _ | 1, _ | 2, _ | 3, _ | 4, _ | 5, _ | 6, _ | 7, _ | 8, _ | 9, _ | 10, _ | 11, _ | 12, _ | 13, _ => rfl
              rw [e1]
              exact smc _ _ q
            · have hge : L.length ≤ k := by rw [hlen]; omega
              obtain h | h | h : k = 14 ∨ k = 15 ∨ k = 16 := by omega
              · subst h
                exact ⟨p1, by rw [List.getElem?_append_right hge, hlen]; rfl, hP1⟩
              · subst h
                exact ⟨p2, by rw [List.getElem?_append_right hge, hlen]; rfl, hP2⟩
              · subst h
                exact ⟨f, by rw [List.getElem?_append_right hge, hlen]; rfl, smz _ _ hf⟩
          generalize upd (upd (upd (upd Hy p1 (.lst (cutV [w1, w2, w3] none (some 2)))) p2 (.lst (cutV [w1, w2, w3] none (some 2)))) l2 (.lst [.ref p1, .ref p2, .ref f])) m (.lst (L ++ [.ref p1, .ref p2, .ref f])) = Hz at hM smz due ⊢
          refine ⟨17, rfl, by decide, by decide, ?_⟩
          refine for_range (lo := 0) (n := 17) (fun k σ Hw => ∃ (y3 y4 y5 y7 y8 y9 y10 y13 y14 : Option V), σ = [some (.ref sc), some (.ref st), some (.ref kp), y3, y4, y5, some (.ref f), y7, y8, y9, y10, some (.ref r), some (.ref m), y13, y14] ∧ Same Hz Hw) ⟨_, _, _, _, _, _, _, _, _, rfl, Same.refl _⟩ ?_ ?_
          · rintro n σ Hw hn ⟨y3, y4, y5, y7, y8, y9, y10, y13, y14, rfl, smw⟩
            have smx : Same Hx Hw := smz.trans smw
            obtain ⟨v, hv⟩ : ∃ v, rs[n]? = some v := ⟨_, List.getElem?_eq_getElem (by rw [lenr]; exact hn)⟩
            obtain ⟨p, dp1, dp2⟩ := due n hn
            have ek : ErrAt K Hw v (C n) (flds n) (fixAll (([d1, d2, d3] : List PyData).take (flds n).length)) := (u n v hv).same smx
            have hdt : DpAll K Hw (([w1, w2, w3] : List V).take (flds n).length) (fixAll (([d1, d2, d3] : List PyData).take (flds n).length)) := by
              rw [fixAll_map, List.map_take, ← fixAll_map]
              exact dpAll_take _ (dpAll_same smx hdf)
            have Sh : Showy 4 (3 * (shB 3 + 2) + 2) (.list (fixAll (([d1, d2, d3] : List PyData).take (flds n).length))) := (Showy.seq (fun e he => by
              rw [fixAll_map] at he
              obtain ⟨d, hd, rfl⟩ := List.mem_map.mp he
              exact (drawn_ok (hdr d (List.mem_of_mem_take hd))).2.1) (by rw [fixAll_map, List.length_map, List.length_take]; simp; omega)).1
            generalize fixAll (([d1, d2, d3] : List PyData).take (flds n).length) = es at ek hdt Sh
            have shl : (PyData.list es).shown.length ≤ sizeLine := Nat.le_trans Sh.ln (by decide)
            have d4 : (PyData.list es).depth ≤ 64 := Nat.le_trans Sh.dp (by decide)
            have at1 : ∀ (G : Hp), Same Hw G → SqL K G r rs := fun G sm => SqL.of (sm _ _ (smx _ _ hrr))
            have hat : atI rs (0 + (n : Int)) = some v := by rw [Int.zero_add]; exact atI_nat hv
            have hat2 : atI (L ++ [V.ref p1, .ref p2, .ref f]) (0 + (n : Int)) = some (.ref p) := by rw [Int.zero_add]; exact atI_nat dp1
            refine ⟨_, rfl, _, rfl, _, rfl, r, rs, _, v, rfl, rfl, at1 _ (Same.refl _), hat, n, v, es, (by rw [Int.zero_add]; rfl), hn, ek, fun H5 l us sm5 hl5 hus => ?_⟩
            refine ⟨_, rfl, l, .list es, rfl, .lst (SqL.of hl5) hus, Sh.sh, Sh.nd, d4, shl, _, rfl, _, rfl, m, _, _, _, rfl, rfl, SqL.of (sm5 _ _ (smw _ _ hM)), hat2, p, .list es, rfl, .lst (SqL.of (sm5 _ _ (smw _ _ dp2))) (dpAll_same sm5 hdt), Sh.sh, Sh.nd, d4, shl, rfl, _, rfl, iteFc (by simp) ?_⟩
            refine ⟨_, rfl, _, rfl, r, rs, _, v, rfl, rfl, at1 _ sm5, hat, n, v, flds n, es, rfl, hn, ek.same sm5, fun H6 l6 sm6 hl6 => ⟨_, rfl, (by show 1 ≤ sizeLine; decide), fun l7 n7 => ?_⟩⟩
            refine ⟨.list [.int n], .list [.int (0 + (n : Int))], .lst (SqL.of (same_new n7 _ _ hl6)) (.cons (.int _) .nil), .lst (SqL.of upd_same) (.cons (.int _) .nil), shInts [(n : Int)], shInts [0 + (n : Int)], _, rfl, iteFc (by rw [Int.zero_add]; simp [PyData.eqv, PyData.eqvAll]) ?_⟩
            have sm7 : Same Hw (upd H6 l7 (.lst [V.int (0 + (n : Int))])) := (sm5.trans sm6).trans (same_new n7)
            obtain ⟨a, d, us7, rfl, ha, hd, _, _⟩ := ek.same sm7
            refine ⟨_, rfl, _, rfl, r, rs, _, .ref a, rfl, rfl, at1 _ sm7, hat, a, C n, d, _, _, _, _, rfl, .own _, Z.ec n hn, Z.cd, ha, hd, Z.kr n hn, _, rfl, iteFc rfl ?_⟩
            refine ⟨_, rfl, _, rfl, r, rs, _, .ref a, rfl, rfl, at1 _ sm7, hat, a, C n, d, _, _, _, _, rfl, .ty _, Z.ec n hn, Z.cd, ha, hd, Z.kv n hn, _, rfl, iteFc rfl ?_⟩
            exact ⟨_, _, _, _, _, _, _, _, _, rfl, smw.trans sm7⟩
          · rintro σ Hw ⟨y3, y4, y5, y7, y8, y9, y10, y13, y14, rfl, smw⟩
            exact ⟨_, _, _, _, _, _, _, _, _, _, _, _, rfl, sm0.trans (smz.trans smw)⟩
      · rintro σ Hx ⟨x3, x4, x5, x6, x7, x8, x9, x10, x11, x12, x13, x14, rfl, sm⟩
        exact k _
end
end K1

set_option Elab.async false
set_option linter.all false
set_option maxRecDepth 100000
set_option maxHeartbeats 4000000
namespace K1
open PySem PySem.Spec PyProof.Rows L2 Rx
/-! ### what the top has left of the errors' classes -/
abbrev veT : List Value := [.type "ValueError", .type "Exception", .type "BaseException", .type "object"]
def ClsAt (K : PySem.W.Frag) (x : Str) (C : Addr) (bm : List Value) : Prop := ∃ (N : Addr) (bs : List Value) (sn : List Str) (sub : List Value) (ab : Bool) (col : Option Bool) (dd : Option Addr) (k0 k1 k2 k3 k5 : Option Value), K.lookup C = some (excClassObj x x C N bs bm true sn sub ab col dd k0 k1 k2 k3 k5 "ValueError.__new__")
theorem ClsAt.cls {K : PySem.W.Frag} {x : Str} {C : Addr} {bm : List Value} (h : ClsAt K x C bm) : ∃ cd, PySem.W.clsIn K C = some cd ∧ cd.mro = .ref C :: bm ∧ cd.hasDict = true ∧ cd.name = x ∧ PySem.W.typeIn K (.ref C) = some (.type "type") := by
  obtain ⟨N, bs, sn, sub, ab, col, dd, k0, k1, k2, k3, k5, h⟩ := h
  have hcl : PySem.W.clsIn K C = some { name := x, bases := bs, mro := .ref C :: bm, ns := N, qualname := x, hasDict := true, slotNames := sn, subclasses := sub, abstract := ab, collection := col, hasDel := false } := by unfold PySem.W.clsIn; rw [h] <;> rfl
  refine ⟨_, hcl, rfl, rfl, rfl, ?_⟩
  show (K.lookup C).map (·.cls) = _
  rw [h]
  rfl
theorem ClsAt.mro {K : PySem.W.Frag} {x : Str} {C : Addr} {bm : List Value} (h : ClsAt K x C bm) (b : Value) : PySem.W.mroIn K C b = some ((Value.ref C :: bm).contains b) := by
  obtain ⟨cd, h1, h2, _⟩ := h.cls
  unfold PySem.W.mroIn
  rw [h1, Option.bind_some, h2]
  rfl
theorem ClsAt.ne {K : PySem.W.Frag} {x y : Str} {C D : Addr} {bm bn : List Value} (h : ClsAt K x C bm) (g : ClsAt K y D bn) (n : x ≠ y) : C ≠ D := fun z => by
  obtain ⟨cd, h1, _, _, h2, _⟩ := h.cls
  obtain ⟨ce, g1, _, _, g2, _⟩ := g.cls
  rw [z, g1] at h1
  cases h1
  exact n (h2.symm.trans g2)
theorem ClsAt.kit {K : PySem.W.Frag} {x y : Str} {C D : Addr} {bm bn : List Value} (h : ClsAt K x C bm) (g : ClsAt K y D bn) : PySem.W.kitOne K (.ref C) (.ref D) = some ((Value.ref C :: bm).contains (.ref D)) := by
  unfold PySem.W.kitOne
  by_cases e : C = D
  · subst e
    rw [if_pos (by simp)]
    simp
  · rw [if_neg (by simpa using e)]
    obtain ⟨ce, g1, _, _, _, g2⟩ := g.cls
    show (if ((PySem.W.clsIn K D).isSome && PySem.W.typeIn K (.ref D) == some (.type "type")) = true then PySem.W.subIn K (.ref C) (.ref D) else none) = _
    rw [if_pos (by rw [g1, g2]; rfl)]
    exact h.mro _
/-- one class of them, and its __init__ -/
structure ClsF (P : Program) (K : PySem.W.Frag) (x qual : Str) (st : Stmt) (R C f cda cc : Addr) (fd : FuncData) (fs : List Str) : Prop where
  aC : PySem.W.nsIn K mainGlobals x = some (some (.ref C))
  at_ : ClsAt K x C (.ref R :: veT)
  sa : PySem.W.findIn K (.ref C) "__setattr__" = some (some (.builtin "object.__setattr__"))
  ga : PySem.W.findIn K (.ref C) "__getattribute__" = some (some (.builtin "BaseException.__getattribute__"))
  gg : PySem.W.findIn K (.ref C) "__getattr__" = some none
  ac : PySem.W.findIn K (.ref C) "__class__" = some (some (.builtin "object.__class__"))
  kC : PySem.W.keepIn K (.ref C) = true
  no : ∀ g ∈ fs, PySem.W.findIn K (.ref C) g = some none
  ini : PySem.W.findIn K (.ref C) "__init__" = some (some (.ref f))
  fn : SupFn K qual st f cda cc fd
  tf : PySem.W.typeIn K (.ref f) = some (.type "function")
  code : ∃ (ccl : Value) (cdd : Option Addr) (vs : Array Value) (ccs : Array (Option Value)) (file : Str) (tk : Tok), K.lookup cda = some ⟨ccl, cdd, .fields vs, ccs⟩ ∧ vs[2]? = some (.str file tk) ∧ ((P.main.file : Str) == file) = true
  cell : ∃ (cl : Value) (cld : Option Addr) (csl : Array (Option Value)), K.lookup cc = some ⟨cl, cld, .cell (some (.ref C)), csl⟩
  sup : PySem.W.ks_superIn K C C "__init__" = some (some (.builtin "ValueError.__init__"))
theorem cls_mk {P : Program} {K : PySem.W.Frag} {x qual : Str} {st : Stmt} {R C f cda cc : Addr} {fs : List Str} {N : Addr} {bs : List Value} {sn : List Str} {sub : List Value} {ab : Bool} {col : Option Bool} {dd : Option Addr} {k0 k1 k2 k3 k5 : Option Value}
    {oc kV doc pm ct ccl cl : Value} {od an cdd cld : Option Addr} {osl ccs csl : Array (Option Value)} {vs : Array Value} {file : Str} {tk : Tok}
    (aC : PySem.W.nsIn K mainGlobals x = some (some (.ref C)))
    (xL : K.lookup C = some (excClassObj x x C N bs (.ref R :: veT) true sn sub ab col dd k0 k1 k2 k3 k5 "ValueError.__new__"))
    (sa : PySem.W.findIn K (.ref C) "__setattr__" = some (some (.builtin "object.__setattr__")))
    (ga : PySem.W.findIn K (.ref C) "__getattribute__" = some (some (.builtin "BaseException.__getattribute__")))
    (gg : PySem.W.findIn K (.ref C) "__getattr__" = some none) (ac : PySem.W.findIn K (.ref C) "__class__" = some (some (.builtin "object.__class__")))
    (kC : PySem.W.keepIn K (.ref C) = true) (no : ∀ g ∈ fs, PySem.W.findIn K (.ref C) g = some none) (ini : PySem.W.findIn K (.ref C) "__init__" = some (some (.ref f)))
    (lk : K.lookup f = some ⟨oc, od, .func (PySem.W.ksFn "__init__" qual (defArgs st) (defBody st) (defScope st) .none kV doc pm an (.ref cda) ct cc), osl⟩) (cd : PySem.W.codeIn K (.ref cda) qual = true)
    (tf : PySem.W.typeIn K (.ref f) = some (.type "function")) (lc : K.lookup cda = some ⟨ccl, cdd, .fields vs, ccs⟩) (hv : vs[2]? = some (.str file tk)) (hf : ((P.main.file : Str) == file) = true)
    (ll : K.lookup cc = some ⟨cl, cld, .cell (some (.ref C)), csl⟩) (sup : PySem.W.ks_superIn K C C "__init__" = some (some (.builtin "ValueError.__init__"))) :
    ClsF P K x qual st R C f cda cc (PySem.W.ksFn "__init__" qual (defArgs st) (defBody st) (defScope st) .none kV doc pm an (.ref cda) ct cc) fs :=
  ⟨aC, ⟨N, bs, sn, sub, ab, col, dd, k0, k1, k2, k3, k5, xL⟩, sa, ga, gg, ac, kC, no, ini, ⟨oc, od, kV, doc, pm, an, ct, osl, rfl, lk, cd⟩, tf, ⟨ccl, cdd, vs, ccs, file, tk, lc, hv, hf⟩, ⟨cl, cld, csl, ll⟩, sup⟩
section
variable {P : Program} {K : PySem.W.Frag} {x qual : Str} {st : Stmt} {R C f cda cc : Addr} {fd : FuncData} {fs : List Str}
theorem ClsF.oex (F : ClsF P K x qual st R C f cda cc fd fs) : OexC K C := by
  obtain ⟨N, bs, sn, sub, ab, col, dd, k0, k1, k2, k3, k5, h⟩ := F.at_
  obtain ⟨cd, h1, h2, h3, h4, h5⟩ := F.at_.cls
  exact ⟨⟨x, x, N, bs, _, sn, sub, ab, col, dd, k0, k1, k2, k3, k5, h, by show HandSPX.refsVE veT = true; decide +kernel⟩, F.sa, by show PySem.W.mroIn K C _ = _; rw [F.at_.mro]; rfl, h5, F.kC⟩
theorem ClsF.err (F : ClsF P K x qual st R C f cda cc fd fs) : ErrC K C := by
  obtain ⟨cd, h1, h2, h3, h4, h5⟩ := F.at_.cls
  exact ⟨by rw [h1]; rfl, F.ga, F.gg, by show PySem.W.mroIn K C _ = _; rw [F.at_.mro]; rfl, by unfold PySem.W.hasDictIn; rw [h1]; exact h3, F.ac, by rw [F.at_.mro]; rfl⟩
theorem ClsF.supC (F : ClsF P K x qual st R C f cda cc fd fs) (sp : PySem.W.nsIn K mainGlobals "super" = some none) (opq : PySem.W.nsIn K cStatics "thirdparty.any" = some none) (ht : (P.main.scope.names.lookup ("super" : Str)).isSome = false) : SupC P K C cda cc :=
  ⟨F.oex, F.code, F.cell, by rw [F.at_.mro]; simp, sp, opq, F.sup, by show PySem.W.mroIn K C _ = _; rw [F.at_.mro]; rfl, ht⟩
/-- all of it -/
theorem ClsF.errT {w : World} {mg : Str → Option Value} {base h : Heap} (F : ClsF P K x qual st R C f cda cc fd fs) (X : K.In h) (G : h.Ns mainGlobals mg) (ok : FnOk P w K mg base CX0 2 f fd ("self" :: fs) (spInit K C fs))
    (b1 : KBn K fd ("self" :: fs) (fs.length + 1) [] gB gB) (b2 : KBn K fd ("self" :: fs) 1 fs.reverse gB gB) : ErrT P w K mg base x C fs :=
  ⟨F.oex, F.err, PySem.W.mg_of X G F.aC, F.no, f, fd, F.ini, F.tf, ok, b1, b2⟩
end
theorem nms_inj : ∀ k, k < 17 → ∀ j, j < 17 → nms k = nms j → k = j := by decide +kernel
theorem nms_R : ∀ k, k < 17 → nms k ≠ "RerunError" := by decide +kernel
theorem kit_mk {K : PySem.W.Frag} {C : Nat → Addr} {R : Addr} (hR : ClsAt K "RerunError" R veT) (hC : ∀ k, k < 17 → ClsAt K (nms k) (C k) (.ref R :: veT)) (ec : ∀ k, k < 17 → ErrC K (C k)) (no : ∀ k, k < 17 → ∀ f ∈ flds k, PySem.W.findIn K (.ref (C k)) f = some none) (cd : ClsD K) : Kit K C R := by
  refine ⟨fun k j hk hj => ?_, fun k hk => ?_, fun k hk => ?_, ec, no, cd⟩
  · rw [(hC k hk).kit (hC j hj)]
    by_cases e : k = j
    · subst e
      simp
    · have n1 : C k ≠ C j := (hC k hk).ne (hC j hj) fun z => e (nms_inj k hk j hj z)
      have n2 : R ≠ C j := hR.ne (hC j hj) fun z => nms_R j hj z.symm
      simp [n1.symm, n2.symm, e]
  · rw [(hC k hk).kit hR]
    simp
  · unfold PySem.W.kitOne
    rw [if_neg (by simp)]
    show (if PySem.W.kitMeta "ValueError" = true then PySem.W.subIn K (.ref (C k)) (.type "ValueError") else none) = _
    rw [if_pos (by decide +kernel)]
    show PySem.W.mroIn K (C k) _ = _
    rw [(hC k hk).mro]
    simp

theorem bpBadText {K : PySem.W.Frag} {f cda cc : Addr} {fd : FuncData} (F : SupFn K "BadText.__init__" sBadText f cda cc fd) : KBn K fd ("self" :: ["position"]) ((["position"] : List Str).length + 1) [] gB gB := by
  obtain ⟨oc, od, kV, doc, pm, an, ct, osl, rfl, _, _⟩ := F.ex
  exact ⟨fun s us ws _ l1 l2 => match us, ws, l1, l2 with | [_, _], [], _, _ => .of_eq rfl, gB_rel⟩
theorem bkBadText {K : PySem.W.Frag} {f cda cc : Addr} {fd : FuncData} (F : SupFn K "BadText.__init__" sBadText f cda cc fd) : KBn K fd ("self" :: ["position"]) 1 (["position"] : List Str).reverse gB gB := by
  obtain ⟨oc, od, kV, doc, pm, an, ct, osl, rfl, _, _⟩ := F.ex
  exact ⟨fun s us ws _ l1 l2 => match us, ws, l1, l2 with | [_], [_], _, _ => .of_eq rfl, gB_rel⟩
theorem bpFault {K : PySem.W.Frag} {f cda cc : Addr} {fd : FuncData} (F : SupFn K "Fault.__init__" sFault f cda cc fd) : KBn K fd ("self" :: ["reason"]) ((["reason"] : List Str).length + 1) [] gB gB := by
  obtain ⟨oc, od, kV, doc, pm, an, ct, osl, rfl, _, _⟩ := F.ex
  exact ⟨fun s us ws _ l1 l2 => match us, ws, l1, l2 with | [_, _], [], _, _ => .of_eq rfl, gB_rel⟩
theorem bkFault {K : PySem.W.Frag} {f cda cc : Addr} {fd : FuncData} (F : SupFn K "Fault.__init__" sFault f cda cc fd) : KBn K fd ("self" :: ["reason"]) 1 (["reason"] : List Str).reverse gB gB := by
  obtain ⟨oc, od, kV, doc, pm, an, ct, osl, rfl, _, _⟩ := F.ex
  exact ⟨fun s us ws _ l1 l2 => match us, ws, l1, l2 with | [_], [_], _, _ => .of_eq rfl, gB_rel⟩
theorem bpUnknownProcess {K : PySem.W.Frag} {f cda cc : Addr} {fd : FuncData} (F : SupFn K "UnknownProcess.__init__" sUnknownProcess f cda cc fd) : KBn K fd ("self" :: ["name"]) ((["name"] : List Str).length + 1) [] gB gB := by
  obtain ⟨oc, od, kV, doc, pm, an, ct, osl, rfl, _, _⟩ := F.ex
  exact ⟨fun s us ws _ l1 l2 => match us, ws, l1, l2 with | [_, _], [], _, _ => .of_eq rfl, gB_rel⟩
theorem bkUnknownProcess {K : PySem.W.Frag} {f cda cc : Addr} {fd : FuncData} (F : SupFn K "UnknownProcess.__init__" sUnknownProcess f cda cc fd) : KBn K fd ("self" :: ["name"]) 1 (["name"] : List Str).reverse gB gB := by
  obtain ⟨oc, od, kV, doc, pm, an, ct, osl, rfl, _, _⟩ := F.ex
  exact ⟨fun s us ws _ l1 l2 => match us, ws, l1, l2 with | [_], [_], _, _ => .of_eq rfl, gB_rel⟩
theorem bpBadInputs {K : PySem.W.Frag} {f cda cc : Addr} {fd : FuncData} (F : SupFn K "BadInputs.__init__" sBadInputs f cda cc fd) : KBn K fd ("self" :: ["index"]) ((["index"] : List Str).length + 1) [] gB gB := by
  obtain ⟨oc, od, kV, doc, pm, an, ct, osl, rfl, _, _⟩ := F.ex
  exact ⟨fun s us ws _ l1 l2 => match us, ws, l1, l2 with | [_, _], [], _, _ => .of_eq rfl, gB_rel⟩
theorem bkBadInputs {K : PySem.W.Frag} {f cda cc : Addr} {fd : FuncData} (F : SupFn K "BadInputs.__init__" sBadInputs f cda cc fd) : KBn K fd ("self" :: ["index"]) 1 (["index"] : List Str).reverse gB gB := by
  obtain ⟨oc, od, kV, doc, pm, an, ct, osl, rfl, _, _⟩ := F.ex
  exact ⟨fun s us ws _ l1 l2 => match us, ws, l1, l2 with | [_], [_], _, _ => .of_eq rfl, gB_rel⟩
theorem bpNotReady {K : PySem.W.Frag} {f cda cc : Addr} {fd : FuncData} (F : SupFn K "NotReady.__init__" sNotReady f cda cc fd) : KBn K fd ("self" :: ["name"]) ((["name"] : List Str).length + 1) [] gB gB := by
  obtain ⟨oc, od, kV, doc, pm, an, ct, osl, rfl, _, _⟩ := F.ex
  exact ⟨fun s us ws _ l1 l2 => match us, ws, l1, l2 with | [_, _], [], _, _ => .of_eq rfl, gB_rel⟩
theorem bkNotReady {K : PySem.W.Frag} {f cda cc : Addr} {fd : FuncData} (F : SupFn K "NotReady.__init__" sNotReady f cda cc fd) : KBn K fd ("self" :: ["name"]) 1 (["name"] : List Str).reverse gB gB := by
  obtain ⟨oc, od, kV, doc, pm, an, ct, osl, rfl, _, _⟩ := F.ex
  exact ⟨fun s us ws _ l1 l2 => match us, ws, l1, l2 with | [_], [_], _, _ => .of_eq rfl, gB_rel⟩
theorem bpBadSender {K : PySem.W.Frag} {f cda cc : Addr} {fd : FuncData} (F : SupFn K "BadSender.__init__" sBadSender f cda cc fd) : KBn K fd ("self" :: ["sender"]) ((["sender"] : List Str).length + 1) [] gB gB := by
  obtain ⟨oc, od, kV, doc, pm, an, ct, osl, rfl, _, _⟩ := F.ex
  exact ⟨fun s us ws _ l1 l2 => match us, ws, l1, l2 with | [_, _], [], _, _ => .of_eq rfl, gB_rel⟩
theorem bkBadSender {K : PySem.W.Frag} {f cda cc : Addr} {fd : FuncData} (F : SupFn K "BadSender.__init__" sBadSender f cda cc fd) : KBn K fd ("self" :: ["sender"]) 1 (["sender"] : List Str).reverse gB gB := by
  obtain ⟨oc, od, kV, doc, pm, an, ct, osl, rfl, _, _⟩ := F.ex
  exact ⟨fun s us ws _ l1 l2 => match us, ws, l1, l2 with | [_], [_], _, _ => .of_eq rfl, gB_rel⟩
theorem bpBadEvent {K : PySem.W.Frag} {f cda cc : Addr} {fd : FuncData} (F : SupFn K "BadEvent.__init__" sBadEvent f cda cc fd) : KBn K fd ("self" :: ["event"]) ((["event"] : List Str).length + 1) [] gB gB := by
  obtain ⟨oc, od, kV, doc, pm, an, ct, osl, rfl, _, _⟩ := F.ex
  exact ⟨fun s us ws _ l1 l2 => match us, ws, l1, l2 with | [_, _], [], _, _ => .of_eq rfl, gB_rel⟩
theorem bkBadEvent {K : PySem.W.Frag} {f cda cc : Addr} {fd : FuncData} (F : SupFn K "BadEvent.__init__" sBadEvent f cda cc fd) : KBn K fd ("self" :: ["event"]) 1 (["event"] : List Str).reverse gB gB := by
  obtain ⟨oc, od, kV, doc, pm, an, ct, osl, rfl, _, _⟩ := F.ex
  exact ⟨fun s us ws _ l1 l2 => match us, ws, l1, l2 with | [_], [_], _, _ => .of_eq rfl, gB_rel⟩
theorem bpBadRecordLine {K : PySem.W.Frag} {f cda cc : Addr} {fd : FuncData} (F : SupFn K "BadRecordLine.__init__" sBadRecordLine f cda cc fd) : KBn K fd ("self" :: ["line"]) ((["line"] : List Str).length + 1) [] gB gB := by
  obtain ⟨oc, od, kV, doc, pm, an, ct, osl, rfl, _, _⟩ := F.ex
  exact ⟨fun s us ws _ l1 l2 => match us, ws, l1, l2 with | [_, _], [], _, _ => .of_eq rfl, gB_rel⟩
theorem bkBadRecordLine {K : PySem.W.Frag} {f cda cc : Addr} {fd : FuncData} (F : SupFn K "BadRecordLine.__init__" sBadRecordLine f cda cc fd) : KBn K fd ("self" :: ["line"]) 1 (["line"] : List Str).reverse gB gB := by
  obtain ⟨oc, od, kV, doc, pm, an, ct, osl, rfl, _, _⟩ := F.ex
  exact ⟨fun s us ws _ l1 l2 => match us, ws, l1, l2 with | [_], [_], _, _ => .of_eq rfl, gB_rel⟩
theorem bpBadLine {K : PySem.W.Frag} {f cda cc : Addr} {fd : FuncData} (F : SupFn K "BadLine.__init__" sBadLine f cda cc fd) : KBn K fd ("self" :: ["line"]) ((["line"] : List Str).length + 1) [] gB gB := by
  obtain ⟨oc, od, kV, doc, pm, an, ct, osl, rfl, _, _⟩ := F.ex
  exact ⟨fun s us ws _ l1 l2 => match us, ws, l1, l2 with | [_, _], [], _, _ => .of_eq rfl, gB_rel⟩
theorem bkBadLine {K : PySem.W.Frag} {f cda cc : Addr} {fd : FuncData} (F : SupFn K "BadLine.__init__" sBadLine f cda cc fd) : KBn K fd ("self" :: ["line"]) 1 (["line"] : List Str).reverse gB gB := by
  obtain ⟨oc, od, kV, doc, pm, an, ct, osl, rfl, _, _⟩ := F.ex
  exact ⟨fun s us ws _ l1 l2 => match us, ws, l1, l2 with | [_], [_], _, _ => .of_eq rfl, gB_rel⟩
theorem bpBadWait {K : PySem.W.Frag} {f cda cc : Addr} {fd : FuncData} (F : SupFn K "BadWait.__init__" sBadWait f cda cc fd) : KBn K fd ("self" :: ["index"]) ((["index"] : List Str).length + 1) [] gB gB := by
  obtain ⟨oc, od, kV, doc, pm, an, ct, osl, rfl, _, _⟩ := F.ex
  exact ⟨fun s us ws _ l1 l2 => match us, ws, l1, l2 with | [_, _], [], _, _ => .of_eq rfl, gB_rel⟩
theorem bkBadWait {K : PySem.W.Frag} {f cda cc : Addr} {fd : FuncData} (F : SupFn K "BadWait.__init__" sBadWait f cda cc fd) : KBn K fd ("self" :: ["index"]) 1 (["index"] : List Str).reverse gB gB := by
  obtain ⟨oc, od, kV, doc, pm, an, ct, osl, rfl, _, _⟩ := F.ex
  exact ⟨fun s us ws _ l1 l2 => match us, ws, l1, l2 with | [_], [_], _, _ => .of_eq rfl, gB_rel⟩
theorem bpNotLive {K : PySem.W.Frag} {f cda cc : Addr} {fd : FuncData} (F : SupFn K "NotLive.__init__" sNotLive f cda cc fd) : KBn K fd ("self" :: ["ring"]) ((["ring"] : List Str).length + 1) [] gB gB := by
  obtain ⟨oc, od, kV, doc, pm, an, ct, osl, rfl, _, _⟩ := F.ex
  exact ⟨fun s us ws _ l1 l2 => match us, ws, l1, l2 with | [_, _], [], _, _ => .of_eq rfl, gB_rel⟩
theorem bkNotLive {K : PySem.W.Frag} {f cda cc : Addr} {fd : FuncData} (F : SupFn K "NotLive.__init__" sNotLive f cda cc fd) : KBn K fd ("self" :: ["ring"]) 1 (["ring"] : List Str).reverse gB gB := by
  obtain ⟨oc, od, kV, doc, pm, an, ct, osl, rfl, _, _⟩ := F.ex
  exact ⟨fun s us ws _ l1 l2 => match us, ws, l1, l2 with | [_], [_], _, _ => .of_eq rfl, gB_rel⟩
theorem bpTooMany {K : PySem.W.Frag} {f cda cc : Addr} {fd : FuncData} (F : SupFn K "TooMany.__init__" sTooMany f cda cc fd) : KBn K fd ("self" :: ["most"]) ((["most"] : List Str).length + 1) [] gB gB := by
  obtain ⟨oc, od, kV, doc, pm, an, ct, osl, rfl, _, _⟩ := F.ex
  exact ⟨fun s us ws _ l1 l2 => match us, ws, l1, l2 with | [_, _], [], _, _ => .of_eq rfl, gB_rel⟩
theorem bkTooMany {K : PySem.W.Frag} {f cda cc : Addr} {fd : FuncData} (F : SupFn K "TooMany.__init__" sTooMany f cda cc fd) : KBn K fd ("self" :: ["most"]) 1 (["most"] : List Str).reverse gB gB := by
  obtain ⟨oc, od, kV, doc, pm, an, ct, osl, rfl, _, _⟩ := F.ex
  exact ⟨fun s us ws _ l1 l2 => match us, ws, l1, l2 with | [_], [_], _, _ => .of_eq rfl, gB_rel⟩
theorem bpBadCut {K : PySem.W.Frag} {f cda cc : Addr} {fd : FuncData} (F : SupFn K "BadCut.__init__" sBadCut f cda cc fd) : KBn K fd ("self" :: ["cut"]) ((["cut"] : List Str).length + 1) [] gB gB := by
  obtain ⟨oc, od, kV, doc, pm, an, ct, osl, rfl, _, _⟩ := F.ex
  exact ⟨fun s us ws _ l1 l2 => match us, ws, l1, l2 with | [_, _], [], _, _ => .of_eq rfl, gB_rel⟩
theorem bkBadCut {K : PySem.W.Frag} {f cda cc : Addr} {fd : FuncData} (F : SupFn K "BadCut.__init__" sBadCut f cda cc fd) : KBn K fd ("self" :: ["cut"]) 1 (["cut"] : List Str).reverse gB gB := by
  obtain ⟨oc, od, kV, doc, pm, an, ct, osl, rfl, _, _⟩ := F.ex
  exact ⟨fun s us ws _ l1 l2 => match us, ws, l1, l2 with | [_], [_], _, _ => .of_eq rfl, gB_rel⟩
theorem bpMissing {K : PySem.W.Frag} {f cda cc : Addr} {fd : FuncData} (F : SupFn K "Missing.__init__" sMissing f cda cc fd) : KBn K fd ("self" :: ["what"]) ((["what"] : List Str).length + 1) [] gB gB := by
  obtain ⟨oc, od, kV, doc, pm, an, ct, osl, rfl, _, _⟩ := F.ex
  exact ⟨fun s us ws _ l1 l2 => match us, ws, l1, l2 with | [_, _], [], _, _ => .of_eq rfl, gB_rel⟩
theorem bkMissing {K : PySem.W.Frag} {f cda cc : Addr} {fd : FuncData} (F : SupFn K "Missing.__init__" sMissing f cda cc fd) : KBn K fd ("self" :: ["what"]) 1 (["what"] : List Str).reverse gB gB := by
  obtain ⟨oc, od, kV, doc, pm, an, ct, osl, rfl, _, _⟩ := F.ex
  exact ⟨fun s us ws _ l1 l2 => match us, ws, l1, l2 with | [_], [_], _, _ => .of_eq rfl, gB_rel⟩
theorem bpBadProgram {K : PySem.W.Frag} {f cda cc : Addr} {fd : FuncData} (F : SupFn K "BadProgram.__init__" sBadProgram f cda cc fd) : KBn K fd ("self" :: ["line", "reason"]) ((["line", "reason"] : List Str).length + 1) [] gB gB := by
  obtain ⟨oc, od, kV, doc, pm, an, ct, osl, rfl, _, _⟩ := F.ex
  exact ⟨fun s us ws _ l1 l2 => match us, ws, l1, l2 with | [_, _, _], [], _, _ => .of_eq rfl, gB_rel⟩
theorem bkBadProgram {K : PySem.W.Frag} {f cda cc : Addr} {fd : FuncData} (F : SupFn K "BadProgram.__init__" sBadProgram f cda cc fd) : KBn K fd ("self" :: ["line", "reason"]) 1 (["line", "reason"] : List Str).reverse gB gB := by
  obtain ⟨oc, od, kV, doc, pm, an, ct, osl, rfl, _, _⟩ := F.ex
  exact ⟨fun s us ws _ l1 l2 => match us, ws, l1, l2 with | [_], [_, _], _, _ => .of_eq rfl, gB_rel⟩
theorem bpBadConditions {K : PySem.W.Frag} {f cda cc : Addr} {fd : FuncData} (F : SupFn K "BadConditions.__init__" sBadConditions f cda cc fd) : KBn K fd ("self" :: ["line", "reason"]) ((["line", "reason"] : List Str).length + 1) [] gB gB := by
  obtain ⟨oc, od, kV, doc, pm, an, ct, osl, rfl, _, _⟩ := F.ex
  exact ⟨fun s us ws _ l1 l2 => match us, ws, l1, l2 with | [_, _, _], [], _, _ => .of_eq rfl, gB_rel⟩
theorem bkBadConditions {K : PySem.W.Frag} {f cda cc : Addr} {fd : FuncData} (F : SupFn K "BadConditions.__init__" sBadConditions f cda cc fd) : KBn K fd ("self" :: ["line", "reason"]) 1 (["line", "reason"] : List Str).reverse gB gB := by
  obtain ⟨oc, od, kV, doc, pm, an, ct, osl, rfl, _, _⟩ := F.ex
  exact ⟨fun s us ws _ l1 l2 => match us, ws, l1, l2 with | [_], [_, _], _, _ => .of_eq rfl, gB_rel⟩
theorem bpBadRecord {K : PySem.W.Frag} {f cda cc : Addr} {fd : FuncData} (F : SupFn K "BadRecord.__init__" sBadRecord f cda cc fd) : KBn K fd ("self" :: ["reason", "name", "number"]) ((["reason", "name", "number"] : List Str).length + 1) [] gB gB := by
  obtain ⟨oc, od, kV, doc, pm, an, ct, osl, rfl, _, _⟩ := F.ex
  exact ⟨fun s us ws _ l1 l2 => match us, ws, l1, l2 with | [_, _, _, _], [], _, _ => .of_eq rfl, gB_rel⟩
theorem bkBadRecord {K : PySem.W.Frag} {f cda cc : Addr} {fd : FuncData} (F : SupFn K "BadRecord.__init__" sBadRecord f cda cc fd) : KBn K fd ("self" :: ["reason", "name", "number"]) 1 (["reason", "name", "number"] : List Str).reverse gB gB := by
  obtain ⟨oc, od, kV, doc, pm, an, ct, osl, rfl, _, _⟩ := F.ex
  exact ⟨fun s us ws _ l1 l2 => match us, ws, l1, l2 with | [_], [_, _, _], _, _ => .of_eq rfl, gB_rel⟩
end K1

set_option Elab.async false
set_option linter.all false
set_option maxRecDepth 100000
set_option maxHeartbeats 4000000
namespace K1
open PySem PySem.Spec PyProof.Rows L2 Rx
theorem no1 {K : PySem.W.Frag} {C : Addr} {a : Str} (h : PySem.W.findIn K (.ref C) a = some none) : ∀ g ∈ [a], PySem.W.findIn K (.ref C) g = some none := fun g hg => by rw [List.mem_singleton.mp hg]; exact h
theorem no2 {K : PySem.W.Frag} {C : Addr} {a b : Str} (h : PySem.W.findIn K (.ref C) a = some none) (h2 : PySem.W.findIn K (.ref C) b = some none) : ∀ g ∈ [a, b], PySem.W.findIn K (.ref C) g = some none := fun g hg => by
  rcases List.mem_cons.mp hg with rfl | hg
  · exact h
  · exact no1 h2 g hg
theorem no3 {K : PySem.W.Frag} {C : Addr} {a b c : Str} (h : PySem.W.findIn K (.ref C) a = some none) (h2 : PySem.W.findIn K (.ref C) b = some none) (h3 : PySem.W.findIn K (.ref C) c = some none) : ∀ g ∈ [a, b, c], PySem.W.findIn K (.ref C) g = some none := fun g hg => by
  rcases List.mem_cons.mp hg with rfl | hg
  · exact h
  · exact no2 h2 h3 g hg
theorem all_mk {l : PySem.W.OpenLaw} {w : World} {K : PySem.W.Frag} {h : Heap} {mg : Str → Option Value} {fa R NR f0 f1 f2 f3 f4 f5 f6 f7 f8 : Addr} (X : K.In h) (G : h.Ns mainGlobals mg) (hfa : mg "law" = some (.ref fa))
    {od0 an0 od1 an1 od2 an2 od3 an3 od4 an4 od5 an5 od6 an6 od7 an7 od8 an8 : Option Addr} {sl0 sl1 sl2 sl3 sl4 sl5 sl6 sl7 sl8 : Array (Option Value)} {oc0 kV0 dc0 pm0 cd0 ct0 oc1 kV1 dc1 pm1 cd1 ct1 oc2 kV2 dc2 pm2 cd2 ct2 oc3 kV3 dc3 pm3 cd3 ct3 oc4 kV4 dc4 pm4 cd4 ct4 oc5 kV5 dc5 pm5 cd5 ct5 oc6 kV6 dc6 pm6 cd6 ct6 oc7 kV7 dc7 pm7 cd7 ct7 oc8 kV8 dc8 pm8 cd8 ct8 : Value}
    {bsR subR : List Value} {snR : List Str} {abR : Bool} {colR : Option Bool} {ddR : Option Addr} {r0 r1 r2 r3 r5 : Option Value}
    (aR : PySem.W.nsIn K mainGlobals "RerunError" = some (some (.ref R))) (xR : K.lookup R = some (excClassObj "RerunError" "RerunError" R NR bsR veT true snR subR abR colR ddR r0 r1 r2 r3 r5 "ValueError.__new__"))
    (a0 : PySem.W.nsIn K mainGlobals "frozen" = some (some (.ref f0))) (l0 : K.lookup f0 = some ⟨oc0, od0, .func (PySem.W.fnOf "frozen" "frozen" (defArgs sFrozen) (defBody sFrozen) (defScope sFrozen) .none kV0 dc0 pm0 an0 cd0 ct0), sl0⟩) (c0 : PySem.W.codeIn K cd0 "frozen" = true) (k0 : PySem.W.keepIn K (.ref f0) = true)
    (a1 : PySem.W.nsIn K mainGlobals "_law_draw" = some (some (.ref f1))) (l1 : K.lookup f1 = some ⟨oc1, od1, .func (PySem.W.fnOf "_law_draw" "_law_draw" (defArgs sDraw) (defBody sDraw) (defScope sDraw) .none kV1 dc1 pm1 an1 cd1 ct1), sl1⟩) (c1 : PySem.W.codeIn K cd1 "_law_draw" = true) (k1 : PySem.W.keepIn K (.ref f1) = true)
    (a2 : PySem.W.nsIn K mainGlobals "_law_thing" = some (some (.ref f2))) (l2 : K.lookup f2 = some ⟨oc2, od2, .func (PySem.W.fnOf "_law_thing" "_law_thing" (defArgs sThing) (defBody sThing) (defScope sThing) .none kV2 dc2 pm2 an2 cd2 ct2), sl2⟩) (c2 : PySem.W.codeIn K cd2 "_law_thing" = true) (k2 : PySem.W.keepIn K (.ref f2) = true)
    (a3 : PySem.W.nsIn K mainGlobals "_law_fixed" = some (some (.ref f3))) (l3 : K.lookup f3 = some ⟨oc3, od3, .func (PySem.W.fnOf "_law_fixed" "_law_fixed" (defArgs sFixed) (defBody sFixed) (defScope sFixed) .none kV3 dc3 pm3 an3 cd3 ct3), sl3⟩) (c3 : PySem.W.codeIn K cd3 "_law_fixed" = true) (k3 : PySem.W.keepIn K (.ref f3) = true)
    (a4 : PySem.W.nsIn K mainGlobals "_law_made" = some (some (.ref f4))) (l4 : K.lookup f4 = some ⟨oc4, od4, .func (PySem.W.fnOf "_law_made" "_law_made" (defArgs sMade) (defBody sMade) (defScope sMade) .none kV4 dc4 pm4 an4 cd4 ct4), sl4⟩) (c4 : PySem.W.codeIn K cd4 "_law_made" = true) (k4 : PySem.W.keepIn K (.ref f4) = true)
    (a5 : PySem.W.nsIn K mainGlobals "_law_named" = some (some (.ref f5))) (l5 : K.lookup f5 = some ⟨oc5, od5, .func (PySem.W.fnOf "_law_named" "_law_named" (defArgs sNamed) (defBody sNamed) (defScope sNamed) .none kV5 dc5 pm5 an5 cd5 ct5), sl5⟩) (c5 : PySem.W.codeIn K cd5 "_law_named" = true) (k5 : PySem.W.keepIn K (.ref f5) = true)
    (a6 : PySem.W.nsIn K mainGlobals "_law_fields" = some (some (.ref f6))) (l6 : K.lookup f6 = some ⟨oc6, od6, .func (PySem.W.fnOf "_law_fields" "_law_fields" (defArgs sFields) (defBody sFields) (defScope sFields) .none kV6 dc6 pm6 an6 cd6 ct6), sl6⟩) (c6 : PySem.W.codeIn K cd6 "_law_fields" = true) (k6 : PySem.W.keepIn K (.ref f6) = true)
    (a7 : PySem.W.nsIn K mainGlobals "_law_kinds" = some (some (.ref f7))) (l7 : K.lookup f7 = some ⟨oc7, od7, .func (PySem.W.fnOf "_law_kinds" "_law_kinds" (defArgs sKinds) (defBody sKinds) (defScope sKinds) .none kV7 dc7 pm7 an7 cd7 ct7), sl7⟩) (c7 : PySem.W.codeIn K cd7 "_law_kinds" = true) (k7 : PySem.W.keepIn K (.ref f7) = true)
    (a8 : PySem.W.nsIn K mainGlobals "law" = some (some (.ref f8))) (l8 : K.lookup f8 = some ⟨oc8, od8, .func (PySem.W.fnOf "law" "law" (defArgs sLaw) (defBody sLaw) (defScope sLaw) .none kV8 dc8 pm8 an8 cd8 ct8), sl8⟩) (c8 : PySem.W.codeIn K cd8 "law" = true) (k8 : PySem.W.keepIn K (.ref f8) = true)
    (z0 : PySem.W.nsIn K mainGlobals "len" = some none)
    (z1 : PySem.W.nsIn K mainGlobals "tuple" = some none)
    (z2 : PySem.W.nsIn K mainGlobals "list" = some none)
    (z3 : PySem.W.nsIn K mainGlobals "isinstance" = some none)
    (z4 : PySem.W.nsIn K mainGlobals "range" = some none)
    (z5 : PySem.W.nsIn K mainGlobals "str" = some none)
    (z6 : PySem.W.nsIn K mainGlobals "ValueError" = some none)
    (sp : PySem.W.nsIn K mainGlobals "super" = some none) (opq : PySem.W.nsIn K cStatics "thirdparty.any" = some none) (ht : (l.prog.main.scope.names.lookup ("super" : Str)).isSome = false) (hn : PySem.W.specialIn K (.builtin "object.__class__") "__get__" = some (some (.builtin "getset_descriptor.__get__"))) (htk : PySem.W.takesIn K (.builtin "object.__class__") = some true)
    (E0 : ∃ (C f cda cc : Addr) (fd : FuncData), ClsF l.prog K "BadText" "BadText.__init__" sBadText R C f cda cc fd ["position"])
    (E1 : ∃ (C f cda cc : Addr) (fd : FuncData), ClsF l.prog K "Fault" "Fault.__init__" sFault R C f cda cc fd ["reason"])
    (E2 : ∃ (C f cda cc : Addr) (fd : FuncData), ClsF l.prog K "UnknownProcess" "UnknownProcess.__init__" sUnknownProcess R C f cda cc fd ["name"])
    (E3 : ∃ (C f cda cc : Addr) (fd : FuncData), ClsF l.prog K "BadInputs" "BadInputs.__init__" sBadInputs R C f cda cc fd ["index"])
    (E4 : ∃ (C f cda cc : Addr) (fd : FuncData), ClsF l.prog K "NotReady" "NotReady.__init__" sNotReady R C f cda cc fd ["name"])
    (E5 : ∃ (C f cda cc : Addr) (fd : FuncData), ClsF l.prog K "BadSender" "BadSender.__init__" sBadSender R C f cda cc fd ["sender"])
    (E6 : ∃ (C f cda cc : Addr) (fd : FuncData), ClsF l.prog K "BadEvent" "BadEvent.__init__" sBadEvent R C f cda cc fd ["event"])
    (E7 : ∃ (C f cda cc : Addr) (fd : FuncData), ClsF l.prog K "BadRecordLine" "BadRecordLine.__init__" sBadRecordLine R C f cda cc fd ["line"])
    (E8 : ∃ (C f cda cc : Addr) (fd : FuncData), ClsF l.prog K "BadLine" "BadLine.__init__" sBadLine R C f cda cc fd ["line"])
    (E9 : ∃ (C f cda cc : Addr) (fd : FuncData), ClsF l.prog K "BadWait" "BadWait.__init__" sBadWait R C f cda cc fd ["index"])
    (E10 : ∃ (C f cda cc : Addr) (fd : FuncData), ClsF l.prog K "NotLive" "NotLive.__init__" sNotLive R C f cda cc fd ["ring"])
    (E11 : ∃ (C f cda cc : Addr) (fd : FuncData), ClsF l.prog K "TooMany" "TooMany.__init__" sTooMany R C f cda cc fd ["most"])
    (E12 : ∃ (C f cda cc : Addr) (fd : FuncData), ClsF l.prog K "BadCut" "BadCut.__init__" sBadCut R C f cda cc fd ["cut"])
    (E13 : ∃ (C f cda cc : Addr) (fd : FuncData), ClsF l.prog K "Missing" "Missing.__init__" sMissing R C f cda cc fd ["what"])
    (E14 : ∃ (C f cda cc : Addr) (fd : FuncData), ClsF l.prog K "BadProgram" "BadProgram.__init__" sBadProgram R C f cda cc fd ["line", "reason"])
    (E15 : ∃ (C f cda cc : Addr) (fd : FuncData), ClsF l.prog K "BadConditions" "BadConditions.__init__" sBadConditions R C f cda cc fd ["line", "reason"])
    (E16 : ∃ (C f cda cc : Addr) (fd : FuncData), ClsF l.prog K "BadRecord" "BadRecord.__init__" sBadRecord R C f cda cc fd ["reason", "name", "number"])
    : ∃ fd : FuncData, (∀ (s : Shared) (v : Value), BindsTo s fd ⟨[v], []⟩ [("_law_script", v)]) ∧ ∀ base : Heap, K.In base → base.Ns mainGlobals mg → FnG l.prog w K mg base 6 fa fd ["_law_script"] (spLaw K) := by
  have e := hfa.symm.trans (PySem.W.mg_of X G a8)
  cases e
  have F0 := fun_mk (st := sFrozen) l0 c0 k0
  have b0 := F0.binds (ps := ["thing"]) fun _ _ _ _ _ _ us hl => match us, hl with | [_], _ => rfl
  have F1 := fun_mk (st := sDraw) l1 c1 k1
  have b1 := F1.binds (ps := ["_law_stream", "_law_many"]) fun _ _ _ _ _ _ us hl => match us, hl with | [_, _], _ => rfl
  have F2 := fun_mk (st := sThing) l2 c2 k2
  have b2 := F2.binds (ps := ["_law_stream", "_law_deep"]) fun _ _ _ _ _ _ us hl => match us, hl with | [_, _], _ => rfl
  have F3 := fun_mk (st := sFixed) l3 c3 k3
  have b3 := F3.binds (ps := ["_law_thing_here"]) fun _ _ _ _ _ _ us hl => match us, hl with | [_], _ => rfl
  have F4 := fun_mk (st := sMade) l4 c4 k4
  have b4 := F4.binds (ps := ["_law_one", "_law_two", "_law_three"]) fun _ _ _ _ _ _ us hl => match us, hl with | [_, _, _], _ => rfl
  have F5 := fun_mk (st := sNamed) l5 c5 k5
  have b5 := F5.binds (ps := ["_law_one", "_law_two", "_law_three"]) fun _ _ _ _ _ _ us hl => match us, hl with | [_, _, _], _ => rfl
  have F6 := fun_mk (st := sFields) l6 c6 k6
  have b6 := F6.binds (ps := ["_law_k", "_law_e"]) fun _ _ _ _ _ _ us hl => match us, hl with | [_, _], _ => rfl
  have F7 := fun_mk (st := sKinds) l7 c7 k7
  have b7 := F7.binds (ps := ["_law_e"]) fun _ _ _ _ _ _ us hl => match us, hl with | [_], _ => rfl
  have F8 := fun_mk (st := sLaw) l8 c8 k8
  obtain ⟨C0, g0, cda0, cc0, fd0, E0⟩ := E0
  obtain ⟨C1, g1, cda1, cc1, fd1, E1⟩ := E1
  obtain ⟨C2, g2, cda2, cc2, fd2, E2⟩ := E2
  obtain ⟨C3, g3, cda3, cc3, fd3, E3⟩ := E3
  obtain ⟨C4, g4, cda4, cc4, fd4, E4⟩ := E4
  obtain ⟨C5, g5, cda5, cc5, fd5, E5⟩ := E5
  obtain ⟨C6, g6, cda6, cc6, fd6, E6⟩ := E6
  obtain ⟨C7, g7, cda7, cc7, fd7, E7⟩ := E7
  obtain ⟨C8, g8, cda8, cc8, fd8, E8⟩ := E8
  obtain ⟨C9, g9, cda9, cc9, fd9, E9⟩ := E9
  obtain ⟨C10, g10, cda10, cc10, fd10, E10⟩ := E10
  obtain ⟨C11, g11, cda11, cc11, fd11, E11⟩ := E11
  obtain ⟨C12, g12, cda12, cc12, fd12, E12⟩ := E12
  obtain ⟨C13, g13, cda13, cc13, fd13, E13⟩ := E13
  obtain ⟨C14, g14, cda14, cc14, fd14, E14⟩ := E14
  obtain ⟨C15, g15, cda15, cc15, fd15, E15⟩ := E15
  obtain ⟨C16, g16, cda16, cc16, fd16, E16⟩ := E16
  have T : TxtB mg := ⟨PySem.W.mg_none_of X G z0, PySem.W.mg_none_of X G z1, PySem.W.mg_none_of X G z2, PySem.W.mg_none_of X G z3⟩
  have mr := PySem.W.mg_none_of X G z4
  have hC : ∀ k, k < 17 → ClsAt K (nms k) (([C0, C1, C2, C3, C4, C5, C6, C7, C8, C9, C10, C11, C12, C13, C14, C15, C16] : List Addr).getD k 0) (.ref R :: veT) := fun k hk => match k, hk with
    | 0, _ => E0.at_
    | 1, _ => E1.at_
    | 2, _ => E2.at_
    | 3, _ => E3.at_
    | 4, _ => E4.at_
    | 5, _ => E5.at_
    | 6, _ => E6.at_
    | 7, _ => E7.at_
    | 8, _ => E8.at_
    | 9, _ => E9.at_
    | 10, _ => E10.at_
    | 11, _ => E11.at_
    | 12, _ => E12.at_
    | 13, _ => E13.at_
    | 14, _ => E14.at_
    | 15, _ => E15.at_
    | 16, _ => E16.at_
    | n + 17, h => absurd h (by omega)
  have hE : ∀ k, k < 17 → ErrC K (([C0, C1, C2, C3, C4, C5, C6, C7, C8, C9, C10, C11, C12, C13, C14, C15, C16] : List Addr).getD k 0) := fun k hk => match k, hk with
    | 0, _ => E0.err
    | 1, _ => E1.err
    | 2, _ => E2.err
    | 3, _ => E3.err
    | 4, _ => E4.err
    | 5, _ => E5.err
    | 6, _ => E6.err
    | 7, _ => E7.err
    | 8, _ => E8.err
    | 9, _ => E9.err
    | 10, _ => E10.err
    | 11, _ => E11.err
    | 12, _ => E12.err
    | 13, _ => E13.err
    | 14, _ => E14.err
    | 15, _ => E15.err
    | 16, _ => E16.err
    | n + 17, h => absurd h (by omega)
  have hN : ∀ k, k < 17 → ∀ f ∈ flds k, PySem.W.findIn K (.ref (([C0, C1, C2, C3, C4, C5, C6, C7, C8, C9, C10, C11, C12, C13, C14, C15, C16] : List Addr).getD k 0)) f = some none := fun k hk => match k, hk with
    | 0, _ => E0.no
    | 1, _ => E1.no
    | 2, _ => E2.no
    | 3, _ => E3.no
    | 4, _ => E4.no
    | 5, _ => E5.no
    | 6, _ => E6.no
    | 7, _ => E7.no
    | 8, _ => E8.no
    | 9, _ => E9.no
    | 10, _ => E10.no
    | 11, _ => E11.no
    | 12, _ => E12.no
    | 13, _ => E13.no
    | 14, _ => E14.no
    | 15, _ => E15.no
    | 16, _ => E16.no
    | n + 17, h => absurd h (by omega)
  have hM : ∀ k, k < 17 → mg (nms k) = some (.ref (([C0, C1, C2, C3, C4, C5, C6, C7, C8, C9, C10, C11, C12, C13, C14, C15, C16] : List Addr).getD k 0)) := fun k hk => match k, hk with
    | 0, _ => PySem.W.mg_of X G E0.aC
    | 1, _ => PySem.W.mg_of X G E1.aC
    | 2, _ => PySem.W.mg_of X G E2.aC
    | 3, _ => PySem.W.mg_of X G E3.aC
    | 4, _ => PySem.W.mg_of X G E4.aC
    | 5, _ => PySem.W.mg_of X G E5.aC
    | 6, _ => PySem.W.mg_of X G E6.aC
    | 7, _ => PySem.W.mg_of X G E7.aC
    | 8, _ => PySem.W.mg_of X G E8.aC
    | 9, _ => PySem.W.mg_of X G E9.aC
    | 10, _ => PySem.W.mg_of X G E10.aC
    | 11, _ => PySem.W.mg_of X G E11.aC
    | 12, _ => PySem.W.mg_of X G E12.aC
    | 13, _ => PySem.W.mg_of X G E13.aC
    | 14, _ => PySem.W.mg_of X G E14.aC
    | 15, _ => PySem.W.mg_of X G E15.aC
    | 16, _ => PySem.W.mg_of X G E16.aC
    | n + 17, h => absurd h (by omega)
  have Z : Kit K (fun k => ([C0, C1, C2, C3, C4, C5, C6, C7, C8, C9, C10, C11, C12, C13, C14, C15, C16] : List Addr).getD k 0) R := kit_mk ⟨NR, bsR, snR, subR, abR, colR, ddR, r0, r1, r2, r3, r5, xR⟩ hC hE hN ⟨hn, htk⟩
  refine ⟨PySem.W.fnOf "law" "law" (defArgs sLaw) (defBody sLaw) (defScope sLaw) .none kV8 dc8 pm8 an8 cd8 ct8, fun s v => .of_eq rfl, fun base _ _ => ?_⟩
  have CF : Cal l.prog w K mg base 1 "frozen" f0 _ ["thing"] (spFrozen K) := ⟨ok_frozen F0 T, PySem.W.mg_of X G a0, k0, b0⟩
  have CD : Cal l.prog w K mg base 1 "_law_draw" f1 _ ["_law_stream", "_law_many"] spDraw := ⟨ok_draw F1, PySem.W.mg_of X G a1, k1, b1⟩
  have CT := ok_thing F2 T mr (PySem.W.mg_of X G a2) b2 CD 3
  have CX := ok_fixed (P := l.prog) (w := w) (base := base) F3 T (PySem.W.mg_of X G a3) b3 3
  have AE : AllErr l.prog w K mg base (fun k => ([C0, C1, C2, C3, C4, C5, C6, C7, C8, C9, C10, C11, C12, C13, C14, C15, C16] : List Addr).getD k 0) :=
    ⟨E0.errT X G (okBadText E0.fn (E0.supC sp opq ht) CF E0.no) (bpBadText E0.fn) (bkBadText E0.fn),
    E1.errT X G (okFault E1.fn (E1.supC sp opq ht) CF E1.no) (bpFault E1.fn) (bkFault E1.fn),
    E2.errT X G (okUnknownProcess E2.fn (E2.supC sp opq ht) CF E2.no) (bpUnknownProcess E2.fn) (bkUnknownProcess E2.fn),
    E3.errT X G (okBadInputs E3.fn (E3.supC sp opq ht) CF E3.no) (bpBadInputs E3.fn) (bkBadInputs E3.fn),
    E4.errT X G (okNotReady E4.fn (E4.supC sp opq ht) CF E4.no) (bpNotReady E4.fn) (bkNotReady E4.fn),
    E5.errT X G (okBadSender E5.fn (E5.supC sp opq ht) CF E5.no) (bpBadSender E5.fn) (bkBadSender E5.fn),
    E6.errT X G (okBadEvent E6.fn (E6.supC sp opq ht) CF E6.no) (bpBadEvent E6.fn) (bkBadEvent E6.fn),
    E7.errT X G (okBadRecordLine E7.fn (E7.supC sp opq ht) CF E7.no) (bpBadRecordLine E7.fn) (bkBadRecordLine E7.fn),
    E8.errT X G (okBadLine E8.fn (E8.supC sp opq ht) CF E8.no) (bpBadLine E8.fn) (bkBadLine E8.fn),
    E9.errT X G (okBadWait E9.fn (E9.supC sp opq ht) CF E9.no) (bpBadWait E9.fn) (bkBadWait E9.fn),
    E10.errT X G (okNotLive E10.fn (E10.supC sp opq ht) CF E10.no) (bpNotLive E10.fn) (bkNotLive E10.fn),
    E11.errT X G (okTooMany E11.fn (E11.supC sp opq ht) CF E11.no) (bpTooMany E11.fn) (bkTooMany E11.fn),
    E12.errT X G (okBadCut E12.fn (E12.supC sp opq ht) CF E12.no) (bpBadCut E12.fn) (bkBadCut E12.fn),
    E13.errT X G (okMissing E13.fn (E13.supC sp opq ht) CF E13.no) (bpMissing E13.fn) (bkMissing E13.fn),
    E14.errT X G (okBadProgram E14.fn (E14.supC sp opq ht) CF E14.no) (bpBadProgram E14.fn) (bkBadProgram E14.fn),
    E15.errT X G (okBadConditions E15.fn (E15.supC sp opq ht) CF E15.no) (bpBadConditions E15.fn) (bkBadConditions E15.fn),
    E16.errT X G (okBadRecord E16.fn (E16.supC sp opq ht) CF E16.no) (bpBadRecord E16.fn) (bkBadRecord E16.fn)⟩
  exact ok_law F8 T mr (PySem.W.mg_none_of X G z5) (PySem.W.mg_none_of X G z6) (PySem.W.mg_of X G aR) Z CT CX ⟨ok_made F4 AE, PySem.W.mg_of X G a4, k4, b4⟩ ⟨ok_named F5 AE, PySem.W.mg_of X G a5, k5, b5⟩ ⟨ok_fields F6 Z, PySem.W.mg_of X G a6, k6, b6⟩ ⟨ok_kinds F7 T mr Z hM, PySem.W.mg_of X G a7, k7, b7⟩

theorem walk {l : PySem.W.OpenLaw} {q : Program} {loose : List Str} {XP : (Str → Option Value) → Heap → Prop} {YP : World → Heap → Prop} {d : DefRec} {K : Params → PySem.W.Frag} (hn : l.most = some 63) (hdf : d.params.defaults = []) (hY : ∀ (w : World) (h : Heap), YP w h → (K w.params).In h)
    (F : ∀ (w : World) (mg : Str → Option Value) (fa : Addr) (h : Heap), (K w.params).In h → h.Ns mainGlobals mg → mg d.name = some (.ref fa) →
      ∃ fd : FuncData, (∀ (s : Shared) (u : Value), BindsTo s fd ⟨[u], []⟩ [("_law_script", u)]) ∧ ∀ base : Heap, (K w.params).In base → base.Ns mainGlobals mg → FnG l.prog w (K w.params) mg base 6 fa fd ["_law_script"] (spLaw (K w.params))) :
    PySem.W.WalkO q loose XP YP l.row.toRowW d [] (fun f vs => PySem.call f vs) :=
  walk_ofG (n := 63) (k := 6) (x := "_law_script") (sp := spLaw) hn (by decide) hdf ⟨rfl, by decide, by decide⟩ hY F (fun K H a ns _ _ hS => ⟨a, ns, rfl, hS, fun _ => rfl⟩)
end K1

set_option Elab.async false
open PySem PySem.W PyProof.Rows
set_option maxRecDepth 100000 in
set_option maxHeartbeats 0 in
theorem PySem.Challenge.cw_rerunrein_k01_errors_made_holds : PySem.Challenge.rw_rerunrein_k01_errors_made.Holds := by
  w_on; o_law; k_head; (case hw => w_witness2)
  k_fill
  refine K1.walk (l := PySem.Challenge.rw_rerunrein_k01_errors_made) rfl rfl (fun w h Y => PySem.W.kIn_of Y) ?F
  case F =>
    intro w mg fa h KX G hmg
    refine' K1.all_mk KX G hmg ?aR ?xR ?a0 ?l0 ?c0 ?k0 ?a1 ?l1 ?c1 ?k1 ?a2 ?l2 ?c2 ?k2 ?a3 ?l3 ?c3 ?k3 ?a4 ?l4 ?c4 ?k4 ?a5 ?l5 ?c5 ?k5 ?a6 ?l6 ?c6 ?k6 ?a7 ?l7 ?c7 ?k7 ?a8 ?l8 ?c8 ?k8 ?z0 ?z1 ?z2 ?z3 ?z4 ?z5 ?z6 ?sp ?opq ?ht ?hn ?htk ?E0 ?E1 ?E2 ?E3 ?E4 ?E5 ?E6 ?E7 ?E8 ?E9 ?E10 ?E11 ?E12 ?E13 ?E14 ?E15 ?E16
    (case aR => k_is)
    (case xR => k_is)
    (case a0 => k_is)
    (case l0 => k_is)
    (case c0 => k_is)
    (case k0 => k_is)
    (case a1 => k_is)
    (case l1 => k_is)
    (case c1 => k_is)
    (case k1 => k_is)
    (case a2 => k_is)
    (case l2 => k_is)
    (case c2 => k_is)
    (case k2 => k_is)
    (case a3 => k_is)
    (case l3 => k_is)
    (case c3 => k_is)
    (case k3 => k_is)
    (case a4 => k_is)
    (case l4 => k_is)
    (case c4 => k_is)
    (case k4 => k_is)
    (case a5 => k_is)
    (case l5 => k_is)
    (case c5 => k_is)
    (case k5 => k_is)
    (case a6 => k_is)
    (case l6 => k_is)
    (case c6 => k_is)
    (case k6 => k_is)
    (case a7 => k_is)
    (case l7 => k_is)
    (case c7 => k_is)
    (case k7 => k_is)
    (case a8 => k_is)
    (case l8 => k_is)
    (case c8 => k_is)
    (case k8 => k_is)
    (case z0 => k_is)
    (case z1 => k_is)
    (case z2 => k_is)
    (case z3 => k_is)
    (case z4 => k_is)
    (case z5 => k_is)
    (case z6 => k_is)
    (case sp => k_is)
    (case opq => k_is)
    (case ht => rfl)
    (case hn => k_is)
    (case htk => k_is)
    (case E0 =>
      refine' ⟨_, _, _, _, _, K1.cls_mk ?aC ?xL ?sa ?ga ?gg ?ac ?kC (K1.no1 ?n0) ?ini ?lk ?cd ?tf ?lc ?hv ?hf ?ll ?sup⟩
      (case aC => k_is)
      (case xL => k_is)
      (case sa => k_is)
      (case ga => k_is)
      (case gg => k_is)
      (case ac => k_is)
      (case kC => k_is)
      (case n0 => k_is)
      (case ini => k_is)
      (case lk => k_is)
      (case cd => k_is)
      (case tf => k_is)
      (case lc => k_is)
      (case hv => rfl)
      (case hf => decide +kernel)
      (case ll => k_is)
      (case sup => ks_is))
    (case E1 =>
      refine' ⟨_, _, _, _, _, K1.cls_mk ?aC ?xL ?sa ?ga ?gg ?ac ?kC (K1.no1 ?n0) ?ini ?lk ?cd ?tf ?lc ?hv ?hf ?ll ?sup⟩
      (case aC => k_is)
      (case xL => k_is)
      (case sa => k_is)
      (case ga => k_is)
      (case gg => k_is)
      (case ac => k_is)
      (case kC => k_is)
      (case n0 => k_is)
      (case ini => k_is)
      (case lk => k_is)
      (case cd => k_is)
      (case tf => k_is)
      (case lc => k_is)
      (case hv => rfl)
      (case hf => decide +kernel)
      (case ll => k_is)
      (case sup => ks_is))
    (case E2 =>
      refine' ⟨_, _, _, _, _, K1.cls_mk ?aC ?xL ?sa ?ga ?gg ?ac ?kC (K1.no1 ?n0) ?ini ?lk ?cd ?tf ?lc ?hv ?hf ?ll ?sup⟩
      (case aC => k_is)
      (case xL => k_is)
      (case sa => k_is)
      (case ga => k_is)
      (case gg => k_is)
      (case ac => k_is)
      (case kC => k_is)
      (case n0 => k_is)
      (case ini => k_is)
      (case lk => k_is)
      (case cd => k_is)
      (case tf => k_is)
      (case lc => k_is)
      (case hv => rfl)
      (case hf => decide +kernel)
      (case ll => k_is)
      (case sup => ks_is))
    (case E3 =>
      refine' ⟨_, _, _, _, _, K1.cls_mk ?aC ?xL ?sa ?ga ?gg ?ac ?kC (K1.no1 ?n0) ?ini ?lk ?cd ?tf ?lc ?hv ?hf ?ll ?sup⟩
      (case aC => k_is)
      (case xL => k_is)
      (case sa => k_is)
      (case ga => k_is)
      (case gg => k_is)
      (case ac => k_is)
      (case kC => k_is)
      (case n0 => k_is)
      (case ini => k_is)
      (case lk => k_is)
      (case cd => k_is)
      (case tf => k_is)
      (case lc => k_is)
      (case hv => rfl)
      (case hf => decide +kernel)
      (case ll => k_is)
      (case sup => ks_is))
    (case E4 =>
      refine' ⟨_, _, _, _, _, K1.cls_mk ?aC ?xL ?sa ?ga ?gg ?ac ?kC (K1.no1 ?n0) ?ini ?lk ?cd ?tf ?lc ?hv ?hf ?ll ?sup⟩
      (case aC => k_is)
      (case xL => k_is)
      (case sa => k_is)
      (case ga => k_is)
      (case gg => k_is)
      (case ac => k_is)
      (case kC => k_is)
      (case n0 => k_is)
      (case ini => k_is)
      (case lk => k_is)
      (case cd => k_is)
      (case tf => k_is)
      (case lc => k_is)
      (case hv => rfl)
      (case hf => decide +kernel)
      (case ll => k_is)
      (case sup => ks_is))
    (case E5 =>
      refine' ⟨_, _, _, _, _, K1.cls_mk ?aC ?xL ?sa ?ga ?gg ?ac ?kC (K1.no1 ?n0) ?ini ?lk ?cd ?tf ?lc ?hv ?hf ?ll ?sup⟩
      (case aC => k_is)
      (case xL => k_is)
      (case sa => k_is)
      (case ga => k_is)
      (case gg => k_is)
      (case ac => k_is)
      (case kC => k_is)
      (case n0 => k_is)
      (case ini => k_is)
      (case lk => k_is)
      (case cd => k_is)
      (case tf => k_is)
      (case lc => k_is)
      (case hv => rfl)
      (case hf => decide +kernel)
      (case ll => k_is)
      (case sup => ks_is))
    (case E6 =>
      refine' ⟨_, _, _, _, _, K1.cls_mk ?aC ?xL ?sa ?ga ?gg ?ac ?kC (K1.no1 ?n0) ?ini ?lk ?cd ?tf ?lc ?hv ?hf ?ll ?sup⟩
      (case aC => k_is)
      (case xL => k_is)
      (case sa => k_is)
      (case ga => k_is)
      (case gg => k_is)
      (case ac => k_is)
      (case kC => k_is)
      (case n0 => k_is)
      (case ini => k_is)
      (case lk => k_is)
      (case cd => k_is)
      (case tf => k_is)
      (case lc => k_is)
      (case hv => rfl)
      (case hf => decide +kernel)
      (case ll => k_is)
      (case sup => ks_is))
    (case E7 =>
      refine' ⟨_, _, _, _, _, K1.cls_mk ?aC ?xL ?sa ?ga ?gg ?ac ?kC (K1.no1 ?n0) ?ini ?lk ?cd ?tf ?lc ?hv ?hf ?ll ?sup⟩
      (case aC => k_is)
      (case xL => k_is)
      (case sa => k_is)
      (case ga => k_is)
      (case gg => k_is)
      (case ac => k_is)
      (case kC => k_is)
      (case n0 => k_is)
      (case ini => k_is)
      (case lk => k_is)
      (case cd => k_is)
      (case tf => k_is)
      (case lc => k_is)
      (case hv => rfl)
      (case hf => decide +kernel)
      (case ll => k_is)
      (case sup => ks_is))
    (case E8 =>
      refine' ⟨_, _, _, _, _, K1.cls_mk ?aC ?xL ?sa ?ga ?gg ?ac ?kC (K1.no1 ?n0) ?ini ?lk ?cd ?tf ?lc ?hv ?hf ?ll ?sup⟩
      (case aC => k_is)
      (case xL => k_is)
      (case sa => k_is)
      (case ga => k_is)
      (case gg => k_is)
      (case ac => k_is)
      (case kC => k_is)
      (case n0 => k_is)
      (case ini => k_is)
      (case lk => k_is)
      (case cd => k_is)
      (case tf => k_is)
      (case lc => k_is)
      (case hv => rfl)
      (case hf => decide +kernel)
      (case ll => k_is)
      (case sup => ks_is))
    (case E9 =>
      refine' ⟨_, _, _, _, _, K1.cls_mk ?aC ?xL ?sa ?ga ?gg ?ac ?kC (K1.no1 ?n0) ?ini ?lk ?cd ?tf ?lc ?hv ?hf ?ll ?sup⟩
      (case aC => k_is)
      (case xL => k_is)
      (case sa => k_is)
      (case ga => k_is)
      (case gg => k_is)
      (case ac => k_is)
      (case kC => k_is)
      (case n0 => k_is)
      (case ini => k_is)
      (case lk => k_is)
      (case cd => k_is)
      (case tf => k_is)
      (case lc => k_is)
      (case hv => rfl)
      (case hf => decide +kernel)
      (case ll => k_is)
      (case sup => ks_is))
    (case E10 =>
      refine' ⟨_, _, _, _, _, K1.cls_mk ?aC ?xL ?sa ?ga ?gg ?ac ?kC (K1.no1 ?n0) ?ini ?lk ?cd ?tf ?lc ?hv ?hf ?ll ?sup⟩
      (case aC => k_is)
      (case xL => k_is)
      (case sa => k_is)
      (case ga => k_is)
      (case gg => k_is)
      (case ac => k_is)
      (case kC => k_is)
      (case n0 => k_is)
      (case ini => k_is)
      (case lk => k_is)
      (case cd => k_is)
      (case tf => k_is)
      (case lc => k_is)
      (case hv => rfl)
      (case hf => decide +kernel)
      (case ll => k_is)
      (case sup => ks_is))
    (case E11 =>
      refine' ⟨_, _, _, _, _, K1.cls_mk ?aC ?xL ?sa ?ga ?gg ?ac ?kC (K1.no1 ?n0) ?ini ?lk ?cd ?tf ?lc ?hv ?hf ?ll ?sup⟩
      (case aC => k_is)
      (case xL => k_is)
      (case sa => k_is)
      (case ga => k_is)
      (case gg => k_is)
      (case ac => k_is)
      (case kC => k_is)
      (case n0 => k_is)
      (case ini => k_is)
      (case lk => k_is)
      (case cd => k_is)
      (case tf => k_is)
      (case lc => k_is)
      (case hv => rfl)
      (case hf => decide +kernel)
      (case ll => k_is)
      (case sup => ks_is))
    (case E12 =>
      refine' ⟨_, _, _, _, _, K1.cls_mk ?aC ?xL ?sa ?ga ?gg ?ac ?kC (K1.no1 ?n0) ?ini ?lk ?cd ?tf ?lc ?hv ?hf ?ll ?sup⟩
      (case aC => k_is)
      (case xL => k_is)
      (case sa => k_is)
      (case ga => k_is)
      (case gg => k_is)
      (case ac => k_is)
      (case kC => k_is)
      (case n0 => k_is)
      (case ini => k_is)
      (case lk => k_is)
      (case cd => k_is)
      (case tf => k_is)
      (case lc => k_is)
      (case hv => rfl)
      (case hf => decide +kernel)
      (case ll => k_is)
      (case sup => ks_is))
    (case E13 =>
      refine' ⟨_, _, _, _, _, K1.cls_mk ?aC ?xL ?sa ?ga ?gg ?ac ?kC (K1.no1 ?n0) ?ini ?lk ?cd ?tf ?lc ?hv ?hf ?ll ?sup⟩
      (case aC => k_is)
      (case xL => k_is)
      (case sa => k_is)
      (case ga => k_is)
      (case gg => k_is)
      (case ac => k_is)
      (case kC => k_is)
      (case n0 => k_is)
      (case ini => k_is)
      (case lk => k_is)
      (case cd => k_is)
      (case tf => k_is)
      (case lc => k_is)
      (case hv => rfl)
      (case hf => decide +kernel)
      (case ll => k_is)
      (case sup => ks_is))
    (case E14 =>
      refine' ⟨_, _, _, _, _, K1.cls_mk ?aC ?xL ?sa ?ga ?gg ?ac ?kC (K1.no2 ?n0 ?n1) ?ini ?lk ?cd ?tf ?lc ?hv ?hf ?ll ?sup⟩
      (case aC => k_is)
      (case xL => k_is)
      (case sa => k_is)
      (case ga => k_is)
      (case gg => k_is)
      (case ac => k_is)
      (case kC => k_is)
      (case n0 => k_is)
      (case n1 => k_is)
      (case ini => k_is)
      (case lk => k_is)
      (case cd => k_is)
      (case tf => k_is)
      (case lc => k_is)
      (case hv => rfl)
      (case hf => decide +kernel)
      (case ll => k_is)
      (case sup => ks_is))
    (case E15 =>
      refine' ⟨_, _, _, _, _, K1.cls_mk ?aC ?xL ?sa ?ga ?gg ?ac ?kC (K1.no2 ?n0 ?n1) ?ini ?lk ?cd ?tf ?lc ?hv ?hf ?ll ?sup⟩
      (case aC => k_is)
      (case xL => k_is)
      (case sa => k_is)
      (case ga => k_is)
      (case gg => k_is)
      (case ac => k_is)
      (case kC => k_is)
      (case n0 => k_is)
      (case n1 => k_is)
      (case ini => k_is)
      (case lk => k_is)
      (case cd => k_is)
      (case tf => k_is)
      (case lc => k_is)
      (case hv => rfl)
      (case hf => decide +kernel)
      (case ll => k_is)
      (case sup => ks_is))
    (case E16 =>
      refine' ⟨_, _, _, _, _, K1.cls_mk ?aC ?xL ?sa ?ga ?gg ?ac ?kC (K1.no3 ?n0 ?n1 ?n2) ?ini ?lk ?cd ?tf ?lc ?hv ?hf ?ll ?sup⟩
      (case aC => k_is)
      (case xL => k_is)
      (case sa => k_is)
      (case ga => k_is)
      (case gg => k_is)
      (case ac => k_is)
      (case kC => k_is)
      (case n0 => k_is)
      (case n1 => k_is)
      (case n2 => k_is)
      (case ini => k_is)
      (case lk => k_is)
      (case cd => k_is)
      (case tf => k_is)
      (case lc => k_is)
      (case hv => rfl)
      (case hf => decide +kernel)
      (case ll => k_is)
      (case sup => ks_is))
#print axioms PySem.Challenge.cw_rerunrein_k01_errors_made_holds
