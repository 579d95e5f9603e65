import PyProof.Rows.All
import Wide.All
import OpenK.AllK
import Wide.FinOn
import KE.KExcSuper
import KE.KExcIs
import PyProof.ReprRoads
import HandS.ForMost
import HandS.ForExc
import HandS.ExcInit
import HandS.IsInst
import HandS.Defaults
import HandS.MakeKwOnly
import HandS.Codes
import HandS.StrMore
import HandS.Walk
import HandS.More
import HandS.ExcField
import HandS.RaiseMore
import PyProof.StrBlock2
import HandS.Dict
import HandS.FStrTup
import PyProof.StrLawsRepr
import HandS.Text
import HandS.Style
import HandS.Wide
import HandS.DictComp
import HandS.Sort
import HandS.TupLe
import HandS.Flow
import HandS.FStr
import HandS.Deep
import PySem.Challenge.RW_rerunrein_k13_blocks_that_do_not_fit
set_option Elab.async false
set_option linter.all false
set_option maxRecDepth 100000
set_option maxHeartbeats 4000000
/-! Exceptions whose __init__ begins with super().__init__(), walked as defs -/
namespace Rx
open PySem PySem.Spec PyProof.Rows L2

section
variable {prog : Program} {w : World} {A : Around} {E : Value → Shared → Prop} {h : Heap} {g : Array GenState} {d : Drawn} {t : Nat} {os : OsState}
variable {nm q : Str} {C N : Addr} {bs bm : List Value} {hdct : Bool} {sn : List Str} {sub : List Value} {ab : Bool} {col : Option Bool} {dd : Option Addr} {k0 k1 k2 k3 k5 : Option Value}
/-- the built-in __init__, bound to an exception, called -/
theorem call_bwV {wr ex tt : Addr} {ar : List Value} {Q : Value → Shared → Prop}
    (hK : h.get? C = some (excClassObj nm q C N bs bm hdct sn sub ab col dd k0 k1 k2 k3 k5 "ValueError.__new__")) (hex : h.get? ex = some (HandSPX.excO C tt))
    (hw : h.get? wr = some (PySem.W.kxs_mw "ValueError.__init__" ex)) (hlen : ar.length ≤ sizeLine)
    (hz : ∀ h' t1, (∀ b o, b ≠ ex → h.get? b = some o → h'.get? b = some o) → h'.get? ex = some (HandSPX.excO C t1) → Q .none ⟨h', g, d, t, os⟩) :
    wpAny (model prog w) A (call (.ref wr) ar) Q E ⟨h, g, d, t, os⟩ := by
  refine wpAny_call (codeAny_of_tree ?_)
  show wpAny _ A.in1 (callAny (.ref wr) ⟨ar, []⟩) _ _ _
  simp only [callAny]
  refine wpAny_bind (wpAny_load hw ?_)
  simp only [PySem.W.kxs_mw, show (Value.type "method-wrapper" == Value.type "method" || Value.type "method-wrapper" == Value.type "builtin_function_or_method" || Value.type "method-wrapper" == Value.type "method-wrapper") = true by decide, if_true]
  refine W.KFB.if_so (by decide) ?_
  refine wpAny_bind (PySem.W.check_bound_init F.excBase_ValueError.toExcCallFacts hK hex rfl ?_)
  refine wpAny_bind (wpAny_pure (wpAny_pure ?_))
  refine ⟨Code.quiet_builtin _ (by decide +kernel), codeAny_builtin F.excBase_ValueError.initEntry ?_⟩
  rw [Around.under_plainId F.excBase_ValueError.init.plain _]
  wp_walk
  refine hz _ h.objs.size (fun b o hb ho => ?_) ?_
  · rw [Heap.get?_update_other _ _ (Ne.symm hb)]
    exact Heap.get?_push_of_some _ ho
  · rw [Heap.get?_update_self _ (Heap.get?_push_of_some _ hex) rfl]
    rfl
end

/-- the names of such a def: parameters local, one free name, __class__ -/
structure ScopeS (N ps : List Str) (sc : Scope) : Prop where
  kind : sc.kind = .function
  co : sc.isCoroutine = false
  gen : sc.isGenerator = false
  nd : N.Nodup
  pre : N.take ps.length = ps
  par : ∀ x ∈ ps, sc.names.lookup x = some .local
  nocell : ∀ y ∈ sc.names, y.2 ≠ .cell
  free1 : ∀ y ∈ sc.names, y.2 = .free → y.1 = "__class__"
  ks : sc.names.lookup ("super" : Str) = some .globalImplicit
  kc : sc.names.lookup ("__class__" : Str) = some .free

theorem lookup_mem {l : List (Str × Value)} : ∀ {y : Str} {u : Value}, (l.map (·.1)).Nodup → (y, u) ∈ l → l.lookup y = some u := by
  induction l with
  | nil => intro y u _ h; cases h
  | cons p l ih =>
    obtain ⟨a, b⟩ := p
    intro y u nd hm
    rw [List.map_cons, List.nodup_cons] at nd
    rcases List.mem_cons.mp hm with e | hm
    · cases e
      simp [List.lookup]
    · have hne : y ≠ a := fun e => nd.1 (List.mem_map.mpr ⟨(y, u), hm, e⟩)
      have hb : (y == a) = false := by simpa using hne
      simp [List.lookup, hb, ih nd.2 hm]
theorem lookup_rev {l : List (Str × Value)} {y : Str} {u : Value} (nd : (l.map (·.1)).Nodup) (hm : (y, u) ∈ l) : l.reverse.lookup y = some u :=
  lookup_mem (by rw [List.map_reverse]; exact (List.pairwise_reverse.mpr (List.Pairwise.imp (fun h => h.symm) nd))) (List.mem_reverse.mpr hm)
theorem zip_mem {ps : List Str} {us : List Value} {i : Nat} {y : Str} {u : Value} (h1 : ps[i]? = some y) (h2 : us[i]? = some u) : (y, u) ∈ ps.zip us := by
  have : (ps.zip us)[i]? = some (y, u) := by
    rw [List.getElem?_zip_eq_some]
    exact ⟨h1, h2⟩
  exact List.mem_of_getElem? this
theorem zip_nd : ∀ {ps : List Str} {us : List Value}, ps.Nodup → ((ps.zip us).map (·.1)).Nodup
  | [], _, _ => by simp
  | _ :: _, [], _ => by simp
  | a :: ps, b :: us, h => by
    rw [List.nodup_cons] at h
    rw [List.zip_cons_cons, List.map_cons, List.nodup_cons]
    refine ⟨fun q => h.1 ?_, zip_nd h.2⟩
    obtain ⟨⟨c, e⟩, hm, rfl⟩ := List.mem_map.mp q
    exact (List.of_mem_zip hm).1

/-- the context of such a body -/
def cxS (CX : CXT) (P : Program) (w : World) (K : PySem.W.Frag) (mg : Str → Option Value) (base : Heap) (N : List Str) (qual : Str) (scope : Scope) (f : Addr) (cd : Value) (cc : Addr) (A : Around) (outer : List Env) (s : Shared) (H : Hp) (E : XK) : Cx where
  prog := P
  w := w
  K := K
  mg := mg
  base := base
  A := A.deeper (PySem.W.ksEnv qual scope s.heap.objs.size f cd cc)
  N := N
  s_0 := s
  H_0 := H
  env := PySem.W.ksEnv qual scope s.heap.objs.size f cd cc
  outer := outer
  stack := PySem.W.ksEnv qual scope s.heap.objs.size f cd cc :: outer
  ex := []
  calm := true
  fn := fun _ => false
  pn := []
  xe := fun e s' => wpAny (model P w) (A.deeper (PySem.W.ksEnv qual scope s.heap.objs.size f cd cc)) (leaving (PySem.W.ksEnv qual scope s.heap.objs.size f cd cc) e) (fun _ s'' => CX outer H s E e s'') (fun e' s'' => CX outer H s E e' s'') s'

theorem inv_startS {CX : CXT} {P : Program} {w : World} {K : PySem.W.Frag} {mg : Str → Option Value} {base : Heap} {N ps : List Str} {qual : Str} {scope : Scope} {f : Addr} {cd : Value} {cc : Addr} {A : Around} {outer : List Env} {s : Shared} {H : Hp} {E : XK} {us : List Value} {vs : List V} {h1 : Heap} {tk : Nat} {D : Value} {cl : Value} {cld : Option Addr} {csl : Array (Option Value)}
    (S : ScopeS N ps scope) (hd : A.handled = none) (e0 : Env0 P w K mg base A outer s H) (hl : vs.length = ps.length) (r : Vals vs us) (hcell : K.lookup cc = some ⟨cl, cld, .cell (some D), csl⟩)
    (hns : h1.Ns s.heap.objs.size (fun nm => (ps.zip us).reverse.lookup nm)) (hk : ∀ b o, s.heap.get? b = some o → h1.get? b = some o) :
    Inv (cxS CX P w K mg base N qual scope f cd cc A outer s H E) [] (L2.start N vs) H { s with heap := h1, toks := tk } := by
  have hle : ps.length ≤ N.length := by have := congrArg List.length S.pre; rw [List.length_take] at this; omega
  have noX : ∀ b : Addr, b ∉ (cxS CX P w K mg base N qual scope f cd cc A outer s H E).ex := fun b z => absurd (show b ∈ ([] : List Addr) from z) (by simp)
  have hcb : base.get? cc = some ⟨cl, cld, .cell (some D), csl⟩ := e0.mod.kin _ _ hcell
  have one : ∀ {nm : Str} {c : Addr}, (cxS CX P w K mg base N qual scope f cd cc A outer s H E).env.cells.lookup nm = some c → nm = "__class__" ∧ c = cc := fun {nm c} q => by
    have q' : ([(("__class__" : Str), cc)] : List (Str × Addr)).lookup nm = some c := q
    rw [List.lookup] at q'
    split at q'
    · rename_i hnm
      cases q'
      exact ⟨by simpa using hnm, rfl⟩
    · cases q'
  refine ⟨⟨e0.mod, S.kind, rfl, rfl, Nat.le_refl _, fun nm z c h1 h2 => ?_, fun nm hnm => ?_, fun nm c z _ => absurd (show false = true from z) (by decide), fun _ => hd, Around.frames_deeper e0.frames, .inr ⟨rfl, rfl⟩, fun b z => absurd z (noX b), e0.bs, e0.bsz, fun b _ _ => noX b, fun b z => absurd z (noX b), e0.funs, e0.frf⟩,
    rfl, e0.bare, Un.kept hk, ⟨_, hns, fun i nm vv h1 h2 h3 => ?_⟩, fun nm c h => ?_, e0.hok.fresh (Nat.le_refl _), fun nm c h => ?_, fun p hpar => absurd (show p ∈ ([] : List (Addr × Obj)) from hpar) (by simp), e0.hok.kept hk, ?_⟩
  · rw [(one h1).1, (one h2).1]
  · have hnm : scope.names.lookup nm = some .cell ∨ scope.names.lookup nm = some .free := hnm
    rcases hnm with hnm | hnm
    · exact absurd rfl (S.nocell _ (PySem.mem_of_lookup hnm))
    · have e := S.free1 _ (PySem.mem_of_lookup hnm) rfl
      have e' : nm = "__class__" := e
      subst e'
      exact ⟨cc, rfl⟩
  · have hlt : i < vs.length := by
      unfold L2.start at h2
      by_cases hlt : i < vs.length
      · exact hlt
      · rw [List.getElem?_append_right (by simpa using hlt)] at h2
        rw [List.getElem?_replicate] at h2
        split at h2 <;> cases h2
    have hval : vs[i]? = some vv := by
      unfold L2.start at h2
      rw [List.getElem?_append_left (by simpa using hlt), List.getElem?_map] at h2
      cases e : vs[i]? with
      | none => rw [e] at h2; cases h2
      | some a => rw [e] at h2; cases h2; rfl
    obtain ⟨u, hus, rel⟩ := r.get hval
    have hpar : ps[i]? = some nm := by
      rw [← S.pre, List.getElem?_take_of_lt (by omega)]; exact h1
    have ndq : ps.Nodup := by rw [← S.pre]; exact S.nd.sublist (List.take_sublist _ _)
    exact ⟨u, rel, .inl ⟨S.par nm (List.mem_of_getElem? hpar), lookup_rev (zip_nd ndq) (zip_mem hpar hus)⟩⟩
  · obtain ⟨_, e⟩ := one h
    subst e
    exact ⟨_, _, hk _ _ (e0.bs _ _ hcb).1, rfl⟩
  · obtain ⟨_, e⟩ := one h
    subst e
    exact (e0.bs _ _ hcb).2
  · unfold L2.start
    show _ = N.length
    rw [List.length_append, List.length_map, List.length_replicate]
    omega

/-- what the written part says of the class and of its __init__ -/
structure SupC (P : Program) (K : PySem.W.Frag) (C cda cc : Addr) : Prop where
  oex : OexC K C
  code : ∃ (ccl : Value) (cdd : Option Addr) (vs : Array Value) (ccs : Array (Option Value)) (file : Str) (tf : Tok), K.lookup cda = some ⟨ccl, cdd, .fields vs, ccs⟩ ∧ vs[2]? = some (.str file tf) ∧ ((P.main.file : Str) == file) = true
  cell : ∃ (cl : Value) (cld : Option Addr) (csl : Array (Option Value)), K.lookup cc = some ⟨cl, cld, .cell (some (.ref C)), csl⟩
  sub : PySem.W.mroIn K C (.ref C) = some true
  sup : PySem.W.nsIn K mainGlobals "super" = some none
  opq : PySem.W.nsIn K cStatics "thirdparty.any" = some none
  ini : PySem.W.ks_superIn K C C "__init__" = some (some (.builtin "ValueError.__init__"))
  subB : PySem.W.subIn K (.ref C) (.type "ValueError") = some true
  htop : (P.main.scope.names.lookup ("super" : Str)).isSome = false

theorem fn_super {CX : CXT} {P : Program} {w : World} {K : PySem.W.Frag} {mg : Str → Option Value} {base : Heap} {k : Nat} {f C cda cc : Addr} {name qual : Str} {params : Arguments} {rest : List Stmt} {scope : Scope} {kV doc pm ct oc : Value} {an od : Option Addr}
    {osl : Array (Option Value)} {N ps : List Str} {sp : Sp} {p0 p1 p2 p3 p4 : Pos} {ar : Arg}
    (lk : K.lookup f = some ⟨oc, od, .func (PySem.W.ksFn name qual params (.Expr (.Call (.Attribute (.Call (.Name "super" p0) [] [] p1) "__init__" p2) [] [] p3) p4 :: rest) scope .none kV doc pm an (.ref cda) ct cc), osl⟩)
    (hcd : PySem.W.codeIn K (.ref cda) qual = true) (S : ScopeS N ps scope) (T : SupC P K C cda cc)
    (hp : (params.posonlyargs ++ params.args).head? = some ar) (hps : ps[0]? = some ar.arg)
    (len : ∀ vs H Q E, sp vs H Q E → vs.length = ps.length)
    (slf : ∀ vs H Q E, sp vs H Q E → ∃ a ws, vs = .ref a :: ws ∧ H a = some (exo a C none))
    (hbody : ∀ (A : Around) (outer : List Env) (s : Shared) (H : Hp) (vs : List V) (Q : VK) (E : XK), Room k (A.deeper (PySem.W.ksEnv qual scope s.heap.objs.size f (.ref cda) cc)) → sp vs H Q E →
      ∃ t, PSs (cxS CX P w K mg base N qual scope f (.ref cda) cc A outer s H E) rest t ∧ t { nx := fun _ H' => Q .non H', rt := Q } (L2.start N vs) H)
    (hi : ∀ L, interactive (PySem.W.ksEnv qual scope L f (.ref cda) cc) = false := by intro _; rfl)
    (hsw : ∀ L, swapsWith (.Call (.Attribute (.Call (.Name "super" p0) [] [] p1) "__init__" p2) [] [] p3) none p4.line (PySem.W.ksEnv qual scope L f (.ref cda) cc) = pure false := by intro _; rfl)
    (he : ∀ L, ∃ pl : Sem Bool, eval (.Call (.Attribute (.Call (.Name "super" p0) [] [] p1) "__init__" p2) [] [] p3) (PySem.W.ksEnv qual scope L f (.ref cda) cc) = (do
      let ov ← attributeBase (.Call (.Name "super" p0) [] [] p1) "__init__" (PySem.W.ksEnv qual scope L f (.ref cda) cc) (eval (.Call (.Name "super" p0) [] [] p1) (PySem.W.ksEnv qual scope L f (.ref cda) cc))
      standAt p2.atName
      let (fx, first) ← holding [ov] (getMethod ov "__init__" pl)
      callWith p3 fx first (backTo p3 (starEach [] (PySem.W.ksEnv qual scope L f (.ref cda) cc))) []) := by intro _; exact ⟨_, rfl⟩) :
    FnOk P w K mg base CX (k + 1) f (PySem.W.ksFn name qual params (.Expr (.Call (.Attribute (.Call (.Name "super" p0) [] [] p1) "__init__" p2) [] [] p3) p4 :: rest) scope .none kV doc pm an (.ref cda) ct cc) ps sp := by
  refine ⟨len, fun A outer s H args us vs Q E hr e0 hb r hsp => ?_⟩
  have hln := len _ _ _ _ hsp
  have KI : K.In s.heap := e0.mod.kin.keeps fun b o e => (e0.bs b o e).1
  have nolim : s.heap.NoLimit := e0.mod.nolimit.keeps fun b o e => (e0.bs b o e).1
  have hloc : ∀ y ∈ ps.zip us, scope.names.lookup y.1 = some .local := fun ⟨n, v⟩ hy => S.par n (List.of_mem_zip hy).1
  obtain ⟨cl, cld, csl, hcell⟩ := T.cell
  obtain ⟨ccl, cdd, cvs, ccs, file, tf, hcode, hvs, hfile⟩ := T.code
  obtain ⟨a, ws, rfl, ha⟩ := slf _ _ _ _ hsp
  obtain ⟨t, ht, hq⟩ := hbody A outer s H _ Q E (hr.deeper _) hsp
  refine ks_codeAny_call_defAt (fd := PySem.W.ksFn name qual params (.Expr (.Call (.Attribute (.Call (.Name "super" p0) [] [] p1) "__init__" p2) [] [] p3) p4 :: rest) scope .none kV doc pm an (.ref cda) ct cc) (binds := ps.zip us) hr.depth (KI _ _ lk) rfl nolim (PySem.W.codeRec_of KI hcd) rfl hb S.nocell hloc (fun h1 hns hk => ?_) S.co S.gen S.kind
  have I : Inv (cxS CX P w K mg base N qual scope f (.ref cda) cc A outer s H E) [] (L2.start N (.ref a :: ws)) H { s with heap := h1, toks := s.toks + (ps.zip us).length } := inv_startS (us := us) S hr.hd e0 hln r hcell hns hk
  have X1 : K.In h1 := I.kIn
  obtain ⟨nm, q, NN, bs, bm, sn, sub, ab, col, dd, k0, k1, k2, k3, k5, hC, hbm⟩ := T.oex.cls
  obtain ⟨t1, ho⟩ := exo_at I.hok ha
  obtain ⟨u0, hu0, ru0⟩ := r.get (i := 0) (x := .ref a) rfl
  cases (show u0 = Value.ref a from ru0)
  have hself : (ps.zip us).reverse.lookup ar.arg = some (Value.ref a) := lookup_rev (zip_nd (by rw [← S.pre]; exact S.nd.sublist (List.take_sublist _ _))) (zip_mem hps hu0)
  have hka : scope.names.lookup ar.arg = some .local := S.par _ (List.mem_of_getElem? hps)
  have hcl : PySem.W.clsIn K C = some { name := nm, bases := bs, mro := .ref C :: bm, ns := NN, qualname := q, hasDict := true, slotNames := sn, subclasses := sub, abstract := ab, collection := col, hasDel := false } := by unfold PySem.W.clsIn; rw [hC] <;> rfl
  have hmg : mg "super" = none := PySem.W.mg_none_of e0.mod.kin e0.mod.glob T.sup
  obtain ⟨mb, hbl, hbb⟩ := e0.mod.blt
  show PySem.wpAt (model P w) (A.deeper (PySem.W.ksEnv qual scope s.heap.objs.size f (.ref cda) cc)) (.func _ (PySem.W.ksEnv qual scope s.heap.objs.size f (.ref cda) cc)) (execs _ (PySem.W.ksEnv qual scope s.heap.objs.size f (.ref cda) cc)) _ _ _
  obtain ⟨pl, he⟩ := he s.heap.objs.size
  refine ks_wpAt_execs_cons (ks_wpAt_Expr_any (ks_wpAt_MethodCall (pl := pl) ?_ he) (hi _) (hsw _))
  refine ks_wpAt_super_base (env := PySem.W.ksEnv qual scope s.heap.objs.size f (.ref cda) cc) S.ks S.kc (by decide) rfl (X1 _ _ lk) rfl hp rfl (X1 _ _ hcode) rfl hvs hfile T.htop ?_
  refine PySem.W.ks_loadName_global S.kind S.ks (PySem.Calls.loadGlobal_builtin (env := PySem.W.ksEnv qual scope s.heap.objs.size f (.ref cda) cc) (e0.mod.glob.keeps I.bk) hmg (hbl.keeps I.bk) ((hbb _ (by decide +kernel)).trans (by first | boot_by_name | rfl | kernel_rfl)) ⟨rfl, ?_⟩)
  refine wpAny_loadName_free S.kind S.kc rfl ⟨_, X1 _ _ hcell, rfl⟩ ?_
  refine wpAny_loadName_local S.kind hka hns hself ?_
  refine ks_wpAny_isType_cls (X1 _ _ hC) rfl ⟨rfl, ?_⟩
  refine ks_wpAny_call_super (X1 _ _ hC) rfl ho rfl (fun c => nofun) (PySem.W.looks_mroIn X1 T.sub) (fun h2 e2 kk2 => ?_)
  have I2 : Inv (cxS CX P w K mg base N qual scope f (.ref cda) cc A outer s H E) [] (L2.start N (.ref a :: ws)) H { s with heap := h2, toks := s.toks + (ps.zip us).length } := I.kept kk2
  have hsup := T.ini
  unfold PySem.W.ks_superIn at hsup
  rw [hcl] at hsup
  have ne : a ≠ C := fun z => by
    rw [z, X1 _ _ hC] at ho
    cases ho
  have JI : PySem.W.InstAt h2 a { cls := .ref C, data := .fields #[.ref t1, .none, .none, .none, .bool false, .none] } C none := ⟨kk2 _ _ ho, rfl, rfl, trivial⟩
  have hI : PySem.W.Looks (model P w) h2 (isInstance (.ref a) (.type "ValueError")) true := JI.type.andThen (PySem.W.looks_subIn I2.kIn T.subB)
  refine PySem.W.kxs_getMethod PySem.W.kxs_ValueError e2 (PySem.W.looks_opaque I2.kIn T.opq) (l₀ := .ref C :: bm) (fun A Q E s k q => wpAny_bind ((PySem.W.looks_clsIn I2.kIn hcl) A _ E s k (wpAny_pure q))) rfl I2.kIn hsup hI ne (by decide) ?_
  have kk3 : ∀ b o, h2.get? b = some o → (h2.push (PySem.W.kxs_mw "ValueError.__init__" a)).get? b = some o := fun b o e => Heap.get?_push_of_some _ e
  have I3 : Inv (cxS CX P w K mg base N qual scope f (.ref cda) cc A outer s H E) [] (L2.start N (.ref a :: ws)) H { s with heap := h2.push (PySem.W.kxs_mw "ValueError.__init__" a), toks := s.toks + (ps.zip us).length + 1 } := I2.kept (t' := s.toks + (ps.zip us).length + 1) kk3
  have hmw : (h2.push (PySem.W.kxs_mw "ValueError.__init__" a)).get? h2.objs.size = some (PySem.W.kxs_mw "ValueError.__init__" a) := Heap.get?_push_size _ rfl
  refine PySem.W.kxs_callWith (i := "ValueError.__init__") (x := a) rfl (evalArgs_empty ⟨hmw, ?_⟩)
  refine call_bwV (I3.kIn _ _ hC) (kk3 _ _ (kk2 _ _ ho)) hmw (Nat.zero_le _) fun h4 t4 k4 e4 => ?_
  have J := I3.write (t' := s.toks + (ps.zip us).length + 1) (x := a) (e := a) (o := exo a C none) (by rw [ha]; exact True.intro) (.inl rfl) k4 ⟨_, e4⟩ (exo_ok e4)
  have back : upd H a (exo a C none) = H := by
    funext b
    by_cases hb : b = a
    · rw [hb, upd_same, ha]
    · rw [upd_ne hb]
  rw [back] at J
  refine wpAt_of_wpAny (wpAny_mono (ht.run [] _ (L2.start N (.ref a :: ws)) H _ J hq) (fun fl s' hs => ?_) fun e s' hs => hs)
  have done : ∀ {σ' : L2.St} {H' : Hp} {v : V} {u : Value}, Inv (cxS CX P w K mg base N qual scope f (.ref cda) cc A outer s H E) [] σ' H' s' → RelV v u → Q v H' → CE outer P w H s Q u s' :=
    fun {σ' H' v u} J rel q => ⟨v, H', J.os, J.bare, J.base, J.hok, rel, q⟩
  cases fl with
  | ret u =>
    obtain ⟨v, σ', H', J, rel, q⟩ := hs
    exact done J rel q
  | next =>
    obtain ⟨σ', H', J, q⟩ := hs
    exact done (v := V.non) (u := Value.none) J rfl q
  | brk =>
    obtain ⟨_, _, _, q⟩ := hs
    exact False.elim q
  | cont =>
    obtain ⟨_, _, _, q⟩ := hs
    exact False.elim q
end Rx

set_option Elab.async false
set_option linter.all false
set_option maxRecDepth 100000
set_option maxHeartbeats 4000000
namespace Rx
open PySem PySem.Spec PyProof.Rows L2
/-! ### C(..) of an exception class, with keywords -/
section
open Builtin Builtin.ObjectAttr HandSPX
variable {prog : Program} {w : World} {M : Model} {A : Around} {E : Value → Shared → Prop} {R : Result → Shared → Prop} {h : Heap} {g : Array GenState} {d : Drawn} {t : Nat} {os : OsState}
variable {nn q : Str} {C N : Addr} {bs bms bX : List Value} {hdc : Bool} {ss : List Str} {sb : List Value} {abs : Bool} {cl : Option Bool} {dv : Option Addr} {q0 q1 q2 q3 q5 : Option Value} {B nI iI : String} {kw : List (Str × Value)}
theorem check_new_ownK (FB : ExcBaseFacts B nI iI bX) (hIn : ∀ X : String, bms.contains (.type X) = bX.contains (.type X)) {ar : List Value} {Q : Unit → Shared → Prop}
    (hK : h.get? C = some (excClassObj nn q C N bs bms hdc ss sb abs cl dv q0 q1 q2 q3 q5 nI)) (hz : Q () ⟨h, g, d, t, os⟩) : wpAny M A (checkBuiltinCall nI ⟨.ref C :: ar, kw⟩) Q E ⟨h, g, d, t, os⟩ := by
  have hhas : (Value.ref C :: bms).contains (.type B) = true := by rw [List.contains_cons, hIn, FB.hasB, Bool.or_true]
  have hst := FB.noStar
  simp only [checkBuiltinCall, FB.newKind, FB.newSplit, FB.newRow]
  repeat (first | refine wpAny_loadPart_at hK ?_ | (refine wpAny_isSubtype_exc hK ?_; rw [hhas]) | refine wpAny_staticBase_exc hK ?_ | refine wpAny_madeBy_exc hK ?_ | simp only [bne_self_eq_false, Bool.false_eq_true, if_false] | wp_step)
  exact hz
theorem new_ownK (FB : ExcBaseFacts B nI iI bX) (hIn : ∀ X : String, bms.contains (.type X) = bX.contains (.type X)) {ar : List Value}
    (hK : h.get? C = some (excClassObj nn q C N bs bms hdc ss sb abs cl dv q0 q1 q2 q3 q5 nI))
    (hz : R (.ok (.ret (.ref (h.objs.size + 1)))) ⟨(h.push { cls := .type "tuple", data := .seq ar.toArray }).push
      { cls := .ref C, data := .fields #[.ref h.objs.size, .none, .none, .none, .bool false, .none] }, g, d, t, os⟩) (hlen : ar.length ≤ sizeLine) :
    codeAny (model prog w) A (.builtin nI ⟨.ref C :: ar, kw⟩) R ⟨h, g, d, t, os⟩ := by
  have hen := FB.ends
  have hB1 : (Value.ref C :: bms).contains (.type B) = true := by rw [List.contains_cons, hIn, FB.hasB, Bool.or_true]
  have hA1 : (Value.ref C :: bms).contains (.type "AttributeError") = false := by rw [List.contains_cons, hIn, FB.noAttr]; rfl
  have hN1 : (Value.ref C :: bms).contains (.type "NameError") = false := by rw [List.contains_cons, hIn, FB.noName]; rfl
  refine codeAny_builtinAt FB.entry ?_
  unfold Builtin.«BaseException.__new__»
  refine PySem.wpAt_bind ?_
  show PySem.wpAt _ _ _ (stack >>= _) _ _ _
  refine PySem.wpAt_bind (PySem.wpAt_stack fun p below => PySem.wpAt_of_wpAny ?_)
  wp_walk
  refine PySem.wpAt_of_wpAny ?_
  rw [FB.owner]
  repeat (first | with_reducible refine wpAny_madeHere_exc FB.canon hK ?_ | with_reducible refine wpAny_loadPart_at hK ?_ | (with_reducible refine wpAny_isSubtype_exc hK ?_; first | rw [hB1] | rw [hA1] | rw [hN1]) | wp_step)
  show R _ _
  rw [Heap.size_push]
  exact hz
theorem type_call_ownK (FB : ExcBaseFacts B nI iI bX) (hIn : ∀ X : String, bms.contains (.type X) = bX.contains (.type X)) {ar : List Value} {fN : Addr} {Q : Fin → Shared → Prop}
    (hK : h.get? C = some (excClassObj nn q C N bs bms hdc ss sb abs cl dv q0 q1 q2 q3 q5 nI))
    (hlook : W.Looks (model prog w) h (typeLookup (.ref C) "__init__") (some (.ref fN))) (hbnd : ∀ self, W.Looks (model prog w) h (bindSpecial (.ref fN) self) (.ref fN, [self])) (hlen : ar.length ≤ sizeLine)
    (hz : codeAny (model prog w) A (.call (.ref fN) ⟨.ref (h.objs.size + 1) :: ar, kw⟩)
      (fun r s' => match r with | .ok (.ret v) => v = .none ∧ Q (.done (.ret (.ref (h.objs.size + 1)))) s' | .ok _ => False | .error e => E e s')
      ⟨(h.push (W.kdv_tup ar)).push (excO C h.objs.size), g, d, t, os⟩) :
    wpAny (model prog w) A (Builtin.«type.__call__» ⟨.ref C :: ar, kw⟩) Q E ⟨h, g, d, t, os⟩ := by
  repeat (first | with_reducible refine wpAny_loadPart_at hK ?_ | with_reducible refine wpAny_madeBy_exc hK ?_ | wp_step)
  refine codeAny_call_builtin_code (Code.quiet_builtin _ FB.quiet) (check_new_ownK FB hIn hK ?_)
  refine new_ownK FB hIn hK ?_ hlen
  show wpAny _ _ _ _ _ _
  have k : ∀ b o, h.get? b = some o → ((h.push (W.kdv_tup ar)).push (excO C h.objs.size)).get? b = some o := fun b o e => Heap.get?_push_of_some _ (Heap.get?_push_of_some _ e)
  have hK1 := k _ _ hK
  have hgot : ((h.push (W.kdv_tup ar)).push (excO C h.objs.size)).get? (h.objs.size + 1) = some (excO C h.objs.size) := by heap_get
  have hC1 : (Value.ref C :: bms).contains (.ref C) = true := by simp
  have li := hlook.keeps k
  have lb := (hbnd (.ref (h.objs.size + 1))).keeps k
  unfold isInstance
  repeat (first | with_reducible refine wpAny_loadPart_at hgot ?_ | (with_reducible refine wpAny_isSubtype_exc hK1 ?_; rw [hC1]) | wp_step)
  show wpAny _ _ (typeLookup (.ref C) _) _ _ _
  refine li.at ?_
  refine wpAny_holding (wpAny_bind (lb.at ?_))
  refine wpAny_bind (wpAny_call (codeAny_mono hz fun r s' z => ?_))
  rcases r with e | (v | _ | _ | _) <;> first | exact z | exact z.elim | skip
  obtain ⟨rfl, z⟩ := z
  first
    | exact wpAny_pure (wpAny_pure z)
    | (wp_walk; exact z)
theorem check_type_callK {ar : List Value} {Q : Unit → Shared → Prop} (hK : h.get? C = some (excClassObj nn q C N bs bms hdc ss sb abs cl dv q0 q1 q2 q3 q5 nI))
    (hz : Q () ⟨h, g, d, t, os⟩) : wpAny M A (checkBuiltinCall "type.__call__" ⟨.ref C :: ar, kw⟩) Q E ⟨h, g, d, t, os⟩ := by
  have t3 := tc_sub
  have hIn : (⟨h, g, d, t, os⟩ : Shared).TypeIs (.ref C) "type" := ⟨_, hK, rfl⟩
  simp only [checkBuiltinCall, tc_kind, tc_split]
  repeat (any_goals (first | assumption | with_reducible refine wpAny_loadPart_at hK ?_ | with_reducible refine wpAny_onRaise ?_ | with_reducible refine wpAny_map ?_ | wp_step))
theorem call_ownK (FB : ExcBaseFacts B nI iI bX) (hIn : ∀ X : String, bms.contains (.type X) = bX.contains (.type X)) {ar : List Value} {fN : Addr}
    (hK : h.get? C = some (excClassObj nn q C N bs bms hdc ss sb abs cl dv q0 q1 q2 q3 q5 nI))
    (hlook : W.Looks (model prog w) h (typeLookup (.ref C) "__init__") (some (.ref fN))) (hbnd : ∀ self, W.Looks (model prog w) h (bindSpecial (.ref fN) self) (.ref fN, [self])) (hlen : ar.length ≤ sizeLine)
    (hz : codeAny (model prog w) (A.under (.builtin "type.__call__" ⟨.ref C :: ar, kw⟩)) (.call (.ref fN) ⟨.ref (h.objs.size + 1) :: ar, kw⟩) (W.InitBack (h.objs.size + 1) R)
      ⟨(h.push (W.kdv_tup ar)).push (excO C h.objs.size), g, d, t, os⟩) :
    codeAny (model prog w) A (.call (.ref C) ⟨ar, kw⟩) R ⟨h, g, d, t, os⟩ := by
  have t1 := tc_lookup
  have t2 := tc_bind (.ref C)
  have hty : (⟨h, g, d, t, os⟩ : Shared).TypeIs (.ref C) "type" := ⟨_, hK, rfl⟩
  refine codeAny_of_tree ?_
  show wpAny _ _ (callAny (.ref C) _) _ _ _
  repeat (any_goals (first | assumption | with_reducible refine wpAny_loadPart_at hK ?_ | wp_step))
  refine ⟨rfl, ?_⟩
  refine codeAny_call_builtin_at (Code.quiet_builtin _ (by decide +kernel)) entry_typeCall (check_type_callK hK (type_call_ownK FB hIn hK hlook hbnd hlen ?_))
  refine codeAny_mono hz fun r s' z => ?_
  rcases r with e | (v | _ | _ | _) <;> exact z
end

/-! ### an exception made as a value -/
/-- C(e, .., k = v, ..) -/
def tExv (C : Addr) (n m : Nat) (sp : Sp) (gV : List V → List V → List V) (t tk : TA) : TE := fun σ H Q => t σ H fun vs H1 => tk σ H1 fun zs H2 => vs.length = n ∧ zs.length = m ∧ ∀ a, H2 a = none →
  sp (gV (.ref a :: vs) zs) (upd H2 a (exo a C none)) (fun v H3 => v = .non ∧ Q (.ref a) H3) (fun _ _ _ => False)
section
variable {X : Cx} {CX : CXT} {k n : Nat} {f C : Addr} {fd : FuncData} {ps ks : List Str} {sp : Sp} {x : Str} {p pos : Pos} {e : Expr} {es : List Expr} {kws : List Keyword} {t tk : TA} {g : List Value → List Value → List Value} {gV : List V → List V → List V}
theorem run_exv {pins : List (Addr × Obj)} {σ : L2.St} {H : Hp} {s : Shared} {Q : VK} {us ws : List Value} {vs zs : List V} (T : OexC X.K C) (iC : PySem.W.findIn X.K (.ref C) "__init__" = some (some (.ref f))) (tI : PySem.W.typeIn X.K (.ref f) = some (.type "function"))
    (F1 : FnOk X.prog X.w X.K X.mg X.base CX k f fd ps sp) (hr : Room (k + 1) X.A) (hb : KBn X.K fd ps (n + 1) ks g gV) (hx : Passes CX X (fun _ _ _ => False))
    (I1 : Inv X pins σ H s) (r : Vals vs us) (rz : Vals zs ws) (l1 : vs.length = n) (l2 : zs.length = ks.length) (hn1 : n ≤ 1000)
    (h : ∀ a, H a = none → sp (gV (.ref a :: vs) zs) (upd H a (exo a C none)) (fun v H2 => v = .non ∧ Q (.ref a) H2) (fun _ _ _ => False)) :
    wpAny (model X.prog X.w) X.A (call (.ref C) us (ks.zip ws)) (EP X pins σ Q) X.xe s := by
  obtain ⟨nn, q, N, bs, bm, sn, sub, ab, col, dd, k0, k1, k2, k3, k5, hK, hms⟩ := T.cls
  obtain ⟨hp, gg, dr, tok, os⟩ := s
  have hup : hp.objs.size ≤ hp.objs.size + 1 := Nat.le_succ _
  have hn : H (hp.objs.size + 1) = none := I1.hok.fresh hup
  have hq := h (hp.objs.size + 1) hn
  have kept : ∀ b o, hp.get? b = some o → ((hp.push (PySem.W.kdv_tup us)).push (PySem.HandSPX.excO C hp.objs.size)).get? b = some o := fun b o e => Heap.get?_push_of_some _ (Heap.get?_push_of_some _ e)
  have hgot : ((hp.push (PySem.W.kdv_tup us)).push (PySem.HandSPX.excO C hp.objs.size)).get? (hp.objs.size + 1) = some (PySem.HandSPX.excO C hp.objs.size) := by heap_get
  have I2 : Inv X pins σ (upd H (hp.objs.size + 1) (exo (hp.objs.size + 1) C none)) ⟨(hp.push (PySem.W.kdv_tup us)).push (PySem.HandSPX.excO C hp.objs.size), gg, dr, tok, os⟩ :=
    I1.laid (t' := tok) (a := hp.objs.size + 1) (o := exo (hp.objs.size + 1) C none) (h' := (hp.push (PySem.W.kdv_tup us)).push (PySem.HandSPX.excO C hp.objs.size)) kept hup (exo_ok hgot)
  have r1 : Vals (V.ref (hp.objs.size + 1) :: vs) (Value.ref (hp.objs.size + 1) :: us) := .cons rfl r
  have r2 := hb.rel r1 rz
  have ln1 : (Value.ref (hp.objs.size + 1) :: us).length = n + 1 := by
    rw [List.length_cons, ← r.length, l1]
  have hlus : us.length ≤ sizeLine := by
    rw [← r.length, l1, sizeLine_eq]
    omega
  refine wpAny_call (call_ownK F.excBase_ValueError (fun Y => PySem.HandSPX.refsVE_contains Y bm hms) (I1.kIn _ _ hK) (PySem.W.looks_findIn I1.kIn iC) (fun self => PySem.W.bind_fn I1.kIn self tI) hlus
    (codeAny_mono (F1.run _ X.stack _ _ ⟨Value.ref (hp.objs.size + 1) :: us, ks.zip ws⟩ (g (Value.ref (hp.objs.size + 1) :: us) ws) _ _ (fun _ _ _ => False) (hr.make C us (ks.zip ws)) (I2.env0.make C us (ks.zip ws)) (hb.to _ (Value.ref (hp.objs.size + 1) :: us) ws I2.kIn ln1 (rz.length.symm.trans l2)) r2 hq) fun r s' hq' => ?_))
  cases r with
  | error ex => exact hx pins σ _ _ ex s' I2 hq'
  | ok fl =>
    cases fl with
    | ret u =>
      obtain ⟨v, H', J3, rr, en, q4⟩ := I2.after hq'
      subst en
      exact ⟨rr, ⟨V.ref (hp.objs.size + 1), H', J3, rfl, q4⟩⟩
    | next => exact False.elim hq'
    | brk => exact False.elim hq'
    | cont => exact False.elim hq'
/-- C(e, ..) -/
theorem pe_exv (T : OexC X.K C) (iC : PySem.W.findIn X.K (.ref C) "__init__" = some (some (.ref f))) (tI : PySem.W.typeIn X.K (.ref f) = some (.type "function"))
    (F1 : FnOk X.prog X.w X.K X.mg X.base CX k f fd ps sp) (hr : Room (k + 1) X.A) (hb : KBn X.K fd ps (n + 1) [] g gV) (hx : Passes CX X (fun _ _ _ => False)) (hg : Gl X x) (hm : X.mg x = some (.ref C)) (hn1 : n ≤ 1000) (ha : PA X (e :: es) t)
    (hdb : (x == ("__debug__" : Str)) = false := by decide) (he : starEach (e :: es) X.env = (false, eval e X.env) :: starEach es X.env := by rfl) (hpl : (backTo pos (starEach es X.env)).any (·.1) = false := by rfl) :
    PE X (.Call (.Name x p) (e :: es) [] pos) (tExv C n 0 sp gV t tNil) := by
  refine ⟨fun pins s σ H Q I h => ?_⟩
  refine wpAny_Call_Name_kw (ld_glob I hg hm ?_ hdb)
  refine PySem.W.callWith_K (h₀ := X.base) I.ok.mod.kin T.kC (thn (ha.run pos pins s σ H _ I h) fun us s1 ⟨vs, H1, I1, r1, q1⟩ => ⟨I1.kIn, ?_⟩) he hpl
  obtain ⟨l1, l2, q2⟩ := q1
  exact run_exv (ks := []) (ws := []) (zs := []) T iC tI F1 hr hb hx I1 r1 .nil l1 rfl hn1 q2
/-- C(k = v, ..) -/
theorem pe_exvK (T : OexC X.K C) (iC : PySem.W.findIn X.K (.ref C) "__init__" = some (some (.ref f))) (tI : PySem.W.typeIn X.K (.ref f) = some (.type "function"))
    (F1 : FnOk X.prog X.w X.K X.mg X.base CX k f fd ps sp) (hr : Room (k + 1) X.A) (hb : KBn X.K fd ps 1 ks g gV) (hx : Passes CX X (fun _ _ _ => False)) (hg : Gl X x) (hm : X.mg x = some (.ref C)) (hkw : PK X kws tk)
    (hall : (backToKw pos (keywordEach kws X.env)).all (·.1.isSome) = true := by rfl) (hks : (backToKw pos (keywordEach kws X.env)).filterMap (·.1) = ks := by rfl) (hdb : (x == ("__debug__" : Str)) = false := by decide)
    (hpl : ((backTo pos (starEach [] X.env)).any (·.1) || (backToKw pos (keywordEach kws X.env)).any (·.1.isNone)) = false := by rfl) :
    PE X (.Call (.Name x p) [] kws pos) (tExv C 0 ks.length sp gV tNil tk) := by
  refine ⟨fun pins s σ H Q I h => ?_⟩
  refine wpAny_Call_Name_kw (ld_glob I hg hm ?_ hdb)
  refine PySem.W.callWith_KW0 (h₀ := X.base) I.ok.mod.kin T.kC hall ?_ hpl
  refine thn (hkw.run pos pins s σ H _ I h) fun ws s2 ⟨zs, H2, I2, rz, l1, l2, q2⟩ => ⟨I2.kIn, ?_⟩
  rw [hks]
  exact run_exv (n := 0) (us := []) (vs := []) T iC tI F1 hr hb hx I2 .nil rz rfl l2 (Nat.zero_le _) q2
end
end Rx

set_option Elab.async false
set_option linter.all false
set_option maxRecDepth 100000
set_option maxHeartbeats 4000000
namespace Rx
open PySem PySem.Spec PyProof.Rows L2
/-! ### what is asked of an exception value -/
/-- what the written part says of its class -/
structure ErrC (K : PySem.W.Frag) (C : Addr) : Prop where
  hcl : (PySem.W.clsIn K C).isSome = true
  hga : PySem.W.findIn K (.ref C) "__getattribute__" = some (some (.builtin "BaseException.__getattribute__"))
  hgt : PySem.W.findIn K (.ref C) "__getattr__" = some none
  hsb : PySem.W.subIn K (.ref C) (.type "BaseException") = some true
  hdc : PySem.W.hasDictIn K C = true
  hac : PySem.W.findIn K (.ref C) "__class__" = some (some (.builtin "object.__class__"))
  hmo : PySem.W.mroIn K C (.type "object") = some true
/-- the descriptor of __class__ -/
structure ClsD (K : PySem.W.Frag) : Prop where
  hn : PySem.W.specialIn K (.builtin "object.__class__") "__get__" = some (some (.builtin "getset_descriptor.__get__"))
  ht : PySem.W.takesIn K (.builtin "object.__class__") = some true
section
variable {X : Cx}
theorem inst_exo {H : Hp} {hp : Heap} {P : Program} {w : World} {a C d : Addr} {fs : List (Str × V)} (ok : HOk P w H hp) (ea : H a = some (exo a C (some d))) (ed : H d = some (exd d fs)) :
    ∃ (ox od : Obj) (mA : Str → Option Value), PySem.W.InstAt hp a ox C (some od) ∧ (∀ name, PySem.W.lookIn name od = some (mA name)) ∧ ∀ f, RelO (fs.lookup f) (mA f) := by
  obtain ⟨t1, ho⟩ := exo_at ok ea
  obtain ⟨mA, hns, rel⟩ := exd_at ok ed
  obtain ⟨od, hod, hl⟩ := lookIn_ns hns
  exact ⟨_, od, mA, ⟨ho, rfl, rfl, hod⟩, hl, rel⟩
/-- e.f -/
def tExf (K : PySem.W.Frag) (f : Str) (te : TE) : TE := fun σ H Q => te σ H fun x H1 => ∃ (a C d : Addr) (fs : List (Str × V)) (v : V), x = .ref a ∧ ErrC K C ∧ PySem.W.findIn K (.ref C) f = some none ∧ H1 a = some (exo a C (some d)) ∧ H1 d = some (exd d fs) ∧ fs.lookup f = some v ∧ Q v H1
theorem pe_exf {e : Expr} {te : TE} {n : Str} {pos : Pos} (he : PE X e te) (hb : attributeBase e n X.env (eval e X.env) = eval e X.env := by rfl) : PE X (.Attribute e n pos) (tExf X.K n te) := by
  refine ⟨fun pins s σ H Q I h => attr_of hb (thn (he.run pins s σ H _ I h) fun u s1 hh => ?_)⟩
  obtain ⟨x, H1, I1, rx, a, C, d, fs, v, rfl, T, hno, ea, ed, l, q⟩ := hh
  cases (show u = Value.ref a from rx)
  obtain ⟨ox, od, mA, J, hl, rel⟩ := inst_exo I1.hok ea ed
  obtain ⟨z, hz, rz⟩ := RelO.some_of (v := v) (o := mA n) (by rw [← l]; exact rel n)
  exact HandSPX.exc_get I1.kIn J T.hga T.hgt T.hsb (PySem.W.findObj_own T.hdc hno rfl (by rw [hl, hz])) (handed_of rz) ⟨v, H1, I1.tok _, rz, q⟩
/-- isinstance(e, c) -/
def rIsX (K : PySem.W.Frag) : List V → Hp → VK → Prop := fun xs H Q => ∃ (a C d : Addr) (fs : List (Str × V)) (c : V) (u : Value) (b : Bool), xs = [.ref a, c] ∧ ClsV c u ∧ ErrC K C ∧ ClsD K ∧ H a = some (exo a C (some d)) ∧ H d = some (exd d fs) ∧ PySem.W.kitOne K (.ref C) u = some b ∧ Q (.bl b) H
theorem call_isX : CallR X (.builtin "isinstance") (rIsX X.K) := by
  intro pins s σ H xs us Q I r h
  obtain ⟨a, C, d, fs, c, u, b, rfl, k, T, D, ea, ed, e, q⟩ := h
  obtain ⟨u1, u2, rfl, r1, r2⟩ := vals2 r
  cases (show u1 = Value.ref a from r1)
  cases k.eq r2
  obtain ⟨ox, od, mA, J, _, _⟩ := inst_exo I.hok ea ed
  exact PySem.W.kia_one (PySem.W.kitx_exc T.hcl T.hga T.hgt T.hsb T.hac D.hn D.ht T.hmo) I.kIn J e (fun z => nomatch z) fun tk => ⟨.bl b, H, I.tok tk, rfl, q⟩
/-- str(x), x a list or a tuple of data -/
def rStrD (K : PySem.W.Frag) : List V → Hp → VK → Prop := fun xs H Q => ∃ (a : Addr) (d : PyData), xs = [.ref a] ∧ Dp K H (.ref a) d ∧ d.showable = true ∧ d.hasDict = false ∧ d.depth ≤ 64 ∧ d.shown.length ≤ sizeLine ∧ Q (.str d.shown) H
theorem call_strD (hg : X.A.guards = some []) (hu : X.A.units + 100 < cLine) : CallR X (.type "str") (rStrD X.K) := by
  intro pins s σ H xs us Q I r h
  obtain ⟨a, d, rfl, hd, hs, hn, hz, hl, q⟩ := h
  obtain ⟨u1, rfl, r1⟩ := vals1 r
  cases (show u1 = Value.ref a from r1)
  obtain ⟨as, rr⟩ := Dp.reads I d _ _ hd r1
  exact str_of_reads rr hs (PyData.noDict_hsm hn) hg (by omega) (fun _ _ e => e) (fun h' u tk k => ⟨.str _, H, I.kept k, ⟨u, rfl⟩, q⟩) hl
end
end Rx

set_option Elab.async false
set_option linter.all false
set_option maxRecDepth 100000
set_option maxHeartbeats 4000000
namespace Rx
open PySem PySem.Spec PyProof.Rows L2
/-! ### a law whose own body asks str(..) of data: nothing is being shown around it -/
/-- the promise of a def, where no __repr__ is under way -/
def FnG (P : Program) (w : World) (K : PySem.W.Frag) (mg : Str → Option Value) (base : Heap) (k : Nat) (f : Addr) (fd : FuncData) (ps : List Str) (sp : Sp) : Prop :=
  ∀ (A : Around) (outer : List Env) (s : Shared) (H : Hp) (args : Args) (us : List Value) (vs : List V) (Q : VK), A.guards = some [] → Room k A → Env0 P w K mg base A outer s H → BindsTo s fd args (ps.zip us) → Vals vs us → sp vs H Q E0 →
    codeAny (model P w) A (.call (.ref f) args) (CR CX0 outer P w H s Q E0) s
theorem fnG_of {P : Program} {w : World} {K : PySem.W.Frag} {mg : Str → Option Value} {base : Heap} {x qual : Str} {st : Stmt} {f : Addr} {fd : FuncData} {N ps : List Str} {k : Nat} {sp : Sp} (F : Fun K x qual st f fd) (S : FnScope N ps (defScope st)) (len : ∀ vs H Q E, sp vs H Q E → vs.length = ps.length)
    (hbody : ∀ (cdv : Value) (A : Around) (outer : List Env) (s : Shared) (H : Hp) (vs : List V) (Q : VK), A.guards = some [] → Room k (A.deeper (envOfC qual (defScope st) s.heap.objs.size f cdv)) → sp vs H Q E0 →
      ∃ t, PSs (cxOf CX0 P w K mg base N qual (defScope st) f cdv A outer s H E0).nox (defBody st) t ∧ t { nx := fun _ H' => Q .non H', rt := Q } (L2.start N vs) H) : FnG P w K mg base (k + 1) f fd ps sp := by
  obtain ⟨oc, od, kV, doc, pm, an, cdv, ct, osl, rfl, lk, hcd⟩ := F.ex
  intro A outer s H args us vs Q hg hr e0 hb r hsp
  have up : ∀ b o, base.get? b = some o → s.heap.get? b = some o := fun b o e => (e0.bs b o e).1
  have KX := e0.mod.kin.keeps up
  refine codeAny_call_function hr.depth (KX _ _ lk) rfl S.co S.gen rfl (PySem.W.codeRec_of KX hcd) (hb _ _ _ _ ?_)
  refine wpAny_newFunctionEnv_cells S.kind (fun y hy => ?_) fun env he s1 z => ?_
  · rcases S.par y.1 (List.of_mem_zip (a := y.1) (b := y.2) hy).1 with q | q
    · exact .inl q
    · exact .inr ⟨q, PySem.W.cellsFrom_some _ _ _ (.inl q)⟩
  subst he
  obtain ⟨t, ht, hq⟩ := hbody cdv A outer s H vs Q hg (hr.deeper _) hsp
  have I := inv_start (CX := CX0) (mg := mg) (base := base) (E := E0) S hr.hd e0 (len _ _ _ _ hsp) r z
  refine ⟨(e0.mod.nolimit.keeps up).keeps z.toInCall.keep, codeAny_func (wpAny_mono (ht.nox.run [] s1 _ H _ I hq) (fun fl s' hs => ?_) fun _ _ y => y)⟩
  match fl, hs with
  | .ret u, ⟨v, _, H', J, rv, q⟩ => exact ⟨v, H', J.os, J.bare, J.base, J.hok, rv, q⟩
  | .next, ⟨_, H', J, q⟩ => exact ⟨V.non, H', J.os, J.bare, J.base, J.hok, rfl, q⟩
  | .brk, ⟨_, _, _, q⟩ => exact q.elim
  | .cont, ⟨_, _, _, q⟩ => exact q.elim
/-- the call of the law -/
theorem law_callG {P : Program} {w : World} {K : PySem.W.Frag} {mg mb : Str → Option Value} {k : Nat} {fa a : Addr} {fd : FuncData} {x : Str} {sp : Sp} {s₁ : Shared} {vs : List Value} {ns : List Int}
    (KX : K.In s₁.heap) (hns : s₁.heap.Ns mainGlobals mg) (hb : s₁.heap.Ns builtinsNs mb) (hbb : ∀ y : Str, y ≠ "__name__" → mb y = bootBuiltins y) (hlim : s₁.heap.NoLimit) (hgen : s₁.gens = #[])
    (ha : s₁.heap.get? a = some { cls := .type "list", data := .seq vs.toArray }) (hi : IntsAre vs ns) (hl : ns.length ≤ sizeLine) (hr : Room k callerA)
    (F : ∀ base : Heap, K.In base → base.Ns mainGlobals mg → FnG P w K mg base k fa fd [x] sp) (hbind : ∀ (s : Shared) (u : Value), BindsTo s fd ⟨[u], []⟩ [(x, u)])
    (hsp : ∀ H : Hp, Only H → SqL K H a (ns.map V.int) → sp [.ref a] H (fun v _ => v = .bl true) E0) :
    codeAny (model P w) callerA (.call (.ref fa) ⟨[.ref a], []⟩) (fun r s' => r = .ok (.ret (.bool true)) ∧ OldK s₁.heap s'.heap ∧ s'.os = s₁.os ∧ AllBare s'.gens) s₁ := by
  have rv := vals_ints hi
  have lenV := hi.length
  obtain ⟨H, hO, hS, hok, hA⟩ : ∃ H : Hp, Only H ∧ SqL K H a (ns.map V.int) ∧ HOk P w H s₁.heap ∧ ∀ b u, H b = some u → b = a ∧ K.lookup a = none := by
    cases hk : K.lookup a with
    | some o =>
      have e := KX a o hk
      rw [ha] at e
      cases e
      exact ⟨fun _ => none, fun _ => .inl rfl, .inr ⟨_, vs.toArray, _, hk, rfl, rfl, rfl, by rw [List.size_toArray, lenV]; exact hl, by simpa using rv⟩, (fun _ _ z => nomatch z), fun _ _ z => nomatch z⟩
    | none =>
      have only : ∀ {b : Addr} {u v : HO}, (if b = a then some v else none) = some u → b = a ∧ v = u := fun {b u v} z => by
        split at z
        · rename_i hb
          exact ⟨hb, Option.some.inj z⟩
        · cases z
      refine ⟨fun b => if b = a then some (.frz { cls := .type "list", data := .seq vs.toArray } (.lst (ns.map V.int))) else none, fun b => ?_, .inl (.inr ⟨_, if_pos rfl⟩), fun b u z => ?_, fun b u z => ⟨(only z).1, rfl⟩⟩
      · by_cases hba : b = a
        · exact .inr ⟨_, _, if_pos hba⟩
        · exact .inl (if_neg hba)
      · obtain ⟨rfl, rfl⟩ := only z
        exact ⟨ha, by rw [List.length_map]; exact hl, vs, _, rv, ha⟩
  have free : ∀ {b : Addr} {o : Obj}, s₁.heap.get? b = some o → (b = a → K.lookup a = none → False) → (hidT s₁.heap H).get? b = some o := fun {b o} e n => hidT_get e (by
    cases q : H b with
    | none => rfl
    | some u => exact (n (hA b u q).1 (hA b u q).2).elim)
  have nsK : ∀ {b : Addr} {m : Str → Option Value}, s₁.heap.Ns b m → (hidT s₁.heap H).Ns b m := fun {b m} ⟨o, es, ep, e, dt, r⟩ => ⟨o, es, ep, free e (fun hba _ => by
    rw [hba, ha] at e
    cases e
    cases dt), dt, r⟩
  have hKb : K.In (hidT s₁.heap H) := fun b o e => free (KX b o e) fun hba hn => by
    rw [hba, hn] at e
    cases e
  have hM : Mod K mg (hidT s₁.heap H) := ⟨hKb, nsK hns, ⟨mb, nsK hb, hbb⟩, let ⟨mc, y1, y2⟩ := hlim; ⟨mc, nsK y1, y2⟩⟩
  have e0 : Env0 P w K mg (hidT s₁.heap H) callerA [] s₁ H := ⟨rfl, hM, (fun b o e => of_hidT e), Nat.le_of_eq (hidT_size _ _), trivial, (fun b z => by cases z), hok, .of_eq hgen⟩
  refine codeAny_mono (F _ hKb (nsK hns) callerA [] s₁ H ⟨[.ref a], []⟩ [.ref a] [.ref a] (fun v _ => v = .bl true) rfl hr e0 (hbind s₁ (.ref a)) (.cons rfl .nil) (hsp H hO hS)) fun r s' y => ?_
  match r, y with
  | .ok (.ret u), ⟨v, H', os, bare, un, hok', rr, q⟩ =>
    cases (show v = V.bl true from q)
    cases (show u = Value.bool true from rr)
    refine ⟨rfl, OldK.of_keep fun b o e => ?_, os, bare⟩
    rcases hO b with z | ⟨ob, xs, z⟩
    · exact un.keep b o e z (fun z => by cases z) (fun z => by cases z)
    · obtain ⟨g1, _⟩ := hok b _ z
      obtain ⟨g2, _⟩ := hok' b _ (un.frzs b ob _ z)
      rw [g1] at e
      cases e
      exact g2
/-- what k_head leaves -/
theorem walk_ofG {l : PySem.W.OpenLaw} {n k : Nat} {q : Program} {loose : List Str} {XP : (Str → Option Value) → Heap → Prop} {YP : World → Heap → Prop} {d : DefRec} {K : Params → PySem.W.Frag} {sp : PySem.W.Frag → Sp} {x : Str}
    (hn : l.most = some n) (hn2 : n ≤ sizeLine) (hdf : d.params.defaults = []) (hr : Room k callerA) (hY : ∀ (w : World) (h : Heap), YP w h → (K w.params).In h)
    (F : ∀ (w : World) (mg : Str → Option Value) (fa : Addr) (h : Heap), (K w.params).In h → h.Ns mainGlobals mg → mg d.name = some (.ref fa) →
      ∃ fd : FuncData, (∀ (s : Shared) (u : Value), BindsTo s fd ⟨[u], []⟩ [(x, u)]) ∧ ∀ base : Heap, (K w.params).In base → base.Ns mainGlobals mg → FnG l.prog w (K w.params) mg base k fa fd [x] (sp (K w.params)))
    (hsp : ∀ (K : PySem.W.Frag) (H : Hp) (a : Addr) (ns : List Int), ns.length ≤ n → Only H → SqL K H a (ns.map V.int) → sp K [.ref a] H (fun v _ => v = .bl true) E0) :
    PySem.W.WalkO q loose XP YP l.row.toRowW d [] (fun f vs => PySem.call f vs) := by
  refine Att.attach_call hn hdf fun w s₀ s₁ mg mb fa o pm cd doc a vs ns G Y ho hd hcd hmg hobj hints hlen hg => ?_
  obtain ⟨fd, hb, hF⟩ := F w mg fa _ (hY w _ Y) G.T.g hmg
  exact law_callG (hY w _ Y) G.T.g G.T.b G.T.builtins G.T.nolimit hg hobj hints (Nat.le_trans hlen hn2) hr hF hb fun H hO hS => hsp _ H a ns hlen hO hS
end Rx

set_option Elab.async false
set_option linter.all false
set_option maxRecDepth 100000
set_option maxHeartbeats 4000000
namespace Rx
open PySem PySem.Spec PyProof.Rows L2
/-! ### data with lists turned into tuples -/
mutual
def fix : PyData → PyData
  | .list xs => .tuple (fixAll xs)
  | .tuple xs => .tuple (fixAll xs)
  | .none => .none
  | .bool b => .bool b
  | .int i => .int i
  | .str x => .str x
  | .dict kvs => .dict kvs
def fixAll : List PyData → List PyData
  | [] => []
  | x :: xs => fix x :: fixAll xs
end
mutual
def sz : PyData → Nat
  | .list xs => 2 + szAll xs
  | .tuple xs => 2 + szAll xs
  | _ => 1
def szAll : List PyData → Nat
  | [] => 0
  | x :: xs => sz x + szAll xs
end
def kids : PyData → Option (List PyData)
  | .list xs => some xs
  | .tuple xs => some xs
  | _ => none
theorem fixAll_map : ∀ xs : List PyData, fixAll xs = xs.map fix
  | [] => by simp [fixAll]
  | x :: xs => by simp [fixAll, fixAll_map xs]
theorem fix_kids {c : PyData} {xs : List PyData} (h : kids c = some xs) : fix c = .tuple (fixAll xs) := by
  cases c <;> simp [kids] at h <;> subst h <;> simp [fix]
theorem sz_kids {c : PyData} {xs : List PyData} (h : kids c = some xs) : sz c = 2 + szAll xs := by
  cases c <;> simp [kids] at h <;> subst h <;> simp [sz]
theorem sz_pos (c : PyData) : 1 ≤ sz c := by cases c <;> simp [sz] <;> omega
theorem szAll_drop : ∀ {xs : List PyData} {n : Nat} {c : PyData}, xs[n]? = some c → szAll (xs.drop n) = sz c + szAll (xs.drop (n + 1))
  | [], _, _, h => by simp at h
  | x :: xs, 0, c, h => by
    simp at h
    subst h
    simp [szAll]
  | x :: xs, n + 1, c, h => by
    simp only [List.getElem?_cons_succ] at h
    simpa using szAll_drop h
theorem sz_le_all : ∀ {xs : List PyData} {c : PyData}, c ∈ xs → sz c ≤ szAll xs
  | [], _, h => by cases h
  | x :: xs, c, h => by
    rcases List.mem_cons.mp h with rfl | h
    · simp [szAll]
    · have := sz_le_all h
      simp only [szAll]
      omega
theorem len_le_sz : ∀ xs : List PyData, xs.length ≤ szAll xs
  | [] => by simp
  | x :: xs => by
    have h1 := sz_pos x
    have h2 := len_le_sz xs
    simp only [List.length_cons, szAll]
    omega
/-! ### data in a heap -/
/-! no list in it -/
mutual
def noList : PyData → Bool
  | .list _ => false
  | .tuple xs => noListAll xs
  | _ => true
def noListAll : List PyData → Bool
  | [] => true
  | x :: xs => noList x && noListAll xs
end
mutual
theorem fix_noList : ∀ d : PyData, noList (fix d) = true
  | .list xs => by simp only [fix, noList]; exact fixAll_noList xs
  | .tuple xs => by simp only [fix, noList]; exact fixAll_noList xs
  | .none => by simp [fix, noList]
  | .bool _ => by simp [fix, noList]
  | .int _ => by simp [fix, noList]
  | .str _ => by simp [fix, noList]
  | .dict _ => by simp [fix, noList]
theorem fixAll_noList : ∀ xs : List PyData, noListAll (fixAll xs) = true
  | [] => by simp [fixAll, noListAll]
  | x :: xs => by simp only [fixAll, noListAll, fix_noList x, fixAll_noList xs, Bool.and_self]
end
section
variable {K : PySem.W.Frag} {H H' : Hp}
theorem sqT_keep (k : ∀ a xs, H a = some (.tup xs) → H' a = some (.tup xs)) (kf : ∀ a o u, H a = some (.frz o u) → H' a = some (.frz o u)) {a : Addr} {xs : List V} (h : SqT K H a xs) : SqT K H' a xs := by
  rcases h with (h | ⟨o, h⟩) | h
  · exact .inl (.inl (k _ _ h))
  · exact .inl (.inr ⟨o, kf _ _ _ h⟩)
  · exact .inr h
theorem sqL_same (e : Same H H') {a : Addr} {xs : List V} (h : SqL K H a xs) : SqL K H' a xs := Same.seq e h
theorem sqT_same (e : Same H H') {a : Addr} {xs : List V} (h : SqT K H a xs) : SqT K H' a xs := sqT_keep (fun a xs => e a _) (fun a o u => e a _) h
mutual
theorem dp_keep (k : ∀ a xs, H a = some (.tup xs) → H' a = some (.tup xs)) (kf : ∀ a o u, H a = some (.frz o u) → H' a = some (.frz o u)) : ∀ {v : V} {d : PyData}, Dp K H v d → noList d = true → Dp K H' v d
  | _, _, .non, _ => .non
  | _, _, .bl b, _ => .bl b
  | _, _, .int i, _ => .int i
  | _, _, .str x, _ => .str x
  | _, _, .lst _ _, h => by simp [noList] at h
  | _, _, .tup h1 h2, h => .tup (sqT_keep k kf h1) (dpAll_keep k kf h2 (by simpa [noList] using h))
theorem dpAll_keep (k : ∀ a xs, H a = some (.tup xs) → H' a = some (.tup xs)) (kf : ∀ a o u, H a = some (.frz o u) → H' a = some (.frz o u)) : ∀ {vs : List V} {ds : List PyData}, DpAll K H vs ds → noListAll ds = true → DpAll K H' vs ds
  | _, _, .nil, _ => .nil
  | _, _, .cons h1 h2, h => by
    simp only [noListAll, Bool.and_eq_true] at h
    exact .cons (dp_keep k kf h1 h.1) (dpAll_keep k kf h2 h.2)
end
mutual
theorem dp_same (e : Same H H') : ∀ {v : V} {d : PyData}, Dp K H v d → Dp K H' v d
  | _, _, .non => .non
  | _, _, .bl b => .bl b
  | _, _, .int i => .int i
  | _, _, .str x => .str x
  | _, _, .lst h1 h2 => .lst (sqL_same e h1) (dpAll_same e h2)
  | _, _, .tup h1 h2 => .tup (sqT_same e h1) (dpAll_same e h2)
theorem dpAll_same (e : Same H H') : ∀ {vs : List V} {ds : List PyData}, DpAll K H vs ds → DpAll K H' vs ds
  | _, _, .nil => .nil
  | _, _, .cons h1 h2 => .cons (dp_same e h1) (dpAll_same e h2)
end
theorem dpAll_app : ∀ {vs ws : List V} {ds es : List PyData}, DpAll K H vs ds → DpAll K H ws es → DpAll K H (vs ++ ws) (ds ++ es)
  | _, _, _, _, .nil, h => h
  | _, _, _, _, .cons h1 h2, h => .cons h1 (dpAll_app h2 h)
theorem dpAll_len : ∀ {vs : List V} {ds : List PyData}, DpAll K H vs ds → vs.length = ds.length
  | _, _, .nil => rfl
  | _, _, .cons _ h2 => by rw [List.length_cons, List.length_cons, dpAll_len h2]
theorem dpAll_get : ∀ {vs : List V} {ds : List PyData} {i : Nat} {d : PyData}, DpAll K H vs ds → ds[i]? = some d → ∃ v, vs[i]? = some v ∧ Dp K H v d
  | _, _, _, _, .nil, h => by simp at h
  | _, _, 0, _, .cons h1 _, h => by
    simp at h
    subst h
    exact ⟨_, rfl, h1⟩
  | _, _, i + 1, _, .cons _ h2, h => by
    simp only [List.getElem?_cons_succ] at h
    obtain ⟨v, e, q⟩ := dpAll_get h2 h
    exact ⟨v, by simpa using e, q⟩
theorem dpAll_getV {vs : List V} {ds : List PyData} {i : Nat} {v : V} (h : DpAll K H vs ds) (e : vs[i]? = some v) : ∃ d, ds[i]? = some d ∧ Dp K H v d := by
  have hi : i < ds.length := by
    rw [← dpAll_len h]
    exact (List.getElem?_eq_some_iff.mp e).1
  obtain ⟨w, e2, q⟩ := dpAll_get h (List.getElem?_eq_getElem hi)
  rw [e] at e2
  cases e2
  exact ⟨_, List.getElem?_eq_getElem hi, q⟩
/-- a list or a tuple of such items stands there -/
def Src (K : PySem.W.Frag) (H : Hp) (v : V) (its : List PyData) : Prop := ∃ (a : Addr) (xs : List V), v = .ref a ∧ (SqL K H a xs ∨ SqT K H a xs) ∧ DpAll K H xs its
theorem src_same (e : Same H H') {v : V} {its : List PyData} (h : Src K H v its) : Src K H' v its := by
  obtain ⟨a, xs, rfl, h1, h2⟩ := h
  exact ⟨a, xs, rfl, h1.imp (sqL_same e) (sqT_same e), dpAll_same e h2⟩
theorem src_of {v : V} {c : PyData} {its : List PyData} (h : Dp K H v c) (k : kids c = some its) : Src K H v its := by
  cases h with
  | lst h1 h2 =>
    simp only [kids, Option.some.injEq] at k
    subst k
    exact ⟨_, _, rfl, .inl h1, h2⟩
  | tup h1 h2 =>
    simp only [kids, Option.some.injEq] at k
    subst k
    exact ⟨_, _, rfl, .inr h1, h2⟩
  | _ => simp [kids] at k
/-- isinstance(x, (list, tuple)) -/
theorem ty_dp {v : V} {c : PyData} (h : Dp K H v c) : ∃ t, TyX K H v t ∧ PySem.W.kitAny K t [.type "list", .type "tuple"] = some (kids c).isSome := by
  have no : ∀ t : String, kitB t "list" = some false → kitB t "tuple" = some false → PySem.W.kitAny K (.type t) [.type "list", .type "tuple"] = some false := fun t h1 h2 =>
    kitAny_cons (kit_ty h1) (fun _ => kitAny_cons (kit_ty h2) (fun _ => kitAny_nil) (fun z => nomatch z)) (fun z => nomatch z)
  have yl : PySem.W.kitAny K (.type "list") [.type "list", .type "tuple"] = some true := kitAny_cons (b := true) (kit_ty (by decide +kernel)) (fun z => nomatch z) (fun _ => rfl)
  have yt : PySem.W.kitAny K (.type "tuple") [.type "list", .type "tuple"] = some true :=
    kitAny_cons (b := false) (kit_ty (by decide +kernel)) (fun _ => kitAny_cons (b := true) (kit_ty (by decide +kernel)) (fun z => nomatch z) (fun _ => rfl)) (fun z => nomatch z)
  cases h with
  | non => exact ⟨_, .base .non, no _ (by decide +kernel) (by decide +kernel)⟩
  | bl b => exact ⟨_, .base (.bl b), no _ (by decide +kernel) (by decide +kernel)⟩
  | int i => exact ⟨_, .base (.int i), no _ (by decide +kernel) (by decide +kernel)⟩
  | str x => exact ⟨_, .base (.str x), no _ (by decide +kernel) (by decide +kernel)⟩
  | lst h1 _ =>
    refine ⟨.type "list", ?_, yl⟩
    rcases h1 with (h | ⟨o, h⟩) | ⟨o, its, n, h, hc, _⟩
    · exact .base (.lst h)
    · exact .base (.frz h)
    · exact .kList h hc
  | tup h1 _ =>
    refine ⟨.type "tuple", ?_, yt⟩
    rcases h1 with (h | ⟨o, h⟩) | ⟨o, its, n, h, hc, _⟩
    · exact .base (.tup h)
    · exact .fTuple h
    · exact .kTuple h hc
theorem leaf_dp {v : V} {c : PyData} (h : Dp K H v c) (k : kids c = none) : fix c = c ∧ Dp K H' v c := by
  cases h with
  | non => exact ⟨by simp [fix], .non⟩
  | bl b => exact ⟨by simp [fix], .bl b⟩
  | int i => exact ⟨by simp [fix], .int i⟩
  | str x => exact ⟨by simp [fix], .str x⟩
  | lst _ _ => simp [kids] at k
  | tup _ _ => simp [kids] at k
theorem same_new {H : Hp} {a : Addr} {o : HO} (h : H a = none) : Same H (upd H a o) := fun b u e => by
  rw [upd_ne (ne_of_none e h)]
  exact e
theorem same_upd {H0 H : Hp} {a : Addr} {o : HO} (e : Same H0 H) (h : H0 a = none) : Same H0 (upd H a o) := fun b u q => by
  rw [upd_ne (ne_of_none q h)]
  exact e _ _ q
end
end Rx

set_option Elab.async false
set_option linter.all false
set_option maxRecDepth 100000
set_option maxHeartbeats 4000000
namespace Rx
open PySem PySem.Spec PyProof.Rows L2 SX
/-! ### signs, words, numbers of a text -/
def isLet (c : Nat) : Bool := decide (97 ≤ c) && decide (c ≤ 122)
def isDig (c : Nat) : Bool := decide (48 ≤ c) && decide (c ≤ 57)
def lettersS : Str := "abcdefghijklmnopqrstuvwxyz"
def digitsS : Str := "0123456789"
def reservedL : List Str := ["and", "checkpoint", "else", "end", "if", "input", "mod", "not", "or", "process", "receive", "send", "set", "take", "while"]
def wordsL : List Str := ["and", "mod", "not", "or"]
def signsL : List Str := ["//", "!=", "<=", ">=", "+", "-", "*", "(", ")", "[", "]", "=", "<", ">"]
theorem let_mem (c : Nat) : decide (c ∈ lettersS.cps.toList) = isLet c := by
  have h : lettersS.cps.toList = List.range' 97 26 := by decide +kernel
  rw [h, Bool.eq_iff_iff]
  simp only [isLet, decide_eq_true_eq, Bool.and_eq_true, List.mem_range'_1]
  omega
theorem dig_mem (c : Nat) : decide (c ∈ digitsS.cps.toList) = isDig c := by
  have h : digitsS.cps.toList = List.range' 48 10 := by decide +kernel
  rw [h, Bool.eq_iff_iff]
  simp only [isDig, decide_eq_true_eq, Bool.and_eq_true, List.mem_range'_1]
  omega
def isName (cs : List Nat) : Bool := !(reservedL.contains (S cs)) && (decide (cs ≠ []) && (decide (cs.length ≤ 8) && cs.all isLet))
def isNum (cs : List Nat) : Bool := decide (cs ≠ []) && (decide (cs.length ≤ 30) && (!(decide (cs.head? = some 48) && decide (cs ≠ [48])) && cs.all isDig))
/-- the token at the head of a text: its sign, its worth, its size -/
def wordTok (w : List Nat) : Str × V × Nat := if wordsL.contains (S w) then (S w, .non, w.length) else if isName w then ("variable", .str (S w), w.length) else ("bad", .non, w.length)
def numTok (w : List Nat) : Str × V × Nat := if isNum w then ("number", .int (NumText.digitsVal w : Nat), w.length) else ("bad", .non, w.length)
def signTok (cs : List Nat) : Str × V × Nat := match signsL.find? (fun s => s.cps.toList.isPrefixOf cs) with
  | some s => (s, .non, s.length)
  | none => ("bad", .non, 1)
def tokAt (cs : List Nat) : Str × V × Nat := match cs with
  | [] => ("bad", .non, 1)
  | c :: _ => if isLet c then wordTok (cs.takeWhile isLet) else if isDig c then numTok (cs.takeWhile isDig) else signTok cs
theorem signTok_pos (cs : List Nat) : 1 ≤ (signTok cs).2.2 := by
  unfold signTok
  split
  · rename_i s h
    have hm := List.mem_of_find?_eq_some h
    have : ∀ s ∈ signsL, 1 ≤ s.length := by decide +kernel
    exact this s hm
  · exact Nat.le_refl _
theorem tokAt_pos (cs : List Nat) : 1 ≤ (tokAt cs).2.2 := by
  unfold tokAt
  split
  · exact Nat.le_refl _
  · rename_i c r
    split
    · rename_i h
      have hl : 1 ≤ ((c :: r).takeWhile isLet).length := by rw [List.takeWhile_cons, if_pos h]; simp
      unfold wordTok
      split
      · exact hl
      · split <;> exact hl
    · split
      · rename_i h
        have hl : 1 ≤ ((c :: r).takeWhile isDig).length := by rw [List.takeWhile_cons, if_pos h]; simp
        unfold numTok
        split <;> exact hl
      · exact signTok_pos _
/-- the tokens of the rest of a text that stands from the place at on -/
def toksF : Nat → Nat → List Nat → List (Str × V × Nat)
  | 0, at_, _ => [("end", .non, at_)]
  | _ + 1, at_, [] => [("end", .non, at_)]
  | n + 1, at_, c :: r => if c = 32 then toksF n (at_ + 1) r else ((tokAt (c :: r)).1, (tokAt (c :: r)).2.1, at_) :: toksF n (at_ + (tokAt (c :: r)).2.2) ((c :: r).drop (tokAt (c :: r)).2.2)
def toks (cs : List Nat) : List (Str × V × Nat) := toksF cs.length 0 cs
theorem toksF_fuel : ∀ (n m : Nat) (at_ : Nat) (cs : List Nat), cs.length ≤ n → cs.length ≤ m → toksF n at_ cs = toksF m at_ cs
  | 0, 0, _, _, _, _ => rfl
  | 0, m + 1, at_, [], _, _ => rfl
  | 0, m + 1, at_, c :: r, h, _ => by simp at h
  | n + 1, 0, at_, [], _, _ => rfl
  | n + 1, 0, at_, c :: r, _, h => by simp at h
  | n + 1, m + 1, at_, [], _, _ => rfl
  | n + 1, m + 1, at_, c :: r, h1, h2 => by
    simp only [List.length_cons] at h1 h2
    have hp := tokAt_pos (c :: r)
    unfold toksF
    rw [toksF_fuel n m (at_ + 1) r (by omega) (by omega), toksF_fuel n m _ ((c :: r).drop (tokAt (c :: r)).2.2) (by rw [List.length_drop, List.length_cons]; omega) (by rw [List.length_drop, List.length_cons]; omega)]
/-! ### constants of the module -/
/-- a written tuple -/
def KTup (K : PySem.W.Frag) (a : Addr) (xs : List V) : Prop := ∃ (o : Obj) (its : Array Value) (n : Nat), K.lookup a = some o ∧ o.cls = .type "tuple" ∧ o.data = .seq its n ∧ its.size ≤ sizeLine ∧ Vals xs its.toList
theorem KTup.sq {K : PySem.W.Frag} {a : Addr} {xs : List V} (h : KTup K a xs) (H : Hp) : SqT K H a xs := .inr h
theorem inV_strs (x : Str) (l : List Str) : inV (.str x) (l.map V.str) = l.contains x := by
  induction l with
  | nil => rfl
  | cons y l ih =>
    show (eqV (.str y) (.str x) || inV (.str x) (l.map V.str)) = _
    rw [ih, List.contains_cons]
    congr 1
    show decide (y = x) = (x == y)
    by_cases e : y = x
    · subst e; simp
    · have : ¬ x = y := fun z => e z.symm
      simp [e, this]
theorem flat_strs (l : List Str) : (l.map V.str).all flatV = true := by
  induction l with
  | nil => rfl
  | cons y l ih => rw [List.map_cons, List.all_cons, ih]; rfl
end Rx

set_option Elab.async false
set_option linter.all false
set_option maxRecDepth 100000
set_option maxHeartbeats 4000000
namespace Rx
open PySem PySem.Spec PyProof.Rows L2 SX
/-! ### what the reader of tokens does -/
def arithL : List Str := ["+", "-", "*", "//", "mod"]
def compL : List Str := ["=", "!=", "<", "<=", ">", ">="]
def prefL : List Str := ["not", "negate"]
def bindL : List (Str × Int) := [("or", 1), ("and", 2), ("not", 3), ("=", 4), ("!=", 4), ("<", 4), ("<=", 4), (">", 4), (">=", 4), ("+", 5), ("-", 5), ("*", 6), ("//", 6), ("mod", 6), ("negate", 7), ("number", 8), ("variable", 8)]
/-- what may stand among the operators -/
def opsL : List Str := ["or", "and", "not", "=", "!=", "<", "<=", ">", ">=", "+", "-", "*", "//", "mod", "negate", "(", "["]
def bindO (s : Str) : Option Int := bindL.lookup s
def bindOf (s : Str) : Int := (bindO s).getD (-1)
/-- the lists stand here with their last item first -/
structure RS where
  cond : Bool
  stage : Str
  cmp : Bool
  nodes : List PyData
  ops : List Str
  brs : List Str
def joinOp (x : Str) (ns : List PyData) : Option (List PyData) := if prefL.contains x then (match ns with
    | r :: t => some (.tuple [.str x, r] :: t)
    | [] => none) else (match ns with
    | r :: l :: t => some (.tuple [.str x, l, r] :: t)
    | _ => none)
def joinDown (b : Int) : List Str → List PyData → Option (List Str × List PyData)
  | [], ns => some ([], ns)
  | o :: os, ns => if b ≤ bindOf o then (match joinOp o ns with
    | some ns' => joinDown b os ns'
    | none => none) else some (o :: os, ns)
def RS.down (r : RS) (b : Int) : Option RS := (joinDown b r.ops r.nodes).map fun x => { r with ops := x.1, nodes := x.2 }
def begL : List Str := ["number", "variable", "-", "("]
def notL : List Str := ["not", "["]
def RS.starts (r : RS) : Bool := r.stage = "condition" || r.stage = "factor"
def RS.mayBegin (r : RS) (s : Str) : Bool := begL.contains s || (decide (r.stage = "condition") && notL.contains s)
def RS.mayFollow (r : RS) (s : Str) : Bool :=
  if (decide (r.stage = "expression") && arithL.contains s) = true then true
  else if r.brs.head? = some ("(" : Str) then decide (s = ")")
  else if r.cond = false then decide (s = "end")
  else if (decide (r.stage = "expression") && !r.cmp) = true then compL.contains s
  else if r.brs.head? = some ("[" : Str) then (["and", "or", "]"] : List Str).contains s
  else (["and", "or", "end"] : List Str).contains s
def RS.fits (r : RS) (s : Str) : Bool := if r.starts = true then r.mayBegin s else r.mayFollow s
/-- what a flat value is as data -/
def dOf : V → PyData
  | .int i => .int i
  | .str x => .str x
  | _ => .none
def FlatW (v : V) : Prop := v = .non ∨ (∃ i, v = .int i) ∨ ∃ x, v = .str x
theorem FlatW.dp {K : PySem.W.Frag} {H : Hp} {v : V} (h : FlatW v) : Dp K H v (dOf v) := by
  rcases h with rfl | ⟨i, rfl⟩ | ⟨x, rfl⟩
  · exact .non
  · exact .int i
  · exact .str x
theorem dOf_noList (v : V) : noList (dOf v) = true := by cases v <;> rfl
def RS.begin_ (r : RS) (s : Str) (v : V) : RS :=
  if s = "number" ∨ s = "variable" then { r with nodes := .tuple [.str s, dOf v] :: r.nodes, stage := "expression" }
  else if s = "-" then { r with ops := "negate" :: r.ops, stage := "factor" }
  else if s = "(" then { r with ops := s :: r.ops, brs := s :: r.brs, stage := "factor" }
  else if s = "[" then { r with ops := s :: r.ops, brs := s :: r.brs }
  else { r with ops := s :: r.ops }
def RS.close_ (r : RS) (s : Str) : Option RS := (r.down 0).bind fun q => match q.ops, q.brs with
  | _ :: os, _ :: bs => some { q with ops := os, brs := bs, stage := if s = "]" then "bracket" else "expression" }
  | _, _ => none
def RS.between (r : RS) (s : Str) : Option RS := (r.down (bindOf s)).map fun q =>
  if s = "and" ∨ s = "or" then { q with ops := s :: q.ops, stage := "condition", cmp := false }
  else { q with ops := s :: q.ops, stage := "factor", cmp := q.cmp || compL.contains s }
def RS.takeIn (r : RS) (s : Str) (v : V) : Option RS :=
  if r.starts = true then some (r.begin_ s v)
  else if s = ")" ∨ s = "]" then r.close_ s
  else if s = "end" then r.down 0
  else r.between s
def RS.start (c : Bool) : RS := ⟨c, if c = true then "condition" else "factor", false, [], [], []⟩
def runR : RS → List (Str × V × Nat) → Option RS
  | r, [] => some r
  | r, t :: ts => if r.fits t.1 = true then (r.takeIn t.1 t.2.1).bind fun q => runR q ts else none
/-! lengths -/
theorem joinOp_len {x : Str} {ns ms : List PyData} (h : joinOp x ns = some ms) : ms.length ≤ ns.length := by
  unfold joinOp at h
  split at h
  · split at h
    · injection h with h; subst h; simp
    · cases h
  · split at h
    · injection h with h; subst h; simp
    · cases h
theorem joinOp_nl {x : Str} {ns ms : List PyData} (h : joinOp x ns = some ms) (k : noListAll ns = true) : noListAll ms = true := by
  unfold joinOp at h
  split at h
  · split at h
    · injection h with h; subst h; simpa [noListAll, noList] using k
    · cases h
  · split at h
    · injection h with h; subst h
      simp only [noListAll, noList, Bool.and_eq_true, Bool.and_true, Bool.true_and] at k ⊢
      exact ⟨⟨k.2.1, k.1⟩, k.2.2⟩
    · cases h
theorem joinDown_len {b : Int} : ∀ {os : List Str} {ns : List PyData} {x : List Str × List PyData}, joinDown b os ns = some x → x.1.length ≤ os.length ∧ x.2.length ≤ ns.length ∧ (∀ o ∈ x.1, o ∈ os)
  | [], ns, x, h => by
    simp only [joinDown, Option.some.injEq] at h
    subst h
    simp
  | o :: os, ns, x, h => by
    unfold joinDown at h
    split at h
    · split at h
      · rename_i ms hm
        obtain ⟨h1, h2, h3⟩ := joinDown_len h
        have := joinOp_len hm
        exact ⟨by simp; omega, by omega, fun y hy => List.mem_cons_of_mem _ (h3 y hy)⟩
      · cases h
    · injection h with h
      subst h
      simp
theorem down_len {r q : RS} {b : Int} (h : r.down b = some q) : q.ops.length ≤ r.ops.length ∧ q.nodes.length ≤ r.nodes.length ∧ q.brs = r.brs ∧ q.stage = r.stage ∧ q.cmp = r.cmp ∧ q.cond = r.cond ∧ (∀ o ∈ q.ops, o ∈ r.ops) := by
  unfold RS.down at h
  obtain ⟨x, hx, rfl⟩ := Option.map_eq_some_iff.mp h
  obtain ⟨h1, h2, h3⟩ := joinDown_len hx
  exact ⟨h1, h2, rfl, rfl, rfl, rfl, h3⟩
/-- none of its lists has more than n items -/
structure Few (n : Nat) (r : RS) : Prop where
  nd : r.nodes.length ≤ n
  op : r.ops.length ≤ n
  br : r.brs.length ≤ n
theorem Few.down {n : Nat} {r q : RS} {b : Int} (f : Few n r) (h : r.down b = some q) : Few n q := by
  obtain ⟨h1, h2, h3, _⟩ := down_len h
  exact ⟨Nat.le_trans h2 f.nd, Nat.le_trans h1 f.op, by rw [h3]; exact f.br⟩
theorem Few.take {n : Nat} {r q : RS} {s : Str} {v : V} (f : Few n r) (h : r.takeIn s v = some q) : Few (n + 1) q := by
  have f1 := f.nd
  have f2 := f.op
  have f3 := f.br
  unfold RS.takeIn at h
  split at h
  · injection h with h
    subst h
    unfold RS.begin_
    split
    · exact ⟨by simp; omega, by simp; omega, by simp; omega⟩
    split
    · exact ⟨by simp; omega, by simp; omega, by simp; omega⟩
    split
    · exact ⟨by simp; omega, by simp; omega, by simp; omega⟩
    split
    · exact ⟨by simp; omega, by simp; omega, by simp; omega⟩
    · exact ⟨by simp; omega, by simp; omega, by simp; omega⟩
  split at h
  · unfold RS.close_ at h
    obtain ⟨q', h1, h2⟩ := Option.bind_eq_some_iff.mp h
    have g := f.down h1
    have g1 := g.nd
    have g2 := g.op
    have g3 := g.br
    split at h2
    · rename_i e1 e2
      injection h2 with h2
      subst h2
      rw [e1] at g2
      rw [e2] at g3
      simp only [List.length_cons] at g2 g3
      exact ⟨by simp; omega, by simp; omega, by simp; omega⟩
    · cases h2
  split at h
  · have g := f.down h
    exact ⟨Nat.le_succ_of_le g.nd, Nat.le_succ_of_le g.op, Nat.le_succ_of_le g.br⟩
  · unfold RS.between at h
    obtain ⟨q', h1, h2⟩ := Option.map_eq_some_iff.mp h
    have g := f.down h1
    have g1 := g.nd
    have g2 := g.op
    have g3 := g.br
    subst h2
    split
    · exact ⟨by simp; omega, by simp; omega, by simp; omega⟩
    · exact ⟨by simp; omega, by simp; omega, by simp; omega⟩
/-! ### get of a written dict -/
def KGet (K : PySem.W.Frag) (w : World) (a : Addr) (x : Str) (o : Option V) : Prop := ∃ es n r, K.lookup a = some ⟨.type "dict", none, .dict es n, #[]⟩ ∧ PySem.W.KeysLit w.params es.toList ∧ (a == sysModules) = false ∧ PySem.W.nsIn K a x = some r ∧
  (match o, r with
  | none, none => True
  | some v, some u => RelV v u
  | _, _ => False)
def tKGet2 (K : PySem.W.Frag) (w : World) (a : Addr) (td ty tx : TE) : TE := fun σ H Q => td σ H fun x H1 => x = .ref a ∧ ty σ H1 fun y H2 => tx σ H2 fun z H3 => ∃ k o, y = .str k ∧ KGet K w a k o ∧ Q (o.getD z) H3
section
variable {X : Cx} {o e f : Expr} {td ty tx : TE} {apos cpos : Pos} {a : Addr}
theorem pe_kget2 (hex : ∃ es n, X.K.lookup a = some ⟨.type "dict", none, .dict es n, #[]⟩ ∧ PySem.W.KeysLit X.w.params es.toList) (ho : PE X o td) (he : PE X e ty) (hf : PE X f tx) (m : M2 X o "get" apos e f cpos) : PE X (.Call (.Attribute o "get" apos) [e, f] [] cpos) (tKGet2 X.K X.w a td ty tx) := by
  refine ⟨fun pins s σ H Q I h => ?_⟩
  refine wpAny_Call_method m.base m.few m.line PySem.F.plainAttrs_dict PySem.F.slot_dict_get PySem.F.type_dict_get (thn (ho.run pins s σ H _ I h) fun u s1 ⟨x, H1, I1, rx, ex, q1⟩ => ?_)
  subst ex
  obtain rfl : u = Value.ref a := rx
  obtain ⟨es, n, hl, hk⟩ := hex
  have dd := PySem.W.mapOf_K (prog := X.prog) (w := X.w) I1.kIn hl hk
  refine ⟨dd.typeIs, fun b q => ?_, ?_⟩
  · cases q
    exact ⟨_, I1.kIn _ _ hl, rfl⟩
  rw [m.trees]
  refine Calls.callWith_builtin rfl (Calls.evalArgs_plain (Calls.spliced_cons (thn (he.run pins s1 σ H1 _ I1 q1) fun iv s2 ⟨y, H2, I2, ry, q2⟩ =>
    Calls.spliced_cons (thn (hf.run pins s2 σ H2 _ I2 q2) fun fv s3 ⟨z, H3, I3, rz, k, ov, ey, g, q3⟩ => Calls.spliced_nil ?_))))
  subst ey
  obtain ⟨t, rfl⟩ := (show ∃ t, iv = Value.str k t from ry)
  obtain ⟨es', n', r, hl', hk', low, hn, rel⟩ := g
  have dd3 := PySem.W.mapOf_K (prog := X.prog) (w := X.w) I3.kIn hl' hk'
  refine call_meetsIn PySem.F.slot_dict_get dd3.typeIs PySem.F.entry_dict_get (PySem.F.args_dict_get_3 _ _ _) (meets_dict_get_default (strKind X.prog X.w) a (strKind_is X.prog X.w k t) low fv) ⟨_, dd3, ?_⟩
  rw [PySem.W.find_K hl' hn]
  refine ⟨ov.getD z, H3, I3.tok _, ?_, q3⟩
  cases ov with
  | none =>
    cases r with
    | none => exact rz
    | some u => exact rel.elim
  | some v =>
    cases r with
    | none => exact rel.elim
    | some u => exact rel
end
end Rx

set_option Elab.async false
set_option linter.all false
set_option maxRecDepth 100000
set_option maxHeartbeats 4000000
namespace XE
open PySem PySem.Spec PyProof.Rows L2 Rx SX
def topS (i : Nat) : Stmt := PySem.Challenge.pw_rerunrein_k13_blocks_that_do_not_fit.main.body.getD i (.Pass ⟨0, 0, 0, 0⟩)
abbrev sIsName : Stmt := topS 7
abbrev sIsNumber : Stmt := topS 8
abbrev sTokens : Stmt := topS 26
abbrev sTokenAt : Stmt := topS 27
abbrev sRunOf : Stmt := topS 28
abbrev sWordTok : Stmt := topS 29
abbrev sNumTok : Stmt := topS 30
/-- a def of the module, as its callers see it -/
structure Cal (P : Program) (w : World) (K : PySem.W.Frag) (mg : Str → Option Value) (base : Heap) (k : Nat) (x : Str) (f : Addr) (fd : FuncData) (ps : List Str) (sp : Sp) : Prop where
  ok : FnOk P w K mg base CX0 k f fd ps sp
  mg : mg x = some (.ref f)
  kp : PySem.W.keepIn K (.ref f) = true
  bi : Binds K fd ps []
structure TxtX (K : PySem.W.Frag) (mg : Str → Option Value) : Prop where
  letters : ∃ t, mg "LETTERS" = some (.str lettersS t)
  digits : ∃ t, mg "DIGITS" = some (.str digitsS t)
  nlen : ∃ t, mg "NAME_LENGTH" = some (.int 8 t)
  most : ∃ t, mg "MOST_DIGITS" = some (.int 30 t)
  res : ∃ a, mg "RESERVED" = some (.ref a) ∧ KTup K a (reservedL.map V.str)
  words : ∃ a, mg "WORDS" = some (.ref a) ∧ KTup K a (wordsL.map V.str)
  signs : ∃ a, mg "SIGNS" = some (.ref a) ∧ KTup K a (signsL.map V.str)
  len : mg "len" = none
  isi : mg "isinstance" = none
  all_ : mg "all" = none
  int_ : mg "int" = none
  str_ : mg "str" = none
/-- a text goes in, a truth comes out -/
def spTest (p : List Nat → Bool) : Sp := fun vs H Q _ => ∃ z : Str, vs = [.str z] ∧ z.length ≤ 100000 ∧ ∀ H', Same H H' → Q (.bl (p z.cps.toList)) H'
section
variable {P : Program} {w : World} {K : PySem.W.Frag} {mg : Str → Option Value} {base : Heap}
theorem iteTc {c : Bool} {A B : Prop} (h : c = true) (a : A) : if c = true then A else B := by rw [if_pos h]; exact a
theorem iteFc {c : Bool} {A B : Prop} (h : c = false) (b : B) : if c = true then A else B := by rw [if_neg (by rw [h]; decide)]; exact b
theorem len_tl (z : Str) : z.cps.toList.length = z.length := by simp [Str.length]
theorem nil_tl (z : Str) : (z = ("" : Str)) ↔ z.cps.toList = [] := by
  constructor
  · intro h; subst h; decide +kernel
  · intro h
    have := S_tl z
    rw [h] at this
    exact this.symm
/-- the list of answers, sign by sign -/
theorem all_read {z : Str} {p : Nat → Bool} {D : Addr} {H : Hp} {Q : VK} (h : ∃ bs : List Bool, H D = some (.lst (bs.map V.bl)) ∧ bs = z.cps.toList.map p) (k : Q (.bl (z.cps.toList.all p)) H) :
    ∃ a bs, [V.ref D] = [V.ref a] ∧ SqL K H a (List.map V.bl bs) ∧ Q (.bl (bs.all id)) H := by
  obtain ⟨bs, h1, h2⟩ := h
  refine ⟨D, bs, rfl, SqL.of h1, ?_⟩
  rw [h2, List.all_map]
  exact k
theorem scIN : FnScope ["thing", "letter"] ["thing"] (defScope sIsName) := ⟨rfl, rfl, rfl, by decide +kernel, rfl, by decide +kernel, by decide +kernel⟩
theorem ok_isName {f : Addr} {fd : FuncData} (F : Fun K "is_name" "is_name" sIsName f fd) (T : TxtX K mg) : FnOk P w K mg base CX0 1 f fd ["thing"] (spTest isName) := by
  obtain ⟨tL, mL⟩ := T.letters
  obtain ⟨tN, mN⟩ := T.nlen
  obtain ⟨aR, mR, kR⟩ := T.res
  refine F.ok scIN (fun vs H Q E h => ?_) (fun cdv A outer s H vs Q E hr h => ?_)
  · obtain ⟨z, rfl, _⟩ := h
    rfl
  · obtain ⟨z, rfl, hz, k⟩ := h
    have hz' : z.length ≤ sizeLine := Nat.le_trans hz (by decide)
    refine ⟨_, pss_cons (ps_if (PW.pt (pw_or (pt_not (pt_val (pe_callB call_isi (by rfl) T.isi (by decide +kernel) (pa_cons (pv 0) (pa_cons (pe_bltn (v := .ty "str") (by rfl) T.str_ (by decide +kernel) rfl) pa_nil))))) (pw_or1 (pt_cmpR op_in_seq (pv 0) (pe_glob (v := .ref aR) rfl mR rfl) (by rfl))))) (pss_one (ps_ret pe_bl)) pss_nil)
      (pss_cons (ps_if (PW.pt (pw_or (pt_cmpR op_eq (pv 0) pe_str (nomark _)) (pw_or1 (pt_cmpR op_gt (pe_callB call_len_str (by rfl) T.len PySem.boot_len (pa_cons (pv 0) pa_nil)) (pe_glob (v := .int 8) rfl mN ⟨_, rfl⟩) (nomark _))))) (pss_one (ps_ret pe_bl)) pss_nil)
      (pss_one (ps_ret (pe_callB (cr_all rfl) (by rfl) T.all_ (by decide +kernel) (pa_cons (pe_lc (own := [("letter", 1)]) (g := gName 1) (tt := tYes) rfl scIN.nd (pi_str (pv 0))
          (blkOk_by (own := [("letter", 1)]) (N := ["thing", "letter"]) (sc := defScope sIsName) (by decide +kernel)) (fun _ _ _ _ _ => pg_name (i := 1) scIN.nd rfl (Or.inl rfl)) (fun _ _ _ _ _ => pts_nil)
          (fun _ _ _ _ _ => pe_cmpR op_in_sign (pv 1) (pe_glob (v := .str lettersS) rfl mL ⟨_, rfl⟩) (by rfl))) pa_nil))))), ?_⟩
    refine ⟨_, rfl, _, _, _, _, _, rfl, .ty "str", .base (.str z), kit_ty (b := "str") (r := true) (by decide +kernel), _, rfl, iteFc rfl ?_⟩
    refine ⟨_, rfl, aR, _, rfl, .inr (kR.sq H), rfl, flat_strs _, _, rfl, ?_⟩
    have nm : isName z.cps.toList = (!(reservedL.contains z) && (decide (z.cps.toList ≠ []) && (decide (z.cps.toList.length ≤ 8) && z.cps.toList.all isLet))) := by unfold isName; rw [S_tl]
    show if inV (.str z) (reservedL.map V.str) = true then _ else _
    rw [inV_strs]
    cases hres : reservedL.contains z with
    | true =>
      refine iteTc rfl ?_
      have := k H (Same.refl H)
      rw [nm, hres] at this
      exact this
    | false =>
      refine iteFc rfl ?_
      rw [hres] at nm
      refine ⟨_, rfl, rfl, _, rfl, ite2 (fun e => ?_) (fun e => ?_)⟩
      · have e' : z = ("" : Str) := by
          have := of_decide_eq_true e
          injection this
        have := k H (Same.refl H)
        rw [nm, (nil_tl z).mp e'] at this
        exact this
      · have e' : z.cps.toList ≠ [] := fun q => e (decide_eq_true (by rw [(nil_tl z).mpr q]))
        refine ⟨_, rfl, z, rfl, hz', _, _, rfl, rfl, _, rfl, ite2 (fun e2 => ?_) (fun e2 => ?_)⟩
        · have e2' : ¬ z.cps.toList.length ≤ 8 := by
            have := of_decide_eq_true e2
            rw [len_tl]
            omega
          have := k H (Same.refl H)
          rw [nm, decide_eq_false e2', Bool.false_and, Bool.and_false] at this
          exact this
        · have e2' : z.cps.toList.length ≤ 8 := by
            have : ¬ ((8 : Int) < (z.length : Int)) := fun q => e2 (decide_eq_true q)
            rw [len_tl]
            omega
          refine ⟨_, rfl, z, rfl, fun D hD => ?_⟩
          refine lc_it walk_str (fun i Hx => Hx D = some (.lst (((z.cps.toList.take i).map isLet).map V.bl)) ∧ Same H Hx) ⟨upd_same, same_new hD⟩ (fun _ _ _ _ => trivial) ?_ ?_
          · rintro i x Hx H' hi ⟨h1, h2⟩ ⟨rfl, c, hc, rfl⟩
            refine ⟨rfl, ?_⟩
            dsimp only [tYes]
            rw [if_pos rfl]
            refine ⟨_, rfl, c, lettersS, rfl, rfl, _, h1, ?_, ?_, same_upd h2 hD⟩
            · rw [List.length_map, List.length_map, List.length_take]
              exact Nat.lt_of_le_of_lt (Nat.min_le_right _ _) (Nat.lt_of_le_of_lt (by rw [len_tl]; exact hz) (by decide))
            · rw [upd_same, let_mem]
              have hc' : z.cps.toList[i]? = some c := by rw [Array.getElem?_toList]; exact hc
              rw [List.take_add_one, hc', List.map_append, List.map_append]
              rfl
          · rintro Hx ⟨h1, h2⟩
            refine all_read (K := K) (p := isLet) (z := z) ⟨_, h1, ?_⟩ ?_
            · rw [List.take_of_length_le (by simp)]
            · have := k Hx h2
              rw [nm, decide_eq_true e', decide_eq_true e2'] at this
              simpa using this
end
end XE

set_option Elab.async false
set_option linter.all false
set_option maxRecDepth 100000
set_option maxHeartbeats 4000000
namespace XE
open PySem PySem.Spec PyProof.Rows L2 Rx SX
section
variable {P : Program} {w : World} {K : PySem.W.Frag} {mg : Str → Option Value} {base : Heap}
theorem scNU : FnScope ["text", "digit"] ["text"] (defScope sIsNumber) := ⟨rfl, rfl, rfl, by decide +kernel, rfl, by decide +kernel, by decide +kernel⟩
theorem one_eq (c : Nat) : (V.str ⟨#[c]⟩ = V.str "0") ↔ c = 48 := by
  constructor
  · intro h
    injection h with h
    have := congrArg (fun s : Str => s.cps.toList) h
    have e : (("0" : Str)).cps.toList = [48] := by decide +kernel
    rw [e] at this
    simpa using this
  · intro h; subst h; decide +kernel
theorem zero_eq (z : Str) : (V.str z = V.str "0") ↔ z.cps.toList = [48] := by
  constructor
  · intro h
    injection h with h
    rw [h]; decide +kernel
  · intro h
    have := S_tl z
    rw [h] at this
    rw [← this]; decide +kernel
theorem ok_isNumber {f : Addr} {fd : FuncData} (F : Fun K "is_number" "is_number" sIsNumber f fd) (T : TxtX K mg) : FnOk P w K mg base CX0 1 f fd ["text"] (spTest isNum) := by
  obtain ⟨tD, mD⟩ := T.digits
  obtain ⟨tM, mM⟩ := T.most
  refine F.ok scNU (fun vs H Q E h => ?_) (fun cdv A outer s H vs Q E hr h => ?_)
  · obtain ⟨z, rfl, _⟩ := h
    rfl
  · obtain ⟨z, rfl, hz, k⟩ := h
    have hz' : z.length ≤ sizeLine := Nat.le_trans hz (by decide)
    refine ⟨_, pss_cons (ps_if (PW.pt (pw_or (pt_cmpR op_eq (pv 0) pe_str (nomark _)) (pw_or1 (pt_cmpR op_gt (pe_callB call_len_str (by rfl) T.len PySem.boot_len (pa_cons (pv 0) pa_nil)) (pe_glob (v := .int 30) rfl mM ⟨_, rfl⟩) (nomark _))))) (pss_one (ps_ret pe_bl)) pss_nil)
      (pss_cons (ps_if (PW.pt (pw_and (pt_cmpR op_eq (pe_ix ix_str (pv 0) pe_int (fun _ _ => rfl)) pe_str (nomark _)) (pw_and1 (pt_cmpR op_ne (pv 0) pe_str (nomark _))))) (pss_one (ps_ret pe_bl)) pss_nil)
      (pss_one (ps_ret (pe_callB (cr_all rfl) (by rfl) T.all_ (by decide +kernel) (pa_cons (pe_lc (own := [("digit", 1)]) (g := gName 1) (tt := tYes) rfl scNU.nd (pi_str (pv 0))
          (blkOk_by (own := [("digit", 1)]) (N := ["text", "digit"]) (sc := defScope sIsNumber) (by decide +kernel)) (fun _ _ _ _ _ => pg_name (i := 1) scNU.nd rfl (Or.inl rfl)) (fun _ _ _ _ _ => pts_nil)
          (fun _ _ _ _ _ => pe_cmpR op_in_sign (pv 1) (pe_glob (v := .str digitsS) rfl mD ⟨_, rfl⟩) (by rfl))) pa_nil))))), ?_⟩
    refine ⟨_, rfl, rfl, _, rfl, ite2 (fun e => ?_) (fun e => ?_)⟩
    · have e' : z = ("" : Str) := by
        have := of_decide_eq_true e
        injection this
      have := k H (Same.refl H)
      rw [isNum, (nil_tl z).mp e'] at this
      exact this
    have e' : z.cps.toList ≠ [] := fun q => e (decide_eq_true (by rw [(nil_tl z).mpr q]))
    refine ⟨_, rfl, z, rfl, hz', _, _, rfl, rfl, _, rfl, ite2 (fun e2 => ?_) (fun e2 => ?_)⟩
    · have e2' : ¬ z.cps.toList.length ≤ 30 := by
        have := of_decide_eq_true e2
        rw [len_tl]
        omega
      have := k H (Same.refl H)
      rw [isNum, decide_eq_false e2', Bool.false_and, Bool.and_false] at this
      exact this
    have e2' : z.cps.toList.length ≤ 30 := by
      have : ¬ ((30 : Int) < (z.length : Int)) := fun q => e2 (decide_eq_true q)
      rw [len_tl]
      omega
    obtain ⟨c, r, hcr⟩ := List.exists_cons_of_ne_nil e'
    have base_ : isNum z.cps.toList = (!(decide (c = 48) && decide (z.cps.toList ≠ [48])) && z.cps.toList.all isDig) := by
      unfold isNum
      rw [decide_eq_true e', decide_eq_true e2', Bool.true_and, Bool.true_and]
      rw [show decide (z.cps.toList.head? = some 48) = decide (c = 48) by rw [hcr]; simp]
    refine ⟨_, rfl, z, 0, c, rfl, rfl, hz', (by rw [hcr]; exact atI_nat (j := 0) rfl), rfl, _, rfl, ite2 (fun e3 => ?_) (fun e3 => ?_)⟩
    case' _ => 
      have e3' : c = 48 := (one_eq c).mp (of_decide_eq_true e3)
      refine ⟨_, rfl, rfl, _, rfl, ite2 (fun e4 => ?_) (fun e4 => ?_)⟩
      · have e4' : z.cps.toList ≠ [48] := fun q => by
          rw [decide_eq_true ((zero_eq z).mpr q)] at e4
          cases e4
        have := k H (Same.refl H)
        rw [base_, decide_eq_true e3', decide_eq_true e4'] at this
        exact this
    all_goals
      have ok : (!(decide (c = 48) && decide (z.cps.toList ≠ [48]))) = true := by
        first
          | (have e3' : c ≠ 48 := fun q => e3 (decide_eq_true ((one_eq c).mpr q)); simp [e3'])
          | (have e4' : z.cps.toList = [48] := Classical.byContradiction fun q => e4 (by rw [decide_eq_false (fun p => q ((zero_eq z).mp p))]; rfl); simp [e4'])
      refine ⟨_, rfl, z, rfl, fun D hD => ?_⟩
      refine lc_it walk_str (fun i Hx => Hx D = some (.lst (((z.cps.toList.take i).map isDig).map V.bl)) ∧ Same H Hx) ⟨upd_same, same_new hD⟩ (fun _ _ _ _ => trivial) ?_ ?_
      · rintro i x Hx H' hi ⟨h1, h2⟩ ⟨rfl, c, hc, rfl⟩
        refine ⟨rfl, ?_⟩
        dsimp only [tYes]
        rw [if_pos rfl]
        refine ⟨_, rfl, c, digitsS, rfl, rfl, _, h1, ?_, ?_, same_upd h2 hD⟩
        · rw [List.length_map, List.length_map, List.length_take]
          exact Nat.lt_of_le_of_lt (Nat.min_le_right _ _) (Nat.lt_of_le_of_lt (by rw [len_tl]; exact hz) (by decide))
        · rw [upd_same, dig_mem]
          have hc' : z.cps.toList[i]? = some c := by rw [Array.getElem?_toList]; exact hc
          rw [List.take_add_one, hc', List.map_append, List.map_append]
          rfl
      · rintro Hx ⟨h1, h2⟩
        refine all_read (K := K) (p := isDig) (z := z) ⟨_, h1, ?_⟩ ?_
        · rw [List.take_of_length_le (by simp)]
        · have := k Hx h2
          rw [base_, ok] at this
          simpa using this
/-! ### run_of -/
/-- the longest part from a place on that has these signs only -/
def spRun : Sp := fun vs H Q _ => ∃ (ch z : Str) (p : Nat → Bool) (at_ : Nat), vs = [.str ch, .str z, .int at_] ∧ z.length ≤ 100000 ∧ at_ ≤ z.length ∧ (∀ c, decide (c ∈ ch.cps.toList) = p c) ∧ Q (.str (S ((z.cps.toList.drop at_).takeWhile p))) H
theorem scRO : FnScope ["characters", "text", "at", "end"] ["characters", "text", "at"] (defScope sRunOf) := ⟨rfl, rfl, rfl, by decide +kernel, rfl, by decide +kernel, by decide +kernel⟩
theorem takeWhile_stop {p : Nat → Bool} : ∀ (l : List Nat) (n : Nat), (∀ c ∈ l.take n, p c = true) → (∀ c, l[n]? = some c → p c = false) → n ≤ l.length → l.takeWhile p = l.take n
  | [], n, _, _, _ => by simp
  | x :: l, 0, _, h2, _ => by
    have := h2 x rfl
    rw [List.takeWhile_cons, if_neg (by rw [this]; decide)]
    simp
  | x :: l, n + 1, h1, h2, h3 => by
    have hx : p x = true := h1 x (by simp)
    rw [List.takeWhile_cons, if_pos hx, List.take_succ_cons, takeWhile_stop l n (fun c hc => h1 c (by simp [hc])) (fun c hc => h2 c (by simpa using hc)) (by simpa using h3)]
theorem ok_runOf {f : Addr} {fd : FuncData} (F : Fun K "run_of" "run_of" sRunOf f fd) (T : TxtX K mg) : FnOk P w K mg base CX0 1 f fd ["characters", "text", "at"] spRun := by
  refine F.ok scRO (fun vs H Q E h => ?_) (fun cdv A outer s H vs Q E hr h => ?_)
  · obtain ⟨ch, z, p, at_, rfl, _⟩ := h
    rfl
  · obtain ⟨ch, z, p, at_, rfl, hz, hat, hp, k⟩ := h
    have hz' : z.length ≤ sizeLine := Nat.le_trans hz (by decide)
    have hlen := len_tl z
    refine ⟨_, pss_cons (ps_set (i := 3) scRO.nd rfl (.inl rfl) (pv 2))
      (pss_cons (ps_while PassesOwn.never (PW.pt (pw_and (pt_cmpR op_lt (pv 3) (pe_callB call_len_str (by rfl) T.len PySem.boot_len (pa_cons (pv 1) pa_nil)) (nomark _)) (pw_and1 (pt_cmpR op_in_sign (pe_ix ix_str (pv 1) (pv 3) (fun _ _ => rfl)) (pv 0) (by rfl)))))
        (pss_one (ps_aug (i := 3) scRO.nd rfl (.inl rfl) pe_int ip_add)))
      (pss_one (ps_ret (pe_slice sl_str (pv 1) (po_some (pv 2)) (po_some (pv 3)))))), ?_⟩
    refine ⟨_, rfl, ?_⟩
    refine ⟨fun m σ H' => ∃ e : Nat, m = z.length - e ∧ σ = [some (.str ch), some (.str z), some (.int at_), some (.int e)] ∧ H' = H ∧ at_ ≤ e ∧ e ≤ z.length ∧ ∀ c ∈ (z.cps.toList.drop at_).take (e - at_), p c = true, ⟨_, at_, rfl, rfl, rfl, Nat.le_refl _, hat, by simp⟩, ?_⟩
    rintro m σ H' ⟨e, rfl, rfl, rfl, h1, h2, h3⟩
    have done : (∀ c, z.cps.toList[e]? = some c → p c = false) → (z.cps.toList.drop at_).takeWhile p = (z.cps.toList.drop at_).take (e - at_) := fun hs => by
      refine takeWhile_stop _ _ h3 (fun c hc => hs c ?_) (by rw [List.length_drop, hlen]; omega)
      rw [List.getElem?_drop, show at_ + (e - at_) = e by omega] at hc
      exact hc
    have out : (∀ c, z.cps.toList[e]? = some c → p c = false) → Q (.str (cutS z (some (at_ : Int)) (some (e : Int)))) H' := fun hs => by
      have e1 : cutS z (some (at_ : Int)) (some (e : Int)) = S ((z.cps.toList.drop at_).takeWhile p) := by
        rw [done hs]
        unfold cutS
        rw [HT.sIx_nat, HT.sIx_nat, Nat.min_eq_left hat, Nat.min_eq_left h2]
      rw [e1]
      exact k
    refine ⟨_, rfl, _, rfl, z, rfl, hz', _, _, rfl, rfl, _, rfl, ite2 (fun e1 => ?_) (fun e1 => ?_)⟩
    · have hlt : e < z.length := by
        have := of_decide_eq_true e1
        omega
      have hlt' : e < z.cps.toList.length := by rw [hlen]; exact hlt
      refine ⟨_, rfl, _, rfl, z, e, z.cps.toList[e], rfl, rfl, hz', atI_nat (List.getElem?_eq_getElem hlt'), _, rfl, _, ch, rfl, rfl, _, rfl, ?_⟩
      rw [hp]
      cases hpc : p z.cps.toList[e] with
      | true =>
        refine iteTc rfl ⟨_, fun σ' H'' h => h, _, rfl, _, _, rfl, rfl, z.length - (e + 1), by omega, e + 1, rfl, (by rw [Int.natCast_add]; rfl), rfl, by omega, by omega, fun c hc => ?_⟩
        rw [show e + 1 - at_ = (e - at_) + 1 by omega, List.take_add_one] at hc
        rcases List.mem_append.mp hc with hc | hc
        · exact h3 c hc
        · rw [List.getElem?_drop, show at_ + (e - at_) = e by omega, List.getElem?_eq_getElem hlt'] at hc
          simp at hc
          rw [hc]
          exact hpc
      | false =>
        refine iteFc rfl ⟨_, rfl, _, rfl, _, rfl, _, rfl, _, rfl, z, rfl, hz', out fun c hc => ?_⟩
        rw [List.getElem?_eq_getElem hlt'] at hc
        cases hc
        exact hpc
    · have hge : z.length ≤ e := by
        have : ¬ ((e : Int) < (z.length : Int)) := fun q => e1 (decide_eq_true q)
        omega
      refine iteFc rfl ⟨_, rfl, _, rfl, _, rfl, _, rfl, _, rfl, z, rfl, hz', out fun c hc => ?_⟩
      have := (List.getElem?_eq_some_iff.mp hc).1
      rw [hlen] at this
      omega
end
end XE

set_option Elab.async false
set_option linter.all false
set_option maxRecDepth 100000
set_option maxHeartbeats 4000000
namespace XE
open PySem PySem.Spec PyProof.Rows L2 Rx SX
/-- a token comes out, as a new tuple -/
def Tok3 (H : Hp) (t : Addr) (x : Str × V × Nat) : Prop := H t = some (.tup [.str x.1, x.2.1, .int x.2.2])
def spTok (g : List Nat → Str × V × Nat) : Sp := fun vs H Q _ => ∃ z : Str, vs = [.str z] ∧ z.length ≤ 100000 ∧ (∀ c ∈ z.cps.toList, isDig c = true ∨ g = wordTok) ∧ z.cps.toList ≠ [] ∧ ∀ H' t, Same H H' → Tok3 H' t (g z.cps.toList) → Q (.ref t) H'
section
variable {P : Program} {w : World} {K : PySem.W.Frag} {mg : Str → Option Value} {base : Heap}
theorem scWT : FnScope ["word"] ["word"] (defScope sWordTok) := ⟨rfl, rfl, rfl, by decide +kernel, rfl, by decide +kernel, by decide +kernel⟩
theorem ok_wordTok {f fN : Addr} {fd fdN : FuncData} (F : Fun K "word_token" "word_token" sWordTok f fd) (T : TxtX K mg) (CN : Cal P w K mg base 1 "is_name" fN fdN ["thing"] (spTest isName)) : FnOk P w K mg base CX0 2 f fd ["word"] (spTok wordTok) := by
  obtain ⟨aW, mW, kW⟩ := T.words
  refine F.ok scWT (fun vs H Q E h => ?_) (fun cdv A outer s H vs Q E hr h => ?_)
  · obtain ⟨z, rfl, _⟩ := h
    rfl
  · obtain ⟨z, rfl, hz, _, _, k⟩ := h
    have hz' : z.length ≤ sizeLine := Nat.le_trans hz (by decide)
    have hlen := len_tl z
    refine ⟨_, pss_cons (ps_if (pt_cmpR op_in_seq (pv 0) (pe_glob (v := .ref aW) rfl mW rfl) (by rfl)) (pss_one (ps_ret (pe_tup (pa_cons (pv 0) (pa_cons pe_non (pa_cons (pe_callB call_len_str (by rfl) T.len PySem.boot_len (pa_cons (pv 0) pa_nil)) pa_nil)))))) pss_nil)
      (pss_cons (ps_if (pt_val (pe_call CN.ok hr rfl CN.mg CN.kp CN.bi .nil pass0 (pa_cons (pv 0) pa_nil))) (pss_one (ps_ret (pe_tup (pa_cons pe_str (pa_cons (pv 0) (pa_cons (pe_callB call_len_str (by rfl) T.len PySem.boot_len (pa_cons (pv 0) pa_nil)) pa_nil)))))) pss_nil)
      (pss_one (ps_ret (pe_tup (pa_cons pe_str (pa_cons pe_non (pa_cons (pe_callB call_len_str (by rfl) T.len PySem.boot_len (pa_cons (pv 0) pa_nil)) pa_nil))))))), ?_⟩
    refine ⟨_, rfl, aW, _, rfl, .inr (kW.sq H), rfl, flat_strs _, _, rfl, ?_⟩
    show if inV (.str z) (wordsL.map V.str) = true then _ else _
    rw [inV_strs]
    cases hw : wordsL.contains z with
    | true =>
      have e : wordTok z.cps.toList = (z, V.non, z.length) := by unfold wordTok; rw [S_tl, hw, hlen]; rfl
      refine iteTc rfl ⟨_, rfl, _, rfl, z, rfl, hz', (by show 3 ≤ sizeLine; decide), fun t nt => k _ t (same_new nt) ?_⟩
      rw [e]
      exact upd_same
    | false =>
      refine iteFc rfl ⟨_, rfl, z, rfl, hz, fun H1 s1 => ⟨_, rfl, ?_⟩⟩
      cases hn : isName z.cps.toList with
      | true =>
        have e : wordTok z.cps.toList = (Str.ofString "variable", V.str z, z.length) := by unfold wordTok; rw [S_tl, hw, hn, hlen]; rfl
        refine iteTc rfl ⟨_, rfl, _, rfl, z, rfl, hz', (by show 3 ≤ sizeLine; decide), fun t nt => k _ t (s1.trans (same_new nt)) ?_⟩
        rw [e]
        exact upd_same
      | false =>
        have e : wordTok z.cps.toList = (Str.ofString "bad", V.non, z.length) := by unfold wordTok; rw [S_tl, hw, hn, hlen]; rfl
        refine iteFc rfl ⟨_, rfl, z, rfl, hz', (by show 3 ≤ sizeLine; decide), fun t nt => k _ t (s1.trans (same_new nt)) ?_⟩
        rw [e]
        exact upd_same
theorem scNT : FnScope ["digits"] ["digits"] (defScope sNumTok) := ⟨rfl, rfl, rfl, by decide +kernel, rfl, by decide +kernel, by decide +kernel⟩
theorem ok_numTok {f fN : Addr} {fd fdN : FuncData} (F : Fun K "number_token" "number_token" sNumTok f fd) (T : TxtX K mg) (CN : Cal P w K mg base 1 "is_number" fN fdN ["text"] (spTest isNum)) : FnOk P w K mg base CX0 2 f fd ["digits"] (spTok numTok) := by
  refine F.ok scNT (fun vs H Q E h => ?_) (fun cdv A outer s H vs Q E hr h => ?_)
  · obtain ⟨z, rfl, _⟩ := h
    rfl
  · obtain ⟨z, rfl, hz, _, hne, k⟩ := h
    have hz' : z.length ≤ sizeLine := Nat.le_trans hz (by decide)
    have hlen := len_tl z
    refine ⟨_, pss_cons (ps_if (pt_val (pe_call CN.ok hr rfl CN.mg CN.kp CN.bi .nil pass0 (pa_cons (pv 0) pa_nil))) (pss_one (ps_ret (pe_tup (pa_cons pe_str (pa_cons (pe_callTy call_int_str (by rfl) T.int_ (by decide +kernel) (pa_cons (pv 0) pa_nil)) (pa_cons (pe_callB call_len_str (by rfl) T.len PySem.boot_len (pa_cons (pv 0) pa_nil)) pa_nil)))))) pss_nil)
      (pss_one (ps_ret (pe_tup (pa_cons pe_str (pa_cons pe_non (pa_cons (pe_callB call_len_str (by rfl) T.len PySem.boot_len (pa_cons (pv 0) pa_nil)) pa_nil)))))), ?_⟩
    refine ⟨_, rfl, z, rfl, hz, fun H1 s1 => ⟨_, rfl, ?_⟩⟩
    cases hn : isNum z.cps.toList with
    | true =>
      have e : numTok z.cps.toList = (Str.ofString "number", V.int (NumText.digitsVal z.cps.toList : Nat), z.length) := by unfold numTok; rw [hn, hlen]; rfl
      have hn2 := hn
      unfold isNum at hn2
      simp only [Bool.and_eq_true, decide_eq_true_eq] at hn2
      obtain ⟨_, h30, _, hall⟩ := hn2
      have hi : intText? z = some ((NumText.digitsVal z.cps.toList : Nat) : Int) := by
        have := int_S (a := z.cps.toList) hall hne (by omega)
        rw [S_tl] at this
        exact this
      refine iteTc rfl ⟨_, rfl, z, _, rfl, hi, (by omega), _, rfl, z, rfl, hz', (by show 3 ≤ sizeLine; decide), fun t nt => k _ t (s1.trans (same_new nt)) ?_⟩
      rw [e]
      exact upd_same
    | false =>
      have e : numTok z.cps.toList = (Str.ofString "bad", V.non, z.length) := by unfold numTok; rw [hn, hlen]; rfl
      refine iteFc rfl ⟨_, rfl, z, rfl, hz', (by show 3 ≤ sizeLine; decide), fun t nt => k _ t (s1.trans (same_new nt)) ?_⟩
      rw [e]
      exact upd_same
/-! ### token_at -/
def spTokenAt : Sp := fun vs H Q _ => ∃ (z : Str) (at_ : Nat), vs = [.str z, .int at_] ∧ z.length ≤ 100000 ∧ at_ < z.length ∧ ∀ H' t, Same H H' → Tok3 H' t (tokAt (z.cps.toList.drop at_)) → Q (.ref t) H'
theorem scTA : FnScope ["text", "at", "sign"] ["text", "at"] (defScope sTokenAt) := ⟨rfl, rfl, rfl, by decide +kernel, rfl, by decide +kernel, by decide +kernel⟩
theorem isPrefixOf_eq (a b : List Nat) : a.isPrefixOf b = (decide (a.length ≤ b.length) && (b.take a.length == a)) := by
  rw [Bool.eq_iff_iff, List.isPrefixOf_iff_prefix, Bool.and_eq_true, decide_eq_true_eq, beq_iff_eq]
  constructor
  · intro h
    exact ⟨h.length_le, (List.prefix_iff_eq_take.mp h).symm⟩
  · rintro ⟨_, h⟩
    exact List.prefix_iff_eq_take.mpr h.symm
theorem starts_eq (z b : Str) (at_ : Nat) (h : at_ ≤ z.length) : Txt.startswith3 z b (at_ : Int) = b.cps.toList.isPrefixOf (z.cps.toList.drop at_) := by
  unfold Txt.startswith3 fromIndex
  have e : (max 0 (if (at_ : Int) < 0 then (at_ : Int) + (z.length : Int) else (at_ : Int))).toNat = at_ := by
    rw [if_neg (by omega)]
    omega
  rw [e, StrLaws.subAt_eq, isPrefixOf_eq, List.length_drop, len_tl, len_tl]
  congr 1
  rw [decide_eq_decide]
  omega
theorem ok_tokenAt {f fR fW fN : Addr} {fd fdR fdW fdN : FuncData} (F : Fun K "token_at" "token_at" sTokenAt f fd) (T : TxtX K mg) (CR : Cal P w K mg base 1 "run_of" fR fdR ["characters", "text", "at"] spRun)
    (CW : Cal P w K mg base 2 "word_token" fW fdW ["word"] (spTok wordTok)) (CN : Cal P w K mg base 2 "number_token" fN fdN ["digits"] (spTok numTok)) : FnOk P w K mg base CX0 3 f fd ["text", "at"] spTokenAt := by
  obtain ⟨tL, mL⟩ := T.letters
  obtain ⟨tD, mD⟩ := T.digits
  obtain ⟨aS, mS, kS⟩ := T.signs
  refine F.ok scTA (fun vs H Q E h => ?_) (fun cdv A outer s H vs Q E hr h => ?_)
  · obtain ⟨z, at_, rfl, _⟩ := h
    rfl
  · obtain ⟨z, at_, rfl, hz, hat, k⟩ := h
    have hr1 : Room 1 _ := hr.mono (by decide)
    have hz' : z.length ≤ sizeLine := Nat.le_trans hz (by decide)
    have hlen := len_tl z
    have hlt : at_ < z.cps.toList.length := by rw [hlen]; exact hat
    refine ⟨_, pss_cons (ps_if (pt_cmpR op_in_sign (pe_ix ix_str (pv 0) (pv 1) (fun _ _ => rfl)) (pe_glob (v := .str lettersS) rfl mL ⟨_, rfl⟩) (by rfl))
        (pss_one (ps_ret (pe_call CW.ok hr rfl CW.mg CW.kp CW.bi .nil pass0 (pa_cons (pe_call CR.ok hr1 rfl CR.mg CR.kp CR.bi .nil pass0 (pa_cons (pe_glob (v := .str lettersS) rfl mL ⟨_, rfl⟩) (pa_cons (pv 0) (pa_cons (pv 1) pa_nil)))) pa_nil)))) pss_nil)
      (pss_cons (ps_if (pt_cmpR op_in_sign (pe_ix ix_str (pv 0) (pv 1) (fun _ _ => rfl)) (pe_glob (v := .str digitsS) rfl mD ⟨_, rfl⟩) (by rfl))
        (pss_one (ps_ret (pe_call CN.ok hr rfl CN.mg CN.kp CN.bi .nil pass0 (pa_cons (pe_call CR.ok hr1 rfl CR.mg CR.kp CR.bi .nil pass0 (pa_cons (pe_glob (v := .str digitsS) rfl mD ⟨_, rfl⟩) (pa_cons (pv 0) (pa_cons (pv 1) pa_nil)))) pa_nil)))) pss_nil)
      (pss_cons (ps_for PassesOwn.never rfl (pi_tup (pe_glob (v := .ref aS) rfl mS rfl)) (pg_name (i := 2) scTA.nd rfl (.inl rfl))
        (pss_one (ps_if (pt_val (pe_bm PySem.F.plainAttrs_str PySem.F.slot_str_startswith PySem.F.type_str_startswith mt_startswith3 (pv 0) (pa_cons (pv 2) (pa_cons (pv 1) pa_nil))))
          (pss_one (ps_ret (pe_tup (pa_cons (pv 2) (pa_cons pe_non (pa_cons (pe_callB call_len_str (by rfl) T.len PySem.boot_len (pa_cons (pv 2) pa_nil)) pa_nil)))))) pss_nil)))
      (pss_one (ps_ret (pe_tup (pa_cons pe_str (pa_cons pe_non (pa_cons pe_int pa_nil)))))))), ?_⟩
    obtain ⟨c, r, hcr⟩ : ∃ c r, z.cps.toList.drop at_ = c :: r := ⟨_, _, List.drop_eq_getElem_cons hlt⟩
    have hc : z.cps.toList[at_]? = some c := by
      have := congrArg List.head? hcr
      rw [List.head?_drop] at this
      exact this
    have tk : tokAt (z.cps.toList.drop at_) = if isLet c then wordTok ((z.cps.toList.drop at_).takeWhile isLet) else if isDig c then numTok ((z.cps.toList.drop at_).takeWhile isDig) else signTok (z.cps.toList.drop at_) := by rw [hcr]; rfl
    refine ⟨_, rfl, _, rfl, z, at_, c, rfl, rfl, hz', atI_nat hc, c, lettersS, rfl, rfl, _, rfl, ?_⟩
    rw [let_mem]
    cases hl : isLet c with
    | true =>
      rw [hl, if_pos rfl] at tk
      refine iteTc rfl ⟨_, rfl, _, rfl, lettersS, z, isLet, at_, rfl, hz, Nat.le_of_lt hat, let_mem, ?_⟩
      have hw : ((z.cps.toList.drop at_).takeWhile isLet).length ≤ z.length := by
        have h1 := (List.takeWhile_sublist isLet (l := z.cps.toList.drop at_)).length_le
        rw [List.length_drop, hlen] at h1
        omega
      refine ⟨_, rfl, (by rw [S_len]; omega), (fun _ _ => .inr rfl), (by show (z.cps.toList.drop at_).takeWhile isLet ≠ []; rw [hcr, List.takeWhile_cons, if_pos hl]; simp), fun H' t sm ht => k H' t sm ?_⟩
      rw [tk]
      exact ht
    | false =>
      rw [hl, if_neg (by decide)] at tk
      refine iteFc rfl ?_
      refine ⟨_, rfl, _, rfl, z, at_, c, rfl, rfl, hz', atI_nat hc, c, digitsS, rfl, rfl, _, rfl, ?_⟩
      rw [dig_mem]
      cases hd : isDig c with
      | true =>
        rw [hd, if_pos rfl] at tk
        refine iteTc rfl ⟨_, rfl, _, rfl, digitsS, z, isDig, at_, rfl, hz, Nat.le_of_lt hat, dig_mem, ?_⟩
        have hw : ((z.cps.toList.drop at_).takeWhile isDig).length ≤ z.length := by
          have h1 := (List.takeWhile_sublist isDig (l := z.cps.toList.drop at_)).length_le
          rw [List.length_drop, hlen] at h1
          omega
        refine ⟨_, rfl, (by rw [S_len]; omega), (fun x hx => .inl (List.all_eq_true.mp List.all_takeWhile x hx)), (by show (z.cps.toList.drop at_).takeWhile isDig ≠ []; rw [hcr, List.takeWhile_cons, if_pos hd]; simp), fun H' t sm ht => k H' t sm ?_⟩
        rw [tk]
        exact ht
      | false =>
        rw [hd, if_neg (by decide)] at tk
        refine iteFc rfl ⟨aS, rfl, ⟨_, kS.sq H⟩, ?_⟩
        refine for_tup (K := K) (a := aS) (xs := signsL.map V.str) (fun i σ Hx => ∃ x2 : Option V, σ = [some (.str z), some (.int at_), x2] ∧ Hx = H ∧ ∀ s ∈ signsL.take i, s.cps.toList.isPrefixOf (z.cps.toList.drop at_) = false) ⟨none, rfl, rfl, by simp⟩ (fun _ _ Hx _ _ => kS.sq Hx) ?_ ?_
        · rintro i x σ Hx hx ⟨x2, rfl, rfl, hno⟩
          rw [List.getElem?_map] at hx
          obtain ⟨sg, hsg, rfl⟩ := Option.map_eq_some_iff.mp hx
          have hsl : sg.length ≤ 2 := by
            have : ∀ s ∈ signsL, s.length ≤ 2 := by decide +kernel
            exact this sg (List.mem_of_getElem? hsg)
          refine ⟨_, rfl, rfl, _, rfl, _, rfl, z, sg, at_, rfl, rfl, _, rfl, ?_⟩
          rw [starts_eq z sg at_ (Nat.le_of_lt hat)]
          cases hp : sg.cps.toList.isPrefixOf (z.cps.toList.drop at_) with
          | true =>
            refine iteTc rfl ⟨_, rfl, _, rfl, sg, rfl, Nat.le_trans hsl (by decide), (by show 3 ≤ sizeLine; decide), fun t nt => k _ t (same_new nt) ?_⟩
            have ef : signsL.find? (fun s => s.cps.toList.isPrefixOf (z.cps.toList.drop at_)) = some sg := by
              have e1 : signsL = signsL.take i ++ sg :: signsL.drop (i + 1) := by
                have hi := (List.getElem?_eq_some_iff.mp hsg)
                obtain ⟨h1, h2⟩ := hi
                rw [← h2, List.getElem_cons_drop, List.take_append_drop]
              rw [e1, List.find?_append, List.find?_eq_none.mpr (fun s hs => by rw [hno s hs]; decide), Option.none_or, List.find?_cons, hp]
            rw [tk, signTok, ef]
            exact upd_same
          | false =>
            refine iteFc rfl ⟨_, rfl, rfl, fun s hs => ?_⟩
            rw [List.take_add_one, hsg] at hs
            rcases List.mem_append.mp hs with h | h
            · exact hno s h
            · simp at h
              rw [h]
              exact hp
        · rintro σ Hx ⟨x2, rfl, rfl, hno⟩
          rw [List.length_map, List.take_length] at hno
          refine ⟨(by show 3 ≤ sizeLine; decide), fun t nt => k _ t (same_new nt) ?_⟩
          rw [tk, signTok, List.find?_eq_none.mpr (fun s hs => by rw [hno s hs]; decide)]
          exact upd_same
end
end XE

set_option Elab.async false
set_option linter.all false
set_option maxRecDepth 100000
set_option maxHeartbeats 4000000
namespace XE
open PySem PySem.Spec PyProof.Rows L2 Rx SX
/-- a row of tokens, each a tuple -/
def TokL (H : Hp) : List V → List (Str × V × Nat) → Prop
  | [], [] => True
  | v :: vs, x :: xs => (∃ t, v = .ref t ∧ Tok3 H t x) ∧ TokL H vs xs
  | _, _ => False
theorem TokL.keep {H H' : Hp} (k : ∀ a xs, H a = some (.tup xs) → H' a = some (.tup xs)) : ∀ {vs : List V} {ts : List (Str × V × Nat)}, TokL H vs ts → TokL H' vs ts
  | [], [], _ => trivial
  | _ :: _, _ :: _, ⟨⟨t, e, h⟩, r⟩ => ⟨⟨t, e, k _ _ h⟩, TokL.keep k r⟩
  | [], _ :: _, h => h.elim
  | _ :: _, [], h => h.elim
theorem TokL.snoc {H : Hp} {t : Addr} {x : Str × V × Nat} (hx : Tok3 H t x) : ∀ {vs : List V} {ts : List (Str × V × Nat)}, TokL H vs ts → TokL H (vs ++ [.ref t]) (ts ++ [x])
  | [], [], _ => ⟨⟨t, rfl, hx⟩, trivial⟩
  | _ :: _, _ :: _, ⟨h, r⟩ => ⟨h, TokL.snoc hx r⟩
  | [], _ :: _, h => h.elim
  | _ :: _, [], h => h.elim
theorem TokL.same {H H' : Hp} (e : Same H H') {vs : List V} {ts : List (Str × V × Nat)} (h : TokL H vs ts) : TokL H' vs ts := h.keep fun a xs => e a _
theorem wordTok_sz (w : List Nat) : (wordTok w).2.2 = w.length := by
  unfold wordTok
  split
  · rfl
  · split <;> rfl
theorem numTok_sz (w : List Nat) : (numTok w).2.2 = w.length := by unfold numTok; split <;> rfl
theorem tokAt_le {cs : List Nat} (h : cs ≠ []) : (tokAt cs).2.2 ≤ cs.length := by
  obtain ⟨c, r, rfl⟩ := List.exists_cons_of_ne_nil h
  unfold tokAt
  dsimp only
  split
  · rw [wordTok_sz]; exact (List.takeWhile_sublist _).length_le
  split
  · rw [numTok_sz]; exact (List.takeWhile_sublist _).length_le
  · unfold signTok
    split
    · rename_i s hs
      have := List.find?_some hs
      have h2 := (List.isPrefixOf_iff_prefix.mp this).length_le
      rw [len_tl] at h2
      exact h2
    · simp
def spTokens : Sp := fun vs H Q _ => ∃ z : Str, vs = [.str z] ∧ z.length ≤ 100000 ∧ ∀ (H' : Hp) (l : Addr) (ws : List V), Same H H' → H l = none → H' l = some (.lst ws) → TokL H' ws (toks z.cps.toList) → Q (.ref l) H'
section
variable {P : Program} {w : World} {K : PySem.W.Frag} {mg : Str → Option Value} {base : Heap}
theorem scTk : FnScope ["text", "found", "at", "sign", "worth", "size"] ["text"] (defScope sTokens) := ⟨rfl, rfl, rfl, by decide +kernel, rfl, by decide +kernel, by decide +kernel⟩
theorem sp_eq (c : Nat) : (V.str ⟨#[c]⟩ = V.str " ") ↔ c = 32 := by
  constructor
  · intro h
    injection h with h
    have := congrArg (fun s : Str => s.cps.toList) h
    have e : ((" " : Str)).cps.toList = [32] := by decide +kernel
    rw [e] at this
    simpa using this
  · intro h; subst h; decide +kernel
theorem ok_tokens {f fA : Addr} {fd fdA : FuncData} (F : Fun K "tokens" "tokens" sTokens f fd) (T : TxtX K mg) (CA : Cal P w K mg base 3 "token_at" fA fdA ["text", "at"] spTokenAt) : FnOk P w K mg base CX0 4 f fd ["text"] spTokens := by
  refine F.ok scTk (fun vs H Q E h => ?_) (fun cdv A outer s H vs Q E hr h => ?_)
  · obtain ⟨z, rfl, _⟩ := h
    rfl
  · obtain ⟨z, rfl, hz, k⟩ := h
    have hz' : z.length ≤ sizeLine := Nat.le_trans hz (by decide)
    have hlen := len_tl z
    refine ⟨_, pss_cons (ps_set (i := 1) scTk.nd rfl (.inl rfl) (pe_lst pa_nil))
      (pss_cons (ps_set (i := 2) scTk.nd rfl (.inl rfl) pe_int)
      (pss_cons (ps_while PassesOwn.never (pt_cmpR op_lt (pv 2) (pe_callB call_len_str (by rfl) T.len PySem.boot_len (pa_cons (pv 0) pa_nil)) (nomark _))
        (pss_cons (ps_if (pt_cmpR op_eq (pe_ix ix_str (pv 0) (pv 2) (fun _ _ => rfl)) pe_str (nomark _)) (pss_cons (ps_aug (i := 2) scTk.nd rfl (.inl rfl) pe_int ip_add) (pss_one ps_continue)) pss_nil)
        (pss_cons (ps_asg (pe_call CA.ok hr rfl CA.mg CA.kp CA.bi .nil pass0 (pa_cons (pv 0) (pa_cons (pv 2) pa_nil))) (pg_tup rfl (pgs_cons (pg_name (i := 3) scTk.nd rfl (.inl rfl)) (pgs_cons (pg_name (i := 4) scTk.nd rfl (.inl rfl)) (pgs_cons (pg_name (i := 5) scTk.nd rfl (.inl rfl)) pgs_nil)))))
        (pss_cons (ps_expr (pe_bm PySem.F.plainAttrs_list PySem.F.slot_list_append PySem.F.type_list_append mt_append (pv 1) (pa_cons (pe_tup (pa_cons (pv 3) (pa_cons (pv 4) (pa_cons (pv 2) pa_nil)))) pa_nil)))
        (pss_one (ps_aug (i := 2) scTk.nd rfl (.inl rfl) (pv 5) ip_add))))))
      (pss_cons (ps_expr (pe_bm PySem.F.plainAttrs_list PySem.F.slot_list_append PySem.F.type_list_append mt_append (pv 1) (pa_cons (pe_tup (pa_cons pe_str (pa_cons pe_non (pa_cons (pe_callB call_len_str (by rfl) T.len PySem.boot_len (pa_cons (pv 0) pa_nil)) pa_nil)))) pa_nil)))
      (pss_one (ps_ret (pv 1)))))), ?_⟩
    refine ⟨(by show 0 ≤ sizeLine; decide), fun L nL => ?_⟩
    refine ⟨fun m σ H' => ∃ (p : Nat) (fs : List V) (ts : List (Str × V × Nat)) (x3 x4 x5 : Option V), m = z.length - p ∧ σ = [some (.str z), some (.ref L), some (.int p), x3, x4, x5] ∧ p ≤ z.length ∧ H' L = some (.lst fs) ∧ TokL H' fs ts ∧ toks z.cps.toList = ts ++ toksF (z.length - p) p (z.cps.toList.drop p) ∧ fs.length ≤ p ∧ Same H H',
      ⟨_, 0, [], [], none, none, none, rfl, rfl, Nat.zero_le _, upd_same, trivial, by unfold toks; rw [hlen]; rfl, Nat.le_refl _, same_new nL⟩, ?_⟩
    rintro m σ H' ⟨p, fs, ts, x3, x4, x5, rfl, rfl, hp, hL, hts, heq, hfl, sm⟩
    refine ⟨_, rfl, _, rfl, z, rfl, hz', _, _, rfl, rfl, _, rfl, ite2 (fun e => ?_) (fun e => ?_)⟩
    · have hlt : p < z.length := by have := of_decide_eq_true e; omega
      have hlt' : p < z.cps.toList.length := by rw [hlen]; exact hlt
      obtain ⟨c, r, hcr⟩ : ∃ c r, z.cps.toList.drop p = c :: r := ⟨_, _, List.drop_eq_getElem_cons hlt'⟩
      have hc : z.cps.toList[p]? = some c := by
        have := congrArg List.head? hcr
        rw [List.head?_drop] at this
        exact this
      have hn : z.length - p = (z.length - (p + 1)) + 1 := by omega
      have hr' : z.cps.toList.drop (p + 1) = r := by
        have := congrArg List.tail hcr
        rw [List.tail_drop] at this
        exact this
      refine ⟨_, fun _ _ h => h, _, rfl, _, rfl, z, p, c, rfl, rfl, hz', atI_nat hc, rfl, _, rfl, ite2 (fun e2 => ?_) (fun e2 => ?_)⟩
      · have e2' : c = 32 := (sp_eq c).mp (of_decide_eq_true e2)
        refine ⟨_, rfl, _, _, rfl, rfl, z.length - (p + 1), by omega, p + 1, fs, ts, x3, x4, x5, rfl, by rw [Int.natCast_add]; rfl, by omega, hL, hts, ?_, by omega, sm⟩
        rw [heq, hn, hcr, hr', toksF, if_pos e2']
      · have e2' : ¬ c = 32 := fun q => e2 (decide_eq_true ((sp_eq c).mpr q))
        refine ⟨_, rfl, _, rfl, z, p, rfl, hz, hlt, fun H1 t s1 ht => ?_⟩
        have hne : z.cps.toList.drop p ≠ [] := by rw [hcr]; simp
        have hpos := tokAt_pos (z.cps.toList.drop p)
        have hle := tokAt_le hne
        rw [List.length_drop, hlen] at hle
        have hstep : toksF (z.length - p) p (z.cps.toList.drop p) = ((tokAt (z.cps.toList.drop p)).1, (tokAt (z.cps.toList.drop p)).2.1, p) :: toksF (z.length - (p + (tokAt (z.cps.toList.drop p)).2.2)) (p + (tokAt (z.cps.toList.drop p)).2.2) (z.cps.toList.drop (p + (tokAt (z.cps.toList.drop p)).2.2)) := by
          rw [hn, ← List.drop_drop]
          rw [hcr] at hpos hle ⊢
          rw [toksF, if_neg e2']
          congr 1
          refine toksF_fuel _ _ _ _ ?_ ?_
          · rw [List.length_drop, ← hcr, List.length_drop, hlen]
            rw [← hcr] at hpos
            omega
          · rw [List.length_drop, ← hcr, List.length_drop, hlen]
            omega
        unfold Tok3 at ht
        generalize tokAt (z.cps.toList.drop p) = tk at ht hpos hle hstep
        obtain ⟨sg, wo, szz⟩ := tk
        refine ⟨t, _, rfl, SqT.of ht, rfl, _, _, rfl, _, _, rfl, _, _, rfl, rfl, ?_⟩
        refine ⟨_, rfl, .inl ⟨rfl, _, SqL.of (s1 _ _ hL)⟩, _, rfl, _, rfl, _, rfl, (by show 3 ≤ sizeLine; decide), fun u nu => ?_⟩
        have nuL : L ≠ u := ne_of_none (s1 _ _ hL) nu
        refine ⟨L, fs, _, rfl, rfl, (by rw [upd_ne nuL]; exact s1 _ _ hL), Nat.lt_of_le_of_lt (by omega : fs.length ≤ 100000) (by decide), ?_⟩
        have kp : ∀ a xs, H1 a = some (.tup xs) → upd (upd H1 u (.tup [.str sg, wo, .int p])) L (.lst (fs ++ [.ref u])) a = some (.tup xs) := fun a xs h => by
          rw [upd_ne (ne_of h (s1 _ _ hL) (by intro z; cases z)), upd_ne (ne_of_none h nu)]
          exact h
        refine ⟨_, rfl, _, rfl, _, _, rfl, rfl, z.length - (p + szz), ?_, p + szz, fs ++ [.ref u], ts ++ [(sg, wo, p)], some (.str sg), some wo, some (.int szz), rfl, ?_, ?_, upd_same, TokL.snoc ?_ (hts.keep fun a xs h => kp a xs (s1 _ _ h)), ?_, ?_, same_upd ((sm.trans s1).trans (same_new nu)) nL⟩
        · simp only at hpos hle ⊢; omega
        · rw [Int.natCast_add]; rfl
        · simp only at hle; omega
        · show upd (upd H1 u (.tup [.str sg, wo, .int p])) L _ u = _
          rw [upd_ne nuL.symm, upd_same]
        · rw [heq, hstep, List.append_assoc]; rfl
        · rw [List.length_append]; simp only at hpos; simp; omega
    · have hge : p = z.length := by
        have : ¬ ((p : Int) < (z.length : Int)) := fun q => e (decide_eq_true q)
        omega
      subst hge
      refine ⟨_, rfl, .inl ⟨rfl, _, SqL.of hL⟩, _, rfl, z, rfl, hz', (by show 3 ≤ sizeLine; decide), fun u nu => ?_⟩
      have nuL : L ≠ u := ne_of_none hL nu
      refine ⟨L, fs, _, rfl, rfl, (by rw [upd_ne nuL]; exact hL), Nat.lt_of_le_of_lt (by omega : fs.length ≤ 100000) (by decide), ?_⟩
      refine ⟨_, rfl, k _ L (fs ++ [.ref u]) (same_upd (sm.trans (same_new nu)) nL) nL upd_same ?_⟩
      rw [heq, Nat.sub_self, List.drop_of_length_le (by rw [hlen]; exact Nat.le_refl _)]
      refine TokL.snoc ?_ (hts.keep fun a xs h => ?_)
      · show upd (upd H' u (.tup [.str "end", .non, .int z.length])) L _ u = _
        rw [upd_ne nuL.symm, upd_same]
      · rw [upd_ne (ne_of h hL (by intro z; cases z)), upd_ne (ne_of_none h nu)]
        exact h
end
end XE

set_option Elab.async false
set_option linter.all false
set_option maxRecDepth 100000
set_option maxHeartbeats 4000000
namespace XE
open PySem PySem.Spec PyProof.Rows L2 Rx SX
abbrev sReader : Stmt := topS 31
abbrev sRInit : Stmt := inClass sReader 0
abbrev sFits : Stmt := inClass sReader 1
abbrev sMayB : Stmt := inClass sReader 2
abbrev sMayF : Stmt := inClass sReader 3
abbrev sTakeIn : Stmt := inClass sReader 4
abbrev sBegin : Stmt := inClass sReader 5
abbrev sClose : Stmt := inClass sReader 6
abbrev sPutB : Stmt := inClass sReader 7
abbrev sDown : Stmt := inClass sReader 8
abbrev sJoin : Stmt := inClass sReader 9
/-- the attributes of a reader, as its __init__ stores them -/
def fl (c : Bool) (st : Str) (m : Bool) (n o b : Addr) : List (Str × V) := [("of_condition", .bl c), ("stage", .str st), ("compared", .bl m), ("nodes", .ref n), ("operators", .ref o), ("brackets", .ref b)]
theorem lk_hit {k : Str} {v : V} {l : List (Str × V)} : List.lookup k ((k, v) :: l) = some v := by simp [List.lookup]
theorem lk_miss {k x : Str} {v : V} {l : List (Str × V)} (h : ¬ k = x) : List.lookup k ((x, v) :: l) = List.lookup k l := by
  have e : (k == x) = false := by simpa using h
  simp only [List.lookup, e]
theorem pf_hit {k : Str} {v w : V} {l : List (Str × V)} : putF k v ((k, w) :: l) = (k, v) :: l := if_pos rfl
theorem pf_miss {k x : Str} {v w : V} {l : List (Str × V)} (h : ¬ x = k) : putF k v ((x, w) :: l) = (x, w) :: putF k v l := if_neg h
section
variable {c m : Bool} {st : Str} {n o b : Addr}
theorem fl_cond : (fl c st m n o b).lookup ("of_condition" : Str) = some (.bl c) := lk_hit
theorem fl_stage : (fl c st m n o b).lookup ("stage" : Str) = some (.str st) := (lk_miss (by decide +kernel)).trans lk_hit
theorem fl_cmp : (fl c st m n o b).lookup ("compared" : Str) = some (.bl m) := (lk_miss (by decide +kernel)).trans ((lk_miss (by decide +kernel)).trans lk_hit)
theorem fl_nodes : (fl c st m n o b).lookup ("nodes" : Str) = some (.ref n) := (lk_miss (by decide +kernel)).trans ((lk_miss (by decide +kernel)).trans ((lk_miss (by decide +kernel)).trans lk_hit))
theorem fl_ops : (fl c st m n o b).lookup ("operators" : Str) = some (.ref o) := (lk_miss (by decide +kernel)).trans ((lk_miss (by decide +kernel)).trans ((lk_miss (by decide +kernel)).trans ((lk_miss (by decide +kernel)).trans lk_hit)))
theorem fl_brs : (fl c st m n o b).lookup ("brackets" : Str) = some (.ref b) := (lk_miss (by decide +kernel)).trans ((lk_miss (by decide +kernel)).trans ((lk_miss (by decide +kernel)).trans ((lk_miss (by decide +kernel)).trans ((lk_miss (by decide +kernel)).trans lk_hit))))
theorem fl_no {k : Str} (h : (["of_condition", "stage", "compared", "nodes", "operators", "brackets"] : List Str).contains k = false) : (fl c st m n o b).lookup k = none := by
  simp only [List.contains_cons, Bool.or_eq_false_iff, beq_eq_false_iff_ne] at h
  obtain ⟨h1, h2, h3, h4, h5, h6, _⟩ := h
  exact (lk_miss h1).trans ((lk_miss h2).trans ((lk_miss h3).trans ((lk_miss h4).trans ((lk_miss h5).trans ((lk_miss h6).trans rfl)))))
theorem fl_pstage {s : Str} : putF "stage" (.str s) (fl c st m n o b) = fl c s m n o b := by
  unfold fl
  rw [pf_miss (by decide +kernel), pf_hit]
theorem fl_pcmp {k : Bool} : putF "compared" (.bl k) (fl c st m n o b) = fl c st k n o b := by
  unfold fl
  rw [pf_miss (by decide +kernel), pf_miss (by decide +kernel), pf_hit]
end
/-- a reader stands at p, with its three lists -/
structure RdV (K : PySem.W.Frag) (C : Addr) (H : Hp) (p n o b : Addr) (vs : List V) (r : RS) : Prop where
  ob : ∃ dx, H p = some (.ins C dx (fl r.cond r.stage r.cmp n o b))
  nd : H n = some (.lst vs.reverse)
  dp : DpAll K H vs r.nodes
  op : H o = some (.lst (r.ops.map V.str).reverse)
  br : H b = some (.lst (r.brs.map V.str).reverse)
  no : n ≠ o
  nb : n ≠ b
  oq : o ≠ b
  nl : noListAll r.nodes = true
  ok : ∀ x ∈ r.ops, x ∈ opsL
/-- all else stands as it stood -/
def ElseR (p n o b : Addr) (H H' : Hp) : Prop := ∀ a x, H a = some x → a ≠ p → a ≠ n → a ≠ o → a ≠ b → H' a = some x
section
variable {K : PySem.W.Frag} {C p n o b : Addr} {H H1 H2 : Hp} {vs : List V} {r : RS}
theorem ElseR.refl : ElseR p n o b H H := fun _ _ h _ _ _ _ => h
theorem ElseR.trans (e : ElseR p n o b H H1) (f : ElseR p n o b H1 H2) : ElseR p n o b H H2 := fun a x h h1 h2 h3 h4 => f a x (e a x h h1 h2 h3 h4) h1 h2 h3 h4
theorem ElseR.same (e : Same H H1) : ElseR p n o b H H1 := fun a x h _ _ _ _ => e a x h
theorem ElseR.atP {x : HO} : ElseR p n o b H (upd H p x) := fun a y h h1 _ _ _ => by rw [upd_ne h1]; exact h
theorem ElseR.atN {x : HO} : ElseR p n o b H (upd H n x) := fun a y h _ h1 _ _ => by rw [upd_ne h1]; exact h
theorem ElseR.atO {x : HO} : ElseR p n o b H (upd H o x) := fun a y h _ _ h1 _ => by rw [upd_ne h1]; exact h
theorem ElseR.atB {x : HO} : ElseR p n o b H (upd H b x) := fun a y h _ _ _ h1 => by rw [upd_ne h1]; exact h
theorem dp_lst {l : Addr} {xs : List V} {x : HO} (h : H l = some (.lst xs)) {v : V} {d : PyData} (D : Dp K H v d) (k : noList d = true) : Dp K (upd H l x) v d :=
  dp_keep (fun a ys e => by rw [upd_ne (ne_of e h (by intro z; cases z))]; exact e) (fun a u v e => by rw [upd_ne (ne_of e h (by intro z; cases z))]; exact e) D k
theorem dpAll_lst {l : Addr} {xs : List V} {x : HO} (h : H l = some (.lst xs)) {vs : List V} {ds : List PyData} (D : DpAll K H vs ds) (k : noListAll ds = true) : DpAll K (upd H l x) vs ds :=
  dpAll_keep (fun a ys e => by rw [upd_ne (ne_of e h (by intro z; cases z))]; exact e) (fun a u v e => by rw [upd_ne (ne_of e h (by intro z; cases z))]; exact e) D k
theorem dpAll_ins {l c dx : Addr} {fs : List (Str × V)} {x : HO} (h : H l = some (.ins c dx fs)) {vs : List V} {ds : List PyData} (D : DpAll K H vs ds) (k : noListAll ds = true) : DpAll K (upd H l x) vs ds :=
  dpAll_keep (fun a ys e => by rw [upd_ne (ne_of e h (by intro z; cases z))]; exact e) (fun a u v e => by rw [upd_ne (ne_of e h (by intro z; cases z))]; exact e) D k
theorem RdV.same (A : RdV K C H p n o b vs r) (e : Same H H1) : RdV K C H1 p n o b vs r := by
  obtain ⟨⟨dx, h1⟩, h2, h3, h4, h5, h6, h7, h8, h9, h10⟩ := A
  exact ⟨⟨dx, e _ _ h1⟩, e _ _ h2, dpAll_same e h3, e _ _ h4, e _ _ h5, h6, h7, h8, h9, h10⟩
theorem RdV.nodes (A : RdV K C H p n o b vs r) {ws : List V} {ns : List PyData} (D : DpAll K H ws ns) (k : noListAll ns = true) : RdV K C (upd H n (.lst ws.reverse)) p n o b ws { r with nodes := ns } := by
  obtain ⟨⟨dx, h1⟩, h2, h3, h4, h5, h6, h7, h8, h9, h10⟩ := A
  exact ⟨⟨dx, by rw [upd_ne (ne_of h1 h2 (by intro z; cases z))]; exact h1⟩, upd_same, dpAll_lst h2 D k, by rw [upd_ne h6.symm]; exact h4, by rw [upd_ne h7.symm]; exact h5, h6, h7, h8, k, h10⟩
theorem RdV.push (A : RdV K C H p n o b vs r) {v : V} {d : PyData} (D : Dp K H v d) (k : noList d = true) : RdV K C (upd H n (.lst (vs.reverse ++ [v]))) p n o b (v :: vs) { r with nodes := d :: r.nodes } := by
  have := A.nodes (.cons D A.dp) (by rw [noListAll, k, A.nl]; rfl)
  rw [List.reverse_cons] at this
  exact this
theorem RdV.ops (A : RdV K C H p n o b vs r) {os : List Str} (k : ∀ x ∈ os, x ∈ opsL) : RdV K C (upd H o (.lst (os.map V.str).reverse)) p n o b vs { r with ops := os } := by
  obtain ⟨⟨dx, h1⟩, h2, h3, h4, h5, h6, h7, h8, h9, h10⟩ := A
  exact ⟨⟨dx, by rw [upd_ne (ne_of h1 h4 (by intro z; cases z))]; exact h1⟩, by rw [upd_ne h6]; exact h2, dpAll_lst h4 h3 h9, upd_same, by rw [upd_ne h8.symm]; exact h5, h6, h7, h8, h9, k⟩
theorem RdV.pushO (A : RdV K C H p n o b vs r) {s : Str} (k : s ∈ opsL) : RdV K C (upd H o (.lst ((r.ops.map V.str).reverse ++ [.str s]))) p n o b vs { r with ops := s :: r.ops } := by
  have := A.ops (os := s :: r.ops) (fun x hx => by
    rcases List.mem_cons.mp hx with h | h
    · rw [h]; exact k
    · exact A.ok x h)
  rw [List.map_cons, List.reverse_cons] at this
  exact this
theorem RdV.brs (A : RdV K C H p n o b vs r) {bs : List Str} : RdV K C (upd H b (.lst (bs.map V.str).reverse)) p n o b vs { r with brs := bs } := by
  obtain ⟨⟨dx, h1⟩, h2, h3, h4, h5, h6, h7, h8, h9, h10⟩ := A
  exact ⟨⟨dx, by rw [upd_ne (ne_of h1 h5 (by intro z; cases z))]; exact h1⟩, by rw [upd_ne h7]; exact h2, dpAll_lst h5 h3 h9, by rw [upd_ne h8]; exact h4, upd_same, h6, h7, h8, h9, h10⟩
theorem RdV.pushB (A : RdV K C H p n o b vs r) {s : Str} : RdV K C (upd H b (.lst ((r.brs.map V.str).reverse ++ [.str s]))) p n o b vs { r with brs := s :: r.brs } := by
  have := A.brs (bs := s :: r.brs)
  rw [List.map_cons, List.reverse_cons] at this
  exact this
theorem RdV.flds (A : RdV K C H p n o b vs r) {dx : Addr} {c m : Bool} {st : Str} : RdV K C (upd H p (.ins C dx (fl c st m n o b))) p n o b vs { r with cond := c, stage := st, cmp := m } := by
  obtain ⟨⟨dy, h1⟩, h2, h3, h4, h5, h6, h7, h8, h9, h10⟩ := A
  exact ⟨⟨dx, upd_same⟩, by rw [upd_ne (ne_of h2 h1 (by intro z; cases z))]; exact h2, dpAll_ins h1 h3 h9, by rw [upd_ne (ne_of h4 h1 (by intro z; cases z))]; exact h4, by rw [upd_ne (ne_of h5 h1 (by intro z; cases z))]; exact h5, h6, h7, h8, h9, h10⟩
theorem RdV.op' (A : RdV K C H p n o b vs r) {s : Str} {os : List Str} (e : r.ops = s :: os) : H o = some (.lst ((os.map V.str).reverse ++ [.str s])) := by
  have := A.op
  rw [e, List.map_cons, List.reverse_cons] at this
  exact this
theorem RdV.br' (A : RdV K C H p n o b vs r) {s : Str} {os : List Str} (e : r.brs = s :: os) : H b = some (.lst ((os.map V.str).reverse ++ [.str s])) := by
  have := A.br
  rw [e, List.map_cons, List.reverse_cons] at this
  exact this
/-- the last item goes out -/
theorem pop_read {l : Addr} {xs : List V} {v : V} {Q : VK} (h : H l = some (.lst (xs ++ [v]))) (k : Q v (upd H l (.lst xs))) : rPop (.ref l) [] H Q := by
  refine ⟨l, _, v, rfl, rfl, h, by simp, ?_⟩
  rw [List.dropLast_concat]
  exact k
end
/-- what the walk asks of the class and of the module -/
structure TxtR (K : PySem.W.Frag) (w : World) (mg : Str → Option Value) (C : Addr) : Prop where
  cl : Cls K C
  nCond : NoAttr K C "of_condition"
  nStage : NoAttr K C "stage"
  nCmp : NoAttr K C "compared"
  nNodes : NoAttr K C "nodes"
  nOps : NoAttr K C "operators"
  nBrs : NoAttr K C "brackets"
  pref : ∃ a, mg "PREFIXES" = some (.ref a) ∧ KTup K a (prefL.map V.str)
  arith : ∃ a, mg "ARITHMETIC" = some (.ref a) ∧ KTup K a (arithL.map V.str)
  comp : ∃ a, mg "COMPARISONS" = some (.ref a) ∧ KTup K a (compL.map V.str)
  bind : ∃ a, mg "BINDING" = some (.ref a) ∧ (∃ es n, K.lookup a = some ⟨.type "dict", none, .dict es n, #[]⟩ ∧ PySem.W.KeysLit w.params es.toList) ∧ ∀ z ∈ opsL, KGet K w a z ((bindO z).map V.int)
/-- a method that changes the reader -/
def spR (K : PySem.W.Frag) (C : Addr) (us : List V) (g : RS → Option RS) (pre : RS → Prop) : V → Hp → VK → Prop := fun p0 H Q => ∃ (p n o b : Addr) (vs : List V) (r r' : RS), p0 = .ref p ∧ RdV K C H p n o b vs r ∧ Few 200000 r ∧ pre r ∧ g r = some r' ∧ ∀ H' ws, RdV K C H' p n o b ws r' → ElseR p n o b H H' → Q .non H'
def spJoin (K : PySem.W.Frag) (C : Addr) : Sp := fun vs H Q _ => ∃ (v : V) (x : Str), vs = [v, .str x] ∧ spR K C [] (fun r => (joinOp x r.nodes).map fun ns => { r with nodes := ns }) (fun _ => True) v H Q
def spDown (K : PySem.W.Frag) (C : Addr) : Sp := fun vs H Q _ => ∃ (v : V) (x : Int), vs = [v, .int x] ∧ spR K C [] (fun r => r.down x) (fun _ => True) v H Q
section
variable {P : Program} {w : World} {K : PySem.W.Frag} {mg : Str → Option Value} {base : Heap} {C : Addr}
theorem big3 : 200000 < sizeLine := by decide
theorem scJn : FnScope ["self", "operator", "right", "left"] ["self", "operator"] (defScope sJoin) := ⟨rfl, rfl, rfl, by decide +kernel, rfl, by decide +kernel, by decide +kernel⟩
theorem ok_join {f : Addr} {fd : FuncData} (F : Fun K "join_operands" "Reader.join_operands" sJoin f fd) (T : TxtR K w mg C) : FnOk P w K mg base CX0 1 f fd ["self", "operator"] (spJoin K C) := by
  obtain ⟨aP, mP, kP⟩ := T.pref
  refine F.ok scJn (fun vs H Q E h => ?_) (fun cdv A outer s H vs Q E hr h => ?_)
  · obtain ⟨v, x, rfl, _⟩ := h
    rfl
  · obtain ⟨v, x, rfl, p, n, o, b, vs, r, r', rfl, R, few, _, hg, k⟩ := h
    have few1 := few.nd
    refine ⟨_, pss_cons (ps_set (i := 2) scJn.nd rfl (.inl rfl) (pe_bm0 PySem.F.plainAttrs_list PySem.F.slot_list_pop PySem.F.type_list_pop mt_pop (pe_fld (pv 0) rfl)))
      (pss_one (ps_if (pt_cmpR op_in_seq (pv 1) (pe_glob (v := .ref aP) rfl mP rfl) (by rfl))
        (pss_one (ps_expr (pe_bm PySem.F.plainAttrs_list PySem.F.slot_list_append PySem.F.type_list_append mt_append (pe_fld (pv 0) rfl) (pa_cons (pe_tup (pa_cons (pv 1) (pa_cons (pv 2) pa_nil))) pa_nil))))
        (pss_cons (ps_set (i := 3) scJn.nd rfl (.inl rfl) (pe_bm0 PySem.F.plainAttrs_list PySem.F.slot_list_pop PySem.F.type_list_pop mt_pop (pe_fld (pv 0) rfl)))
        (pss_one (ps_expr (pe_bm PySem.F.plainAttrs_list PySem.F.slot_list_append PySem.F.type_list_append mt_append (pe_fld (pv 0) rfl) (pa_cons (pe_tup (pa_cons (pv 1) (pa_cons (pv 3) (pa_cons (pv 2) pa_nil)))) pa_nil))))))), ?_⟩
    obtain ⟨ms, hm, rfl⟩ := Option.map_eq_some_iff.mp hg
    obtain ⟨dx, hp⟩ := R.ob
    have hD := R.dp
    have hL := R.nl
    have hn := R.nd
    unfold joinOp at hm
    cases hpr : prefL.contains x with
    | true =>
      rw [hpr, if_pos rfl] at hm
      split at hm
      · rename_i dr dt en
        injection hm with hm
        subst hm
        rw [en] at hD hL few1
        cases hD with
        | cons hv hvt =>
          rename_i v vt
          simp only [noListAll, Bool.and_eq_true] at hL
          rw [List.reverse_cons] at hn
          refine ⟨_, rfl, p, C, dx, _, _, rfl, hp, T.cl, T.nNodes, fl_nodes, .inl ⟨rfl, _, SqL.of hn⟩, pop_read hn ?_⟩
          have R1 := R.nodes hvt hL.2
          have hv1 := dp_lst (x := .lst vt.reverse) hn hv hL.1
          obtain ⟨dx1, hp1⟩ := R1.ob
          refine ⟨_, rfl, aP, _, rfl, .inr (kP.sq _), rfl, flat_strs _, _, rfl, ?_⟩
          show if inV (.str x) (prefL.map V.str) = true then _ else _
          rw [inV_strs, hpr]
          refine iteTc rfl ⟨_, rfl, p, C, dx1, _, _, rfl, hp1, T.cl, T.nNodes, fl_nodes, .inl ⟨rfl, _, SqL.of R1.nd⟩, _, rfl, _, rfl, (by show 2 ≤ sizeLine; decide), fun t nt => ?_⟩
          have R2 := R1.same (same_new (o := .tup [.str x, v]) nt)
          refine ⟨n, _, _, rfl, rfl, R2.nd, ?_, ?_⟩
          · rw [List.length_reverse, dpAll_len hvt]
            have := big3
            simp only [List.length_cons] at few1
            omega
          · have dt : Dp K (upd (upd H n (.lst vt.reverse)) t (.tup [.str x, v])) (.ref t) (.tuple [.str x, dr]) := .tup (SqT.of upd_same) (.cons (.str x) (.cons (dp_same (same_new nt) hv1) .nil))
            have R3 := R2.push dt (by simp [noList, noListAll, hL.1])
            exact k _ _ R3 ((ElseR.atN.trans (ElseR.same (same_new nt))).trans ElseR.atN)
      · cases hm
    | false =>
      rw [hpr, if_neg (by decide)] at hm
      split at hm
      · rename_i dr dl dt en
        injection hm with hm
        subst hm
        rw [en] at hD hL few1
        cases hD with
        | cons hv hvt =>
          rename_i v vt
          cases hvt with
          | cons hl hvt =>
            rename_i vl vt
            simp only [noListAll, Bool.and_eq_true] at hL
            rw [List.reverse_cons] at hn
            refine ⟨_, rfl, p, C, dx, _, _, rfl, hp, T.cl, T.nNodes, fl_nodes, .inl ⟨rfl, _, SqL.of hn⟩, pop_read hn ?_⟩
            have R1 := R.nodes (.cons hl hvt) (by simp only [noListAll, Bool.and_eq_true]; exact hL.2)
            have hv1 := dp_lst (x := .lst (vl :: vt).reverse) hn hv hL.1
            have hl1 := dp_lst (x := .lst (vl :: vt).reverse) hn hl hL.2.1
            obtain ⟨dx1, hp1⟩ := R1.ob
            refine ⟨_, rfl, aP, _, rfl, .inr (kP.sq _), rfl, flat_strs _, _, rfl, ?_⟩
            show if inV (.str x) (prefL.map V.str) = true then _ else _
            rw [inV_strs, hpr]
            have hn1 : upd H n (.lst (vl :: vt).reverse) n = some (.lst (vt.reverse ++ [vl])) := by rw [upd_same, List.reverse_cons]
            refine iteFc rfl ⟨_, rfl, p, C, dx1, _, _, rfl, hp1, T.cl, T.nNodes, fl_nodes, .inl ⟨rfl, _, SqL.of R1.nd⟩, pop_read hn1 ?_⟩
            have R2 := R1.nodes (ws := vt) (ns := dt) (by cases R1.dp with | cons _ z => exact z) hL.2.2
            have hv2 := dp_lst (x := .lst vt.reverse) hn1 hv1 hL.1
            have hl2 := dp_lst (x := .lst vt.reverse) hn1 hl1 hL.2.1
            obtain ⟨dx2, hp2⟩ := R2.ob
            refine ⟨_, rfl, p, C, dx2, _, _, rfl, hp2, T.cl, T.nNodes, fl_nodes, .inl ⟨rfl, _, SqL.of R2.nd⟩, _, rfl, _, rfl, _, rfl, (by show 3 ≤ sizeLine; decide), fun t nt => ?_⟩
            have R3 := R2.same (same_new (o := .tup [.str x, vl, v]) nt)
            refine ⟨n, _, _, rfl, rfl, R3.nd, ?_, ?_⟩
            · rw [List.length_reverse, dpAll_len hvt]
              have := big3
              simp only [List.length_cons] at few1
              omega
            · have dt' := R3.push (v := .ref t) (d := .tuple [.str x, dl, dr]) (.tup (SqT.of upd_same) (.cons (.str x) (.cons (dp_same (same_new nt) hl2) (.cons (dp_same (same_new nt) hv2) .nil)))) (by simp [noList, noListAll, hL.1, hL.2.1])
              exact k _ _ dt' (((ElseR.atN.trans ElseR.atN).trans (ElseR.same (same_new nt))).trans ElseR.atN)
      · cases hm
end
end XE

set_option Elab.async false
set_option linter.all false
set_option maxRecDepth 100000
set_option maxHeartbeats 4000000
namespace XE
open PySem PySem.Spec PyProof.Rows L2 Rx SX
theorem down_nil {r : RS} {b : Int} (e : r.ops = []) : r.down b = some r := by
  obtain ⟨c, st, m, ns, os, bs⟩ := r
  simp only at e
  subst e
  rfl
theorem down_stop {r : RS} {b : Int} {s : Str} {os : List Str} (e : r.ops = s :: os) (h : ¬ b ≤ bindOf s) : r.down b = some r := by
  obtain ⟨c, st, m, ns, os', bs⟩ := r
  simp only at e
  subst e
  simp only [RS.down, joinDown, if_neg h, Option.map_some]
theorem down_step {r r' : RS} {b : Int} {s : Str} {os : List Str} (e : r.ops = s :: os) (h : b ≤ bindOf s) (k : r.down b = some r') : ∃ ns, joinOp s r.nodes = some ns ∧ ({ r with ops := os, nodes := ns } : RS).down b = some r' := by
  obtain ⟨c, st, m, ns, os', bs⟩ := r
  simp only at e
  subst e
  simp only [RS.down, joinDown, if_pos h] at k
  cases hj : joinOp s ns with
  | none => rw [hj] at k; cases k
  | some ms =>
    rw [hj] at k
    exact ⟨ms, rfl, k⟩
/-- a method of a class, as its callers see it -/
structure MCal (P : Program) (w : World) (K : PySem.W.Frag) (mg : Str → Option Value) (base : Heap) (C : Addr) (k : Nat) (x : Str) (f : Addr) (fd : FuncData) (ps : List Str) (sp : Sp) : Prop where
  ok : FnOk P w K mg base CX0 k f fd ps sp
  me : Meth K C x f
  bi : Binds K fd ps []
section
variable {P : Program} {w : World} {K : PySem.W.Frag} {mg : Str → Option Value} {base : Heap} {C : Addr}
theorem scDn : FnScope ["self", "binding"] ["self", "binding"] (defScope sDown) := ⟨rfl, rfl, rfl, by decide +kernel, rfl, by decide +kernel, by decide +kernel⟩
theorem ok_down {f fJ : Addr} {fd fdJ : FuncData} (F : Fun K "join_down_to" "Reader.join_down_to" sDown f fd) (T : TxtR K w mg C) (CJ : MCal P w K mg base C 1 "join_operands" fJ fdJ ["self", "operator"] (spJoin K C)) : FnOk P w K mg base CX0 2 f fd ["self", "binding"] (spDown K C) := by
  obtain ⟨aB, mB, exB, kB⟩ := T.bind
  refine F.ok scDn (fun vs H Q E h => ?_) (fun cdv A outer s H vs Q E hr h => ?_)
  · obtain ⟨v, x, rfl, _⟩ := h
    rfl
  · obtain ⟨v, x, rfl, p, n, o, b, vs, r, r', rfl, R, few, _, hg, k⟩ := h
    refine ⟨_, pss_one (ps_while PassesOwn.never (PW.pt (pw_and (pt_truth (pe_fld (pv 0) rfl) (by intro _; rfl)) (pw_and1 (pt_cmpR op_ge (pe_kget2 (a := aB) exB (pe_glob (v := .ref aB) rfl mB rfl) (pe_ix ix_list (pe_fld (pv 0) rfl) (pe_un un_neg pe_int) (fun _ _ => rfl)) (pe_un un_neg pe_int) ⟨rfl, rfl, rfl, rfl⟩) (pv 1) (nomark _)))))
      (pss_one (ps_expr (pe_meth (pv 0) T.cl CJ.me CJ.ok hr CJ.bi .nil pass0 (pa_cons (pe_bm0 PySem.F.plainAttrs_list PySem.F.slot_list_pop PySem.F.type_list_pop mt_pop (pe_fld (pv 0) rfl)) pa_nil))))), ?_⟩
    refine ⟨fun m σ H' => ∃ (ws : List V) (r1 : RS), m = r1.ops.length ∧ σ = [some (.ref p), some (.int x)] ∧ RdV K C H' p n o b ws r1 ∧ Few 200000 r1 ∧ r1.down x = some r' ∧ ElseR p n o b H H', ⟨_, vs, r, rfl, rfl, R, few, hg, ElseR.refl⟩, ?_⟩
    rintro m σ H' ⟨ws, r1, rfl, rfl, R1, few1, hg1, el⟩
    obtain ⟨dx, hp⟩ := R1.ob
    cases e : r1.ops with
    | nil =>
      rw [down_nil e] at hg1
      injection hg1 with hg1
      subst hg1
      exact ⟨_, rfl, p, C, dx, _, _, rfl, hp, T.cl, T.nOps, fl_ops, false, .inl ⟨_, SqL.of R1.op, by rw [e]; rfl⟩, iteFc rfl (iteFc rfl (k _ _ R1 el))⟩
    | cons y os =>
      have ho := R1.op' e
      refine ⟨_, rfl, p, C, dx, _, _, rfl, hp, T.cl, T.nOps, fl_ops, true, .inl ⟨_, SqL.of ho, by simp⟩, iteTc rfl ?_⟩
      have hb : (((bindO y).map V.int).getD (.int (-1))) = V.int (bindOf y) := by unfold bindOf; cases bindO y <;> rfl
      refine ⟨rfl, _, rfl, p, C, dx, _, _, rfl, hp, T.cl, T.nOps, fl_ops, _, rfl, o, _, _, _, rfl, rfl, SqL.of ho, atI_last _ _, _, rfl, y, _, rfl, kB y (R1.ok y (by rw [e]; exact List.mem_cons_self)), _, rfl, bindOf y, x, hb, rfl, _, rfl, ite2 (fun d => ?_) (fun d => ?_)⟩
      · have hle : x ≤ bindOf y := of_decide_eq_true d
        obtain ⟨ns, hj, hg2⟩ := down_step e hle hg1
        refine ⟨_, fun _ _ h => h, _, rfl, p, dx, _, rfl, hp, fl_no (by decide +kernel), _, rfl, p, C, dx, _, _, rfl, hp, T.cl, T.nOps, fl_ops, .inl ⟨rfl, _, SqL.of ho⟩, pop_read ho ?_⟩
        have R2 := R1.ops (os := os) (fun z hz => R1.ok z (by rw [e]; exact List.mem_cons_of_mem _ hz))
        have l1 := few1.op
        rw [e, List.length_cons] at l1
        refine ⟨.ref p, y, rfl, p, n, o, b, ws, _, { r1 with ops := os, nodes := ns }, rfl, R2, ⟨few1.nd, by show os.length ≤ _; omega, few1.br⟩, trivial, by show (joinOp y r1.nodes).map _ = _; rw [hj]; rfl, fun H3 us R3 el3 => ?_⟩
        refine ⟨os.length, by simp, us, _, rfl, rfl, R3, ⟨Nat.le_trans (joinOp_len hj) few1.nd, by show os.length ≤ _; omega, few1.br⟩, hg2, el.trans (ElseR.atO.trans el3)⟩
      · have hle : ¬ x ≤ bindOf y := fun z => d (decide_eq_true z)
        rw [down_stop e hle] at hg1
        injection hg1 with hg1
        subst hg1
        exact k _ _ R1 el
end
end XE

set_option Elab.async false
set_option linter.all false
set_option maxRecDepth 100000
set_option maxHeartbeats 4000000
namespace XE
open PySem PySem.Spec PyProof.Rows L2 Rx SX
theorem dstr (a b : Str) : decide (V.str a = V.str b) = decide (a = b) := by
  rw [decide_eq_decide]
  exact ⟨fun h => by injection h, fun h => by rw [h]⟩
/-- a question to the reader -/
def spAsk (K : PySem.W.Frag) (C : Addr) (g : RS → Str → Bool) : Sp := fun us H Q _ => ∃ (p n o b : Addr) (vs : List V) (r : RS) (s : Str), us = [.ref p, .str s] ∧ RdV K C H p n o b vs r ∧ ∀ H', Same H H' → Q (.bl (g r s)) H'
section
variable {P : Program} {w : World} {K : PySem.W.Frag} {mg : Str → Option Value} {base : Heap} {C : Addr}
theorem scMB : FnScope ["self", "sign"] ["self", "sign"] (defScope sMayB) := ⟨rfl, rfl, rfl, by decide +kernel, rfl, by decide +kernel, by decide +kernel⟩
theorem ok_mayBegin {f : Addr} {fd : FuncData} (F : Fun K "may_begin" "Reader.may_begin" sMayB f fd) (T : TxtR K w mg C) : FnOk P w K mg base CX0 1 f fd ["self", "sign"] (spAsk K C RS.mayBegin) := by
  refine F.ok scMB (fun vs H Q E h => ?_) (fun cdv A outer s H vs Q E hr h => ?_)
  · obtain ⟨p, n, o, b, vs, r, s, rfl, _⟩ := h
    rfl
  · obtain ⟨p, n, o, b, vs, r, s, rfl, R, k⟩ := h
    refine ⟨_, pss_cons (ps_if (pt_cmpR op_in_seq (pv 1) (pe_tup (pa_cons pe_str (pa_cons pe_str (pa_cons pe_str (pa_cons pe_str pa_nil))))) (by rfl)) (pss_one (ps_ret pe_bl)) pss_nil)
      (pss_one (ps_ret (pe_and (pe_cmpR op_eq (pe_fld (pv 0) rfl) pe_str (nomark _)) (pe_one (pe_cmpR op_in_seq (pv 1) (pe_tup (pa_cons pe_str (pa_cons pe_str pa_nil))) (by rfl)))))), ?_⟩
    refine ⟨_, rfl, (by show 4 ≤ sizeLine; decide), fun t nt => ⟨t, begL.map V.str, rfl, .inr (SqT.of upd_same), rfl, flat_strs _, _, rfl, ?_⟩⟩
    show if inV (.str s) (begL.map V.str) = true then _ else _
    rw [inV_strs]
    have s1 : Same H (upd H t (.tup (begL.map V.str))) := same_new nt
    cases hb : begL.contains s with
    | true =>
      have := k _ s1
      unfold RS.mayBegin at this
      rw [hb] at this
      exact iteTc rfl this
    | false =>
      have R1 := R.same s1
      obtain ⟨dx, hp⟩ := R1.ob
      refine iteFc rfl ⟨_, rfl, p, C, dx, _, _, rfl, hp, T.cl, T.nStage, fl_stage, rfl, _, rfl, ?_⟩
      rw [dstr]
      cases hs : decide (r.stage = "condition") with
      | false =>
        have := k _ s1
        unfold RS.mayBegin at this
        rw [hb, hs] at this
        exact iteFc rfl this
      | true =>
        refine iteTc rfl ⟨_, rfl, (by show 2 ≤ sizeLine; decide), fun t2 nt2 => ⟨t2, notL.map V.str, rfl, .inr (SqT.of upd_same), rfl, flat_strs _, ?_⟩⟩
        have s2 := s1.trans (same_new (o := .tup (notL.map V.str)) nt2)
        have := k _ s2
        unfold RS.mayBegin at this
        rw [hb, hs] at this
        show Q (.bl (inV (.str s) (notL.map V.str))) _
        rw [inV_strs]
        exact this
theorem scMF : FnScope ["self", "sign", "bracket"] ["self", "sign"] (defScope sMayF) := ⟨rfl, rfl, rfl, by decide +kernel, rfl, by decide +kernel, by decide +kernel⟩
/-- the innermost open bracket, or None -/
def brV (r : RS) : V := match r.brs with
  | [] => .non
  | y :: _ => .str y
theorem brV_eq (r : RS) (x : Str) : decide (brV r = .str x) = decide (r.brs.head? = some x) := by
  unfold brV
  cases h : r.brs with
  | nil => rfl
  | cons y bs =>
    rw [dstr]
    simp
theorem brV_scal (r : RS) (x : Str) : scal (brV r) (.str x) = true := by
  unfold brV
  cases r.brs <;> rfl
theorem ok_mayFollow {f : Addr} {fd : FuncData} (F : Fun K "may_follow" "Reader.may_follow" sMayF f fd) (T : TxtR K w mg C) : FnOk P w K mg base CX0 1 f fd ["self", "sign"] (spAsk K C RS.mayFollow) := by
  obtain ⟨aA, mA, kA⟩ := T.arith
  obtain ⟨aC, mC, kC⟩ := T.comp
  refine F.ok scMF (fun vs H Q E h => ?_) (fun cdv A outer s H vs Q E hr h => ?_)
  · obtain ⟨p, n, o, b, vs, r, s, rfl, _⟩ := h
    rfl
  · obtain ⟨p, n, o, b, vs, r, s, rfl, R, k⟩ := h
    refine ⟨_, C8.pss_cut (ps_if (PW.pt (pw_and (pt_cmpR op_eq (pe_fld (pv 0) rfl) pe_str (nomark _)) (pw_and1 (pt_cmpR op_in_seq (pv 1) (pe_glob (v := .ref aA) rfl mA rfl) (by rfl))))) (pss_one (ps_ret pe_bl)) pss_nil)
      (C8.pss_cut (ps_set (i := 2) scMF.nd rfl (.inl rfl) (pe_ifExp (pt_truth (pe_fld (pv 0) rfl) (by intro _; rfl)) (pe_ix ix_list (pe_fld (pv 0) rfl) (pe_un un_neg pe_int) (fun _ _ => rfl)) pe_non))
      (pss_cons (ps_if (pt_cmpR op_eq (pv 2) pe_str (nomark _)) (pss_one (ps_ret (pe_cmpR op_eq (pv 1) pe_str (nomark _)))) pss_nil)
      (pss_cons (ps_if (pt_not (pt_val (pe_fld (pv 0) rfl))) (pss_one (ps_ret (pe_cmpR op_eq (pv 1) pe_str (nomark _)))) pss_nil)
      (C8.pss_cut (ps_if (PW.pt (pw_and (pt_cmpR op_eq (pe_fld (pv 0) rfl) pe_str (nomark _)) (pw_and1 (pt_not (pt_val (pe_fld (pv 0) rfl)))))) (pss_one (ps_ret (pe_cmpR op_in_seq (pv 1) (pe_glob (v := .ref aC) rfl mC rfl) (by rfl)))) pss_nil)
      (pss_cons (ps_if (pt_cmpR op_eq (pv 2) pe_str (nomark _)) (pss_one (ps_ret (pe_cmpR op_in_seq (pv 1) (pe_tup (pa_cons pe_str (pa_cons pe_str (pa_cons pe_str pa_nil)))) (by rfl)))) pss_nil)
      (pss_one (ps_ret (pe_cmpR op_in_seq (pv 1) (pe_tup (pa_cons pe_str (pa_cons pe_str (pa_cons pe_str pa_nil)))) (by rfl))))))))), ?_⟩
    obtain ⟨dx, hp⟩ := R.ob
    have kk := k
    unfold RS.mayFollow at kk
    refine ⟨fun σ H' => σ = [some (.ref p), some (.str s), none] ∧ H' = H ∧ (decide (r.stage = "expression") && arithL.contains s) = false, ?_, ?_⟩
    · refine ⟨_, rfl, p, C, dx, _, _, rfl, hp, T.cl, T.nStage, fl_stage, rfl, _, rfl, ?_⟩
      rw [dstr]
      cases hs : decide (r.stage = "expression") with
      | false => exact iteFc rfl (iteFc rfl ⟨rfl, rfl, rfl⟩)
      | true =>
        refine iteTc rfl ⟨_, rfl, aA, _, rfl, .inr (kA.sq _), rfl, flat_strs _, _, rfl, ?_⟩
        show if inV (.str s) (arithL.map V.str) = true then _ else _
        rw [inV_strs]
        cases ha : arithL.contains s with
        | false => exact iteFc rfl ⟨rfl, rfl, rfl⟩
        | true =>
          have := kk H (Same.refl H)
          rw [hs, ha] at this
          exact iteTc rfl this
    rintro σ H' ⟨rfl, rfl, hf⟩
    rw [hf, if_neg (by decide)] at kk
    refine ⟨fun σ H1 => σ = [some (.ref p), some (.str s), some (brV r)] ∧ H1 = H', ?_, ?_⟩
    · cases e : r.brs with
      | nil =>
        refine ⟨_, rfl, p, C, dx, _, _, rfl, hp, T.cl, T.nBrs, fl_brs, false, .inl ⟨_, SqL.of R.br, by rw [e]; rfl⟩, iteFc rfl ⟨?_, rfl⟩⟩
        unfold brV
        rw [e]
        rfl
      | cons y bs =>
        have hb := R.br' e
        refine ⟨_, rfl, p, C, dx, _, _, rfl, hp, T.cl, T.nBrs, fl_brs, true, .inl ⟨_, SqL.of hb, by simp⟩, iteTc rfl ⟨_, rfl, p, C, dx, _, _, rfl, hp, T.cl, T.nBrs, fl_brs, _, rfl, b, _, _, _, rfl, rfl, SqL.of hb, atI_last _ _, ?_, rfl⟩⟩
        unfold brV
        rw [e]
        rfl
    rintro σ H1 ⟨rfl, rfl⟩
    refine ⟨_, rfl, brV_scal r _, _, rfl, ?_⟩
    rw [brV_eq]
    by_cases e1 : r.brs.head? = some ("(" : Str)
    · rw [decide_eq_true e1]
      rw [if_pos e1] at kk
      have := kk H1 (Same.refl H1)
      rw [← dstr] at this
      exact iteTc rfl ⟨_, rfl, rfl, this⟩
    rw [decide_eq_false e1]
    rw [if_neg e1] at kk
    refine iteFc rfl ⟨_, rfl, p, C, dx, _, _, rfl, hp, T.cl, T.nCond, fl_cond, _, rfl, ?_⟩
    cases hc : r.cond with
    | false =>
      rw [hc, if_pos rfl] at kk
      have := kk H1 (Same.refl H1)
      rw [← dstr] at this
      exact iteTc rfl ⟨_, rfl, rfl, this⟩
    | true =>
      rw [hc, if_neg (by decide)] at kk
      refine iteFc rfl ?_
      refine ⟨fun σ H2 => σ = [some (.ref p), some (.str s), some (brV r)] ∧ H2 = H1 ∧ (decide (r.stage = "expression") && !r.cmp) = false, ?_, ?_⟩
      · refine ⟨_, rfl, p, C, dx, _, _, rfl, hp, T.cl, T.nStage, fl_stage, rfl, _, rfl, ?_⟩
        rw [dstr]
        cases hs : decide (r.stage = "expression") with
        | false => exact iteFc rfl (iteFc rfl ⟨rfl, rfl, rfl⟩)
        | true =>
          refine iteTc rfl ⟨_, rfl, p, C, dx, _, _, rfl, hp, T.cl, T.nCmp, fl_cmp, _, rfl, ?_⟩
          cases hm : r.cmp with
          | true => exact iteFc rfl ⟨rfl, rfl, rfl⟩
          | false =>
            have := kk H1 (Same.refl H1)
            rw [hs, hm] at this
            refine iteTc rfl ⟨_, rfl, aC, _, rfl, .inr (kC.sq _), rfl, flat_strs _, ?_⟩
            show Q (.bl (inV (.str s) (compL.map V.str))) _
            rw [inV_strs]
            exact this
      rintro σ H2 ⟨rfl, rfl, hf2⟩
      rw [hf2, if_neg (by decide)] at kk
      refine ⟨_, rfl, brV_scal r _, _, rfl, ?_⟩
      rw [brV_eq]
      by_cases e2 : r.brs.head? = some ("[" : Str)
      · rw [decide_eq_true e2]
        rw [if_pos e2] at kk
        refine iteTc rfl ⟨_, rfl, (by show 3 ≤ sizeLine; decide), fun t nt => ⟨t, (["and", "or", "]"] : List Str).map V.str, rfl, .inr (SqT.of upd_same), rfl, flat_strs _, ?_⟩⟩
        show Q (.bl (inV (.str s) ((["and", "or", "]"] : List Str).map V.str))) _
        rw [inV_strs]
        exact kk _ (same_new nt)
      · rw [decide_eq_false e2]
        rw [if_neg e2] at kk
        refine iteFc rfl ⟨_, rfl, (by show 3 ≤ sizeLine; decide), fun t nt => ⟨t, (["and", "or", "end"] : List Str).map V.str, rfl, .inr (SqT.of upd_same), rfl, flat_strs _, ?_⟩⟩
        show Q (.bl (inV (.str s) ((["and", "or", "end"] : List Str).map V.str))) _
        rw [inV_strs]
        exact kk _ (same_new nt)
theorem scFt : FnScope ["self", "sign"] ["self", "sign"] (defScope sFits) := ⟨rfl, rfl, rfl, by decide +kernel, rfl, by decide +kernel, by decide +kernel⟩
theorem ok_fits {f fB fF : Addr} {fd fdB fdF : FuncData} (F : Fun K "fits" "Reader.fits" sFits f fd) (T : TxtR K w mg C) (CB : MCal P w K mg base C 1 "may_begin" fB fdB ["self", "sign"] (spAsk K C RS.mayBegin)) (CF : MCal P w K mg base C 1 "may_follow" fF fdF ["self", "sign"] (spAsk K C RS.mayFollow)) : FnOk P w K mg base CX0 2 f fd ["self", "sign"] (spAsk K C RS.fits) := by
  refine F.ok scFt (fun vs H Q E h => ?_) (fun cdv A outer s H vs Q E hr h => ?_)
  · obtain ⟨p, n, o, b, vs, r, s, rfl, _⟩ := h
    rfl
  · obtain ⟨p, n, o, b, vs, r, s, rfl, R, k⟩ := h
    refine ⟨_, pss_cons (ps_if (PW.pt (pw_or (pt_cmpR op_eq (pe_fld (pv 0) rfl) pe_str (nomark _)) (pw_or1 (pt_cmpR op_eq (pe_fld (pv 0) rfl) pe_str (nomark _))))) (pss_one (ps_ret (pe_meth (pv 0) T.cl CB.me CB.ok hr CB.bi .nil pass0 (pa_cons (pv 1) pa_nil)))) pss_nil)
      (pss_one (ps_ret (pe_meth (pv 0) T.cl CF.me CF.ok hr CF.bi .nil pass0 (pa_cons (pv 1) pa_nil)))), ?_⟩
    obtain ⟨dx, hp⟩ := R.ob
    unfold RS.fits RS.starts at k
    refine ⟨_, rfl, p, C, dx, _, _, rfl, hp, T.cl, T.nStage, fl_stage, rfl, _, rfl, ?_⟩
    rw [dstr]
    cases h1 : decide (r.stage = "condition") with
    | true =>
      refine iteTc rfl (iteTc rfl ⟨_, rfl, p, dx, _, rfl, hp, fl_no (by decide +kernel), _, rfl, p, n, o, b, vs, r, s, rfl, R, fun H' sm => ?_⟩)
      have := k H' sm
      rw [h1] at this
      exact this
    | false =>
      refine iteFc rfl ⟨_, rfl, p, C, dx, _, _, rfl, hp, T.cl, T.nStage, fl_stage, rfl, _, rfl, ?_⟩
      rw [dstr]
      cases h2 : decide (r.stage = "factor") with
      | true =>
        refine iteTc rfl ⟨_, rfl, p, dx, _, rfl, hp, fl_no (by decide +kernel), _, rfl, p, n, o, b, vs, r, s, rfl, R, fun H' sm => ?_⟩
        have := k H' sm
        rw [h1, h2] at this
        exact this
      | false =>
        refine iteFc rfl ⟨_, rfl, p, dx, _, rfl, hp, fl_no (by decide +kernel), _, rfl, p, n, o, b, vs, r, s, rfl, R, fun H' sm => ?_⟩
        have := k H' sm
        rw [h1, h2] at this
        exact this
end
end XE

set_option Elab.async false
set_option linter.all false
set_option maxRecDepth 100000
set_option maxHeartbeats 4000000
namespace XE
open PySem PySem.Spec PyProof.Rows L2 Rx SX
/-- the operators between two operands -/
def midL : List Str := ["or", "and", "=", "!=", "<", "<=", ">", ">=", "+", "-", "*", "//", "mod"]
theorem mid_ops : ∀ s ∈ midL, s ∈ opsL := by decide +kernel
theorem mid_bind : ∀ s ∈ midL, (bindO s).isSome = true := by decide +kernel
theorem follow_mid {r : RS} {s : Str} (h : r.mayFollow s = true) : s ∈ midL ∨ s = ")" ∨ s = "]" ∨ s = "end" := by
  unfold RS.mayFollow at h
  have ha : ∀ x ∈ arithL, x ∈ midL := by decide +kernel
  have hc : ∀ x ∈ compL, x ∈ midL := by decide +kernel
  have h1 : ∀ x ∈ (["and", "or", "]"] : List Str), x ∈ midL ∨ x = ")" ∨ x = "]" ∨ x = "end" := by decide +kernel
  have h2 : ∀ x ∈ (["and", "or", "end"] : List Str), x ∈ midL ∨ x = ")" ∨ x = "]" ∨ x = "end" := by decide +kernel
  split at h
  · rename_i e
    rw [Bool.and_eq_true] at e
    exact .inl (ha s (List.contains_iff_mem.mp e.2))
  split at h
  · exact .inr (.inl (of_decide_eq_true h))
  split at h
  · exact .inr (.inr (.inr (of_decide_eq_true h)))
  split at h
  · exact .inl (hc s (List.contains_iff_mem.mp h))
  split at h
  · exact h1 s (List.contains_iff_mem.mp h)
  · exact h2 s (List.contains_iff_mem.mp h)
theorem kget_dct {K : PySem.W.Frag} {w : World} {a : Addr} {x : Str} {v : V} (h : KGet K w a x (some v)) : KDct K w a x v := by
  obtain ⟨es, n, r, h1, h2, _, h4, h5⟩ := h
  cases r with
  | none => exact h5.elim
  | some u => exact ⟨es, n, u, h1, h2, h4, h5⟩
section
variable {K : PySem.W.Frag} {C p n o b dx : Addr} {H : Hp} {vs : List V} {r : RS}
theorem RdV.stage (A : RdV K C H p n o b vs r) {st : Str} : RdV K C (upd H p (.ins C dx (putF "stage" (.str st) (fl r.cond r.stage r.cmp n o b)))) p n o b vs { r with stage := st } := by
  rw [fl_pstage]
  exact A.flds
theorem RdV.cmp (A : RdV K C H p n o b vs r) {k : Bool} : RdV K C (upd H p (.ins C dx (putF "compared" (.bl k) (fl r.cond r.stage r.cmp n o b)))) p n o b vs { r with cmp := k } := by
  rw [fl_pcmp]
  exact A.flds
end
def spBegin (K : PySem.W.Frag) (C : Addr) : Sp := fun us H Q _ => ∃ (p0 : V) (s : Str) (v : V), us = [p0, .str s, v] ∧ FlatW v ∧ spR K C [] (fun r => some (r.begin_ s v)) (fun r => r.mayBegin s = true) p0 H Q
def spClose (K : PySem.W.Frag) (C : Addr) : Sp := fun us H Q _ => ∃ (p0 : V) (s : Str), us = [p0, .str s] ∧ spR K C [] (fun r => r.close_ s) (fun _ => True) p0 H Q
def spMid (K : PySem.W.Frag) (C : Addr) : Sp := fun us H Q _ => ∃ (p0 : V) (s : Str), us = [p0, .str s] ∧ s ∈ midL ∧ spR K C [] (fun r => r.between s) (fun _ => True) p0 H Q
def spTake (K : PySem.W.Frag) (C : Addr) : Sp := fun us H Q _ => ∃ (p0 : V) (s : Str) (v : V), us = [p0, .str s, v] ∧ FlatW v ∧ spR K C [] (fun r => r.takeIn s v) (fun r => r.fits s = true) p0 H Q
section
variable {P : Program} {w : World} {K : PySem.W.Frag} {mg : Str → Option Value} {base : Heap} {C : Addr}
theorem six (c m : Bool) (st : Str) (n o b : Addr) : (fl c st m n o b).length < 1000 := by show 6 < 1000; decide
theorem scBg : FnScope ["self", "sign", "worth"] ["self", "sign", "worth"] (defScope sBegin) := ⟨rfl, rfl, rfl, by decide +kernel, rfl, by decide +kernel, by decide +kernel⟩
theorem ok_begin {f : Addr} {fd : FuncData} (F : Fun K "begin" "Reader.begin" sBegin f fd) (T : TxtR K w mg C) : FnOk P w K mg base CX0 1 f fd ["self", "sign", "worth"] (spBegin K C) := by
  refine F.ok scBg (fun vs H Q E h => ?_) (fun cdv A outer s H vs Q E hr h => ?_)
  · obtain ⟨p0, s, v, rfl, _⟩ := h
    rfl
  · obtain ⟨p0, s, v, rfl, fv, p, n, o, b, vs, r, r', rfl, R, few, pre, hg, k⟩ := h
    have few1 := few.nd
    have few2 := few.op
    have few3 := few.br
    have hbig := big3
    refine ⟨_, pss_one (ps_if (PW.pt (pw_or (pt_cmpR op_eq (pv 1) pe_str (nomark _)) (pw_or1 (pt_cmpR op_eq (pv 1) pe_str (nomark _)))))
      (pss_cons (ps_expr (pe_bm PySem.F.plainAttrs_list PySem.F.slot_list_append PySem.F.type_list_append mt_append (pe_fld (pv 0) rfl) (pa_cons (pe_tup (pa_cons (pv 1) (pa_cons (pv 2) pa_nil))) pa_nil))) (pss_one (ps_fld (pv 0) pe_str rfl)))
      (pss_one (ps_if (pt_cmpR op_eq (pv 1) pe_str (nomark _))
        (pss_cons (ps_expr (pe_bm PySem.F.plainAttrs_list PySem.F.slot_list_append PySem.F.type_list_append mt_append (pe_fld (pv 0) rfl) (pa_cons pe_str pa_nil))) (pss_one (ps_fld (pv 0) pe_str rfl)))
        (pss_one (ps_if (pt_cmpR op_eq (pv 1) pe_str (nomark _))
          (pss_cons (ps_expr (pe_bm PySem.F.plainAttrs_list PySem.F.slot_list_append PySem.F.type_list_append mt_append (pe_fld (pv 0) rfl) (pa_cons (pv 1) pa_nil)))
            (pss_cons (ps_expr (pe_bm PySem.F.plainAttrs_list PySem.F.slot_list_append PySem.F.type_list_append mt_append (pe_fld (pv 0) rfl) (pa_cons (pv 1) pa_nil))) (pss_one (ps_fld (pv 0) pe_str rfl))))
          (pss_cons (ps_expr (pe_bm PySem.F.plainAttrs_list PySem.F.slot_list_append PySem.F.type_list_append mt_append (pe_fld (pv 0) rfl) (pa_cons (pv 1) pa_nil)))
            (pss_one (ps_if (pt_cmpR op_eq (pv 1) pe_str (nomark _)) (pss_one (ps_expr (pe_bm PySem.F.plainAttrs_list PySem.F.slot_list_append PySem.F.type_list_append mt_append (pe_fld (pv 0) rfl) (pa_cons (pv 1) pa_nil)))) pss_nil)))))))), ?_⟩
    injection hg with hg
    subst hg
    obtain ⟨dx, hp⟩ := R.ob
    by_cases hv : s = "number" ∨ s = "variable"
    · have e : r.begin_ s v = { r with nodes := .tuple [.str s, dOf v] :: r.nodes, stage := "expression" } := if_pos hv
      rw [e] at k
      clear e
      rcases hv with hs | hs
      case' inl => refine ⟨_, rfl, rfl, _, rfl, iteTc (by rw [dstr]; exact decide_eq_true hs) (iteTc rfl ?_)⟩
      case' inr => refine ⟨_, rfl, rfl, _, rfl, iteFc (by rw [dstr, hs]; decide +kernel) ⟨_, rfl, rfl, _, rfl, iteTc (by rw [dstr]; exact decide_eq_true hs) ?_⟩⟩
      all_goals
        refine ⟨_, rfl, p, C, dx, _, _, rfl, hp, T.cl, T.nNodes, fl_nodes, .inl ⟨rfl, _, SqL.of R.nd⟩, _, rfl, _, rfl, (by show 2 ≤ sizeLine; decide), fun t nt => ?_⟩
        have R1 := R.same (same_new (o := .tup [.str s, v]) nt)
        refine ⟨n, _, _, rfl, rfl, R1.nd, (by rw [List.length_reverse, dpAll_len R.dp]; omega), ?_⟩
        have R2 := R1.push (v := .ref t) (.tup (SqT.of upd_same) (.cons (.str _) (.cons fv.dp .nil))) (by simp [noList, noListAll, dOf_noList])
        obtain ⟨dx2, hp2⟩ := R2.ob
        refine ⟨_, rfl, p, C, dx2, _, rfl, hp2, T.cl, T.nStage, six _ _ _ _ _ _, ?_⟩
        exact k _ _ R2.stage (((ElseR.same (same_new nt)).trans ElseR.atN).trans ElseR.atP)
    have hv1 : ¬ s = "number" := fun z => hv (.inl z)
    have hv2 : ¬ s = "variable" := fun z => hv (.inr z)
    refine ⟨_, rfl, rfl, _, rfl, iteFc (by rw [dstr]; exact decide_eq_false hv1) ⟨_, rfl, rfl, _, rfl, iteFc (by rw [dstr]; exact decide_eq_false hv2) ?_⟩⟩
    by_cases hm : s = "-"
    · have e : r.begin_ s v = { r with ops := "negate" :: r.ops, stage := "factor" } := by unfold RS.begin_; rw [if_neg hv, if_pos hm]
      rw [e] at k
      refine ⟨_, rfl, rfl, _, rfl, iteTc (by rw [dstr]; exact decide_eq_true hm) ?_⟩
      refine ⟨_, rfl, p, C, dx, _, _, rfl, hp, T.cl, T.nOps, fl_ops, .inl ⟨rfl, _, SqL.of R.op⟩, o, _, _, rfl, rfl, R.op, (by rw [List.length_reverse, List.length_map]; omega), ?_⟩
      have R2 := R.pushO (s := "negate") (by decide +kernel)
      obtain ⟨dx2, hp2⟩ := R2.ob
      refine ⟨_, rfl, p, C, dx2, _, rfl, hp2, T.cl, T.nStage, six _ _ _ _ _ _, ?_⟩
      exact k _ _ R2.stage (ElseR.atO.trans ElseR.atP)
    refine ⟨_, rfl, rfl, _, rfl, iteFc (by rw [dstr]; exact decide_eq_false hm) ?_⟩
    by_cases hq : s = "("
    · have e : r.begin_ s v = { r with ops := s :: r.ops, brs := s :: r.brs, stage := "factor" } := by unfold RS.begin_; rw [if_neg hv, if_neg hm, if_pos hq]
      rw [e] at k
      refine ⟨_, rfl, rfl, _, rfl, iteTc (by rw [dstr]; exact decide_eq_true hq) ?_⟩
      refine ⟨_, rfl, p, C, dx, _, _, rfl, hp, T.cl, T.nOps, fl_ops, .inl ⟨rfl, _, SqL.of R.op⟩, _, rfl, o, _, _, rfl, rfl, R.op, (by rw [List.length_reverse, List.length_map]; omega), ?_⟩
      have R2 := R.pushO (s := s) (by rw [hq]; decide +kernel)
      obtain ⟨dx2, hp2⟩ := R2.ob
      refine ⟨_, rfl, p, C, dx2, _, _, rfl, hp2, T.cl, T.nBrs, fl_brs, .inl ⟨rfl, _, SqL.of R2.br⟩, _, rfl, b, _, _, rfl, rfl, R2.br, (by rw [List.length_reverse, List.length_map]; show r.brs.length < _; omega), ?_⟩
      have R3 := R2.pushB (s := s)
      obtain ⟨dx3, hp3⟩ := R3.ob
      refine ⟨_, rfl, p, C, dx3, _, rfl, hp3, T.cl, T.nStage, six _ _ _ _ _ _, ?_⟩
      exact k _ _ R3.stage ((ElseR.atO.trans ElseR.atB).trans ElseR.atP)
    refine ⟨_, rfl, rfl, _, rfl, iteFc (by rw [dstr]; exact decide_eq_false hq) ?_⟩
    have hops : s ∈ opsL := by
      unfold RS.mayBegin at pre
      have h1 : begL.contains s = false := by
        rw [← Bool.not_eq_true, List.contains_iff_mem]
        intro z
        simp only [begL, List.mem_cons, List.not_mem_nil, or_false] at z
        rcases z with z | z | z | z
        · exact hv1 z
        · exact hv2 z
        · exact hm z
        · exact hq z
      rw [h1, Bool.false_or, Bool.and_eq_true] at pre
      have : ∀ x ∈ notL, x ∈ opsL := by decide +kernel
      exact this s (List.contains_iff_mem.mp pre.2)
    refine ⟨_, rfl, p, C, dx, _, _, rfl, hp, T.cl, T.nOps, fl_ops, .inl ⟨rfl, _, SqL.of R.op⟩, _, rfl, o, _, _, rfl, rfl, R.op, (by rw [List.length_reverse, List.length_map]; omega), ?_⟩
    have R2 := R.pushO hops
    obtain ⟨dx2, hp2⟩ := R2.ob
    by_cases hb : s = "["
    · have e : r.begin_ s v = { r with ops := s :: r.ops, brs := s :: r.brs } := by unfold RS.begin_; rw [if_neg hv, if_neg hm, if_neg hq, if_pos hb]
      rw [e] at k
      refine ⟨_, rfl, rfl, _, rfl, iteTc (by rw [dstr]; exact decide_eq_true hb) ?_⟩
      refine ⟨_, rfl, p, C, dx2, _, _, rfl, hp2, T.cl, T.nBrs, fl_brs, .inl ⟨rfl, _, SqL.of R2.br⟩, _, rfl, b, _, _, rfl, rfl, R2.br, (by rw [List.length_reverse, List.length_map]; show r.brs.length < _; omega), ?_⟩
      exact k _ _ R2.pushB (ElseR.atO.trans ElseR.atB)
    · have e : r.begin_ s v = { r with ops := s :: r.ops } := by unfold RS.begin_; rw [if_neg hv, if_neg hm, if_neg hq, if_neg hb]
      rw [e] at k
      exact ⟨_, rfl, rfl, _, rfl, iteFc (by rw [dstr]; exact decide_eq_false hb) (k _ _ R2 ElseR.atO)⟩
theorem scCl : FnScope ["self", "sign"] ["self", "sign"] (defScope sClose) := ⟨rfl, rfl, rfl, by decide +kernel, rfl, by decide +kernel, by decide +kernel⟩
theorem ok_close {f fD : Addr} {fd fdD : FuncData} (F : Fun K "close" "Reader.close" sClose f fd) (T : TxtR K w mg C) (CD : MCal P w K mg base C 2 "join_down_to" fD fdD ["self", "binding"] (spDown K C)) : FnOk P w K mg base CX0 3 f fd ["self", "sign"] (spClose K C) := by
  refine F.ok scCl (fun vs H Q E h => ?_) (fun cdv A outer s H vs Q E hr h => ?_)
  · obtain ⟨p0, s, rfl, _⟩ := h
    rfl
  · obtain ⟨p0, s, rfl, p, n, o, b, vs, r, r', rfl, R, few, pre, hg, k⟩ := h
    refine ⟨_, pss_cons (ps_expr (pe_meth (pv 0) T.cl CD.me CD.ok hr CD.bi .nil pass0 (pa_cons pe_int pa_nil)))
      (pss_cons (ps_expr (pe_bm0 PySem.F.plainAttrs_list PySem.F.slot_list_pop PySem.F.type_list_pop mt_pop (pe_fld (pv 0) rfl)))
      (pss_cons (ps_expr (pe_bm0 PySem.F.plainAttrs_list PySem.F.slot_list_pop PySem.F.type_list_pop mt_pop (pe_fld (pv 0) rfl)))
      (pss_one (ps_fld (pv 0) (pe_ifExp (pt_cmpR op_eq (pv 1) pe_str (nomark _)) pe_str pe_str) rfl)))), ?_⟩
    obtain ⟨dx, hp⟩ := R.ob
    unfold RS.close_ at hg
    obtain ⟨q, hd, hg⟩ := Option.bind_eq_some_iff.mp hg
    refine ⟨_, rfl, p, dx, _, rfl, hp, fl_no (by decide +kernel), .ref p, 0, rfl, p, n, o, b, vs, r, q, rfl, R, few, trivial, hd, fun H1 ws R1 el1 => ?_⟩
    obtain ⟨dx1, hp1⟩ := R1.ob
    split at hg
    · rename_i y os z bs e1 e2
      injection hg with hg
      subst hg
      have ho := R1.op' e1
      refine ⟨_, rfl, p, C, dx1, _, _, rfl, hp1, T.cl, T.nOps, fl_ops, .inl ⟨rfl, _, SqL.of ho⟩, pop_read ho ?_⟩
      have R2 := R1.ops (os := os) (fun x hx => R1.ok x (by rw [e1]; exact List.mem_cons_of_mem _ hx))
      obtain ⟨dx2, hp2⟩ := R2.ob
      have hb := R2.br' (s := z) (os := bs) e2
      refine ⟨_, rfl, p, C, dx2, _, _, rfl, hp2, T.cl, T.nBrs, fl_brs, .inl ⟨rfl, _, SqL.of hb⟩, pop_read hb ?_⟩
      have R3 := R2.brs (bs := bs)
      obtain ⟨dx3, hp3⟩ := R3.ob
      refine ⟨_, rfl, rfl, _, rfl, ?_⟩
      rw [dstr]
      by_cases hs : s = "]"
      · rw [if_pos hs] at k
        rw [decide_eq_true hs]
        exact iteTc rfl ⟨_, rfl, p, C, dx3, _, rfl, hp3, T.cl, T.nStage, six _ _ _ _ _ _, k _ _ R3.stage (el1.trans ((ElseR.atO.trans ElseR.atB).trans ElseR.atP))⟩
      · rw [if_neg hs] at k
        rw [decide_eq_false hs]
        exact iteFc rfl ⟨_, rfl, p, C, dx3, _, rfl, hp3, T.cl, T.nStage, six _ _ _ _ _ _, k _ _ R3.stage (el1.trans ((ElseR.atO.trans ElseR.atB).trans ElseR.atP))⟩
    · cases hg
theorem scPB : FnScope ["self", "sign"] ["self", "sign"] (defScope sPutB) := ⟨rfl, rfl, rfl, by decide +kernel, rfl, by decide +kernel, by decide +kernel⟩
theorem ok_mid {f fD : Addr} {fd fdD : FuncData} (F : Fun K "put_between" "Reader.put_between" sPutB f fd) (T : TxtR K w mg C) (CD : MCal P w K mg base C 2 "join_down_to" fD fdD ["self", "binding"] (spDown K C)) : FnOk P w K mg base CX0 3 f fd ["self", "sign"] (spMid K C) := by
  obtain ⟨aB, mB, exB, kB⟩ := T.bind
  obtain ⟨aC, mC, kC⟩ := T.comp
  refine F.ok scPB (fun vs H Q E h => ?_) (fun cdv A outer s H vs Q E hr h => ?_)
  · obtain ⟨p0, s, rfl, _⟩ := h
    rfl
  · obtain ⟨p0, s, rfl, hmid, p, n, o, b, vs, r, r', rfl, R, few, pre, hg, k⟩ := h
    refine ⟨_, pss_cons (ps_expr (pe_meth (pv 0) T.cl CD.me CD.ok hr CD.bi .nil pass0 (pa_cons (pe_ix ix_kdict (pe_glob (v := .ref aB) rfl mB rfl) (pv 1) (fun _ _ => rfl)) pa_nil)))
      (pss_cons (ps_expr (pe_bm PySem.F.plainAttrs_list PySem.F.slot_list_append PySem.F.type_list_append mt_append (pe_fld (pv 0) rfl) (pa_cons (pv 1) pa_nil)))
      (pss_one (ps_if (PW.pt (pw_or (pt_cmpR op_eq (pv 1) pe_str (nomark _)) (pw_or1 (pt_cmpR op_eq (pv 1) pe_str (nomark _)))))
        (pss_cons (ps_fld (pv 0) pe_str rfl) (pss_one (ps_fld (pv 0) pe_bl rfl)))
        (pss_cons (ps_fld (pv 0) pe_str rfl) (pss_one (ps_fld (pv 0) (pe_or (pe_fld (pv 0) rfl) (pe_one (pe_cmpR op_in_seq (pv 1) (pe_glob (v := .ref aC) rfl mC rfl) (by rfl)))) rfl)))))), ?_⟩
    obtain ⟨dx, hp⟩ := R.ob
    unfold RS.between at hg
    obtain ⟨q, hd, hg⟩ := Option.map_eq_some_iff.mp hg
    subst hg
    obtain ⟨bi, hbi⟩ := Option.isSome_iff_exists.mp (mid_bind s hmid)
    have hbo : bindOf s = bi := by unfold bindOf; rw [hbi]; rfl
    have kd : KDct K w aB s (.int bi) := by
      have := kB s (mid_ops s hmid)
      rw [hbi] at this
      exact kget_dct this
    rw [hbo] at hd
    refine ⟨_, rfl, p, dx, _, rfl, hp, fl_no (by decide +kernel), _, rfl, aB, s, .int bi, rfl, rfl, kd, .ref p, bi, rfl, p, n, o, b, vs, r, q, rfl, R, few, trivial, hd, fun H1 ws R1 el1 => ?_⟩
    have few2 := (few.down hd).op
    have hbig := big3
    obtain ⟨dx1, hp1⟩ := R1.ob
    refine ⟨_, rfl, p, C, dx1, _, _, rfl, hp1, T.cl, T.nOps, fl_ops, .inl ⟨rfl, _, SqL.of R1.op⟩, _, rfl, o, _, _, rfl, rfl, R1.op, (by rw [List.length_reverse, List.length_map]; omega), ?_⟩
    have R2 := R1.pushO (mid_ops s hmid)
    obtain ⟨dx2, hp2⟩ := R2.ob
    by_cases ha : s = "and" ∨ s = "or"
    · rw [if_pos ha] at k
      rcases ha with rfl | rfl
      case' inl => refine ⟨_, rfl, rfl, _, rfl, iteTc (decide_eq_true rfl) (iteTc rfl ?_)⟩
      case' inr => refine ⟨_, rfl, rfl, _, rfl, iteFc (by decide +kernel) ⟨_, rfl, rfl, _, rfl, iteTc (decide_eq_true rfl) ?_⟩⟩
      all_goals
        refine ⟨_, rfl, p, C, dx2, _, rfl, hp2, T.cl, T.nStage, six _ _ _ _ _ _, ?_⟩
        have R3 := R2.stage (dx := dx2) (st := "condition")
        obtain ⟨dx3, hp3⟩ := R3.ob
        exact ⟨_, rfl, p, C, dx3, _, rfl, hp3, T.cl, T.nCmp, six _ _ _ _ _ _, k _ _ R3.cmp (el1.trans ((ElseR.atO.trans ElseR.atP).trans ElseR.atP))⟩
    · rw [if_neg ha] at k
      have ha1 : ¬ s = "and" := fun z => ha (.inl z)
      have ha2 : ¬ s = "or" := fun z => ha (.inr z)
      refine ⟨_, rfl, rfl, _, rfl, iteFc (by rw [dstr]; exact decide_eq_false ha1) ⟨_, rfl, rfl, _, rfl, iteFc (by rw [dstr]; exact decide_eq_false ha2) ?_⟩⟩
      refine ⟨_, rfl, p, C, dx2, _, rfl, hp2, T.cl, T.nStage, six _ _ _ _ _ _, ?_⟩
      have R3 := R2.stage (dx := dx2) (st := "factor")
      obtain ⟨dx3, hp3⟩ := R3.ob
      have el3 := el1.trans ((ElseR.atO (p := p) (n := n) (b := b) (x := .lst ((q.ops.map V.str).reverse ++ [.str s]))).trans (ElseR.atP (x := .ins C dx2 (putF "stage" (.str "factor") (fl q.cond q.stage q.cmp n o b)))))
      refine ⟨_, rfl, p, C, dx3, _, _, rfl, hp3, T.cl, T.nCmp, fl_cmp, _, rfl, ?_⟩
      by_cases hc : q.cmp = true
      · have k' := k
        rw [hc, Bool.true_or] at k'
        refine iteTc hc ⟨_, rfl, p, C, dx3, _, rfl, hp3, T.cl, T.nCmp, six _ _ _ _ _ _, k' _ _ (R3.cmp (dx := dx3) (k := true)) (el3.trans ElseR.atP)⟩
      · rw [Bool.not_eq_true] at hc
        have k' := k
        rw [hc, Bool.false_or] at k'
        refine iteFc hc ⟨_, rfl, aC, _, rfl, .inr (kC.sq _), rfl, flat_strs _, ?_⟩
        refine ⟨_, rfl, p, C, dx3, _, rfl, hp3, T.cl, T.nCmp, six _ _ _ _ _ _, ?_⟩
        have := k' _ _ (R3.cmp (dx := dx3) (k := compL.contains s)) (el3.trans ElseR.atP)
        rw [← inV_strs] at this
        exact this
theorem scTI : FnScope ["self", "sign", "worth"] ["self", "sign", "worth"] (defScope sTakeIn) := ⟨rfl, rfl, rfl, by decide +kernel, rfl, by decide +kernel, by decide +kernel⟩
theorem ok_takeIn {f fB fC fD fM : Addr} {fd fdB fdC fdD fdM : FuncData} (F : Fun K "take_in" "Reader.take_in" sTakeIn f fd) (T : TxtR K w mg C) (CB : MCal P w K mg base C 1 "begin" fB fdB ["self", "sign", "worth"] (spBegin K C)) (CC : MCal P w K mg base C 3 "close" fC fdC ["self", "sign"] (spClose K C))
    (CD : MCal P w K mg base C 2 "join_down_to" fD fdD ["self", "binding"] (spDown K C)) (CM : MCal P w K mg base C 3 "put_between" fM fdM ["self", "sign"] (spMid K C)) : FnOk P w K mg base CX0 4 f fd ["self", "sign", "worth"] (spTake K C) := by
  refine F.ok scTI (fun vs H Q E h => ?_) (fun cdv A outer s H vs Q E hr h => ?_)
  · obtain ⟨p0, s, v, rfl, _⟩ := h
    rfl
  · obtain ⟨p0, s, v, rfl, fv, p, n, o, b, vs, r, r', rfl, R, few, pre, hg, k⟩ := h
    have hr1 : Room 1 _ := hr.mono (by decide)
    have hr2 : Room 2 _ := hr.mono (by decide)
    refine ⟨_, pss_one (ps_if (PW.pt (pw_or (pt_cmpR op_eq (pe_fld (pv 0) rfl) pe_str (nomark _)) (pw_or1 (pt_cmpR op_eq (pe_fld (pv 0) rfl) pe_str (nomark _)))))
      (pss_one (ps_expr (pe_meth (pv 0) T.cl CB.me CB.ok hr1 CB.bi .nil pass0 (pa_cons (pv 1) (pa_cons (pv 2) pa_nil)))))
      (pss_one (ps_if (PW.pt (pw_or (pt_cmpR op_eq (pv 1) pe_str (nomark _)) (pw_or1 (pt_cmpR op_eq (pv 1) pe_str (nomark _)))))
        (pss_one (ps_expr (pe_meth (pv 0) T.cl CC.me CC.ok hr CC.bi .nil pass0 (pa_cons (pv 1) pa_nil))))
        (pss_one (ps_if (pt_cmpR op_eq (pv 1) pe_str (nomark _))
          (pss_one (ps_expr (pe_meth (pv 0) T.cl CD.me CD.ok hr2 CD.bi .nil pass0 (pa_cons pe_int pa_nil))))
          (pss_one (ps_expr (pe_meth (pv 0) T.cl CM.me CM.ok hr CM.bi .nil pass0 (pa_cons (pv 1) pa_nil))))))))), ?_⟩
    obtain ⟨dx, hp⟩ := R.ob
    replace hg : r.takeIn s v = some r' := hg
    replace pre : r.fits s = true := pre
    unfold RS.takeIn at hg
    cases hst : r.starts with
    | true =>
      rw [hst, if_pos rfl] at hg
      have hmb : r.mayBegin s = true := by
        unfold RS.fits at pre
        rw [hst, if_pos rfl] at pre
        exact pre
      unfold RS.starts at hst
      refine ⟨_, rfl, p, C, dx, _, _, rfl, hp, T.cl, T.nStage, fl_stage, rfl, _, rfl, ?_⟩
      rw [dstr]
      cases h1 : decide (r.stage = "condition") with
      | true => exact iteTc rfl (iteTc rfl ⟨_, rfl, p, dx, _, rfl, hp, fl_no (by decide +kernel), _, rfl, _, rfl, .ref p, s, v, rfl, fv, p, n, o, b, vs, r, r', rfl, R, few, hmb, hg, k⟩)
      | false =>
        rw [h1, Bool.false_or] at hst
        refine iteFc rfl ⟨_, rfl, p, C, dx, _, _, rfl, hp, T.cl, T.nStage, fl_stage, rfl, _, rfl, ?_⟩
        rw [dstr, hst]
        exact iteTc rfl ⟨_, rfl, p, dx, _, rfl, hp, fl_no (by decide +kernel), _, rfl, _, rfl, .ref p, s, v, rfl, fv, p, n, o, b, vs, r, r', rfl, R, few, hmb, hg, k⟩
    | false =>
      rw [hst, if_neg (by decide)] at hg
      have hmf : r.mayFollow s = true := by
        unfold RS.fits at pre
        rw [hst, if_neg (by decide)] at pre
        exact pre
      unfold RS.starts at hst
      rw [Bool.or_eq_false_iff] at hst
      refine ⟨_, rfl, p, C, dx, _, _, rfl, hp, T.cl, T.nStage, fl_stage, rfl, _, rfl, iteFc (by rw [dstr]; exact hst.1) ⟨_, rfl, p, C, dx, _, _, rfl, hp, T.cl, T.nStage, fl_stage, rfl, _, rfl, iteFc (by rw [dstr]; exact hst.2) ?_⟩⟩
      by_cases hc : s = ")" ∨ s = "]"
      · rw [if_pos hc] at hg
        rcases hc with rfl | rfl
        · exact ⟨_, rfl, rfl, _, rfl, iteTc (decide_eq_true rfl) (iteTc rfl ⟨_, rfl, p, dx, _, rfl, hp, fl_no (by decide +kernel), _, rfl, .ref p, _, rfl, p, n, o, b, vs, r, r', rfl, R, few, trivial, hg, k⟩)⟩
        · exact ⟨_, rfl, rfl, _, rfl, iteFc (by decide +kernel) ⟨_, rfl, rfl, _, rfl, iteTc (decide_eq_true rfl) ⟨_, rfl, p, dx, _, rfl, hp, fl_no (by decide +kernel), _, rfl, .ref p, _, rfl, p, n, o, b, vs, r, r', rfl, R, few, trivial, hg, k⟩⟩⟩
      · rw [if_neg hc] at hg
        have hc1 : ¬ s = ")" := fun z => hc (.inl z)
        have hc2 : ¬ s = "]" := fun z => hc (.inr z)
        refine ⟨_, rfl, rfl, _, rfl, iteFc (by rw [dstr]; exact decide_eq_false hc1) ⟨_, rfl, rfl, _, rfl, iteFc (by rw [dstr]; exact decide_eq_false hc2) ?_⟩⟩
        by_cases he : s = "end"
        · rw [if_pos he] at hg
          exact ⟨_, rfl, rfl, _, rfl, iteTc (by rw [dstr]; exact decide_eq_true he) ⟨_, rfl, p, dx, _, rfl, hp, fl_no (by decide +kernel), .ref p, 0, rfl, p, n, o, b, vs, r, r', rfl, R, few, trivial, hg, k⟩⟩
        · rw [if_neg he] at hg
          have hmid : s ∈ midL := by
            rcases follow_mid hmf with h | h | h | h
            · exact h
            · exact absurd h hc1
            · exact absurd h hc2
            · exact absurd h he
          exact ⟨_, rfl, rfl, _, rfl, iteFc (by rw [dstr]; exact decide_eq_false he) ⟨_, rfl, p, dx, _, rfl, hp, fl_no (by decide +kernel), _, rfl, .ref p, s, rfl, hmid, p, n, o, b, vs, r, r', rfl, R, few, trivial, hg, k⟩⟩
end
end XE

set_option Elab.async false
set_option linter.all false
set_option maxRecDepth 100000
set_option maxHeartbeats 4000000
namespace XE
open PySem PySem.Spec PyProof.Rows L2 Rx SX
abbrev sParsed : Stmt := topS 25
theorem len_putF (f : Str) (v : V) : ∀ fs : List (Str × V), (putF f v fs).length ≤ fs.length + 1
  | [] => Nat.le_refl _
  | (g, x) :: r => by
    show (if g = f then (g, v) :: r else (g, x) :: putF f v r).length ≤ _
    split
    · simp
    · have := len_putF f v r
      simp only [List.length_cons]
      omega
theorem fl_init {c : Bool} {st : Str} {n o b : Addr} : putF "brackets" (.ref b) (putF "operators" (.ref o) (putF "nodes" (.ref n) (putF "compared" (.bl false) (putF "stage" (.str st) (putF "of_condition" (.bl c) []))))) = fl c st false n o b := by
  have e1 : putF "of_condition" (.bl c) [] = ([("of_condition", .bl c)] : List (Str × V)) := rfl
  have e2 : putF "stage" (.str st) [("of_condition", .bl c)] = ([("of_condition", .bl c), ("stage", .str st)] : List (Str × V)) := pf_miss (by decide +kernel)
  have e3 : putF "compared" (.bl false) [("of_condition", .bl c), ("stage", .str st)] = ([("of_condition", .bl c), ("stage", .str st), ("compared", .bl false)] : List (Str × V)) := by
    rw [pf_miss (by decide +kernel), pf_miss (by decide +kernel)]; rfl
  have e4 : putF "nodes" (.ref n) [("of_condition", .bl c), ("stage", .str st), ("compared", .bl false)] = ([("of_condition", .bl c), ("stage", .str st), ("compared", .bl false), ("nodes", .ref n)] : List (Str × V)) := by
    rw [pf_miss (by decide +kernel), pf_miss (by decide +kernel), pf_miss (by decide +kernel)]; rfl
  have e5 : putF "operators" (.ref o) [("of_condition", .bl c), ("stage", .str st), ("compared", .bl false), ("nodes", .ref n)] = ([("of_condition", .bl c), ("stage", .str st), ("compared", .bl false), ("nodes", .ref n), ("operators", .ref o)] : List (Str × V)) := by
    rw [pf_miss (by decide +kernel), pf_miss (by decide +kernel), pf_miss (by decide +kernel), pf_miss (by decide +kernel)]; rfl
  rw [e1, e2, e3, e4, e5, pf_miss (by decide +kernel), pf_miss (by decide +kernel), pf_miss (by decide +kernel), pf_miss (by decide +kernel), pf_miss (by decide +kernel)]
  rfl
/-! tokens -/
theorem toksF_len : ∀ (n a : Nat) (cs : List Nat), (toksF n a cs).length ≤ n + 1
  | 0, _, _ => Nat.le_refl _
  | n + 1, _, [] => by simp [toksF]
  | n + 1, a, c :: r => by
    unfold toksF
    split
    · have := toksF_len n (a + 1) r
      omega
    · have := toksF_len n (a + (tokAt (c :: r)).2.2) ((c :: r).drop (tokAt (c :: r)).2.2)
      simp only [List.length_cons]
      omega
theorem tokAt_flat (cs : List Nat) : FlatW (tokAt cs).2.1 := by
  unfold tokAt
  split
  · exact .inl rfl
  · split
    · unfold wordTok
      split
      · exact .inl rfl
      split
      · exact .inr (.inr ⟨_, rfl⟩)
      · exact .inl rfl
    split
    · unfold numTok
      split
      · exact .inr (.inl ⟨_, rfl⟩)
      · exact .inl rfl
    · unfold signTok
      split <;> exact .inl rfl
theorem toksF_flat : ∀ (n a : Nat) (cs : List Nat), ∀ t ∈ toksF n a cs, FlatW t.2.1
  | 0, _, _, t, h => by
    simp only [toksF, List.mem_singleton] at h
    subst h
    exact .inl rfl
  | n + 1, _, [], t, h => by
    simp only [toksF, List.mem_singleton] at h
    subst h
    exact .inl rfl
  | n + 1, a, c :: r, t, h => by
    unfold toksF at h
    split at h
    · exact toksF_flat n _ _ t h
    · rcases List.mem_cons.mp h with h | h
      · subst h
        exact tokAt_flat _
      · exact toksF_flat n _ _ t h
theorem TokL.len {H : Hp} : ∀ {vs : List V} {ts : List (Str × V × Nat)}, TokL H vs ts → vs.length = ts.length
  | [], [], _ => rfl
  | _ :: _, _ :: _, ⟨_, r⟩ => by rw [List.length_cons, List.length_cons, TokL.len r]
  | [], _ :: _, h => h.elim
  | _ :: _, [], h => h.elim
theorem TokL.get {H : Hp} : ∀ {vs : List V} {ts : List (Str × V × Nat)} {i : Nat} {v : V}, TokL H vs ts → vs[i]? = some v → ∃ t x, v = .ref t ∧ ts[i]? = some x ∧ Tok3 H t x
  | [], [], i, v, _, h => by simp at h
  | _ :: _, _ :: _, 0, v, ⟨⟨t, e, q⟩, _⟩, h => by
    simp at h
    subst h
    exact ⟨t, _, e, rfl, q⟩
  | _ :: _, _ :: _, i + 1, v, ⟨_, r⟩, h => by
    simp only [List.getElem?_cons_succ] at h ⊢
    exact TokL.get r h
  | [], _ :: _, _, _, h, _ => h.elim
  | _ :: _, [], _, _, h, _ => h.elim
/-! ### __init__ -/
def spRInit (K : PySem.W.Frag) (C : Addr) : Sp := fun us H Q _ => ∃ (p dx : Addr) (c : Bool), us = [.ref p, .bl c] ∧ H p = some (.ins C dx []) ∧
  ∀ (n o b : Addr) (H' : Hp), H n = none → H o = none → H b = none → RdV K C H' p n o b [] (RS.start c) → (∀ a x, H a = some x → a ≠ p → H' a = some x) → Q .non H'
/-- a text is read whole -/
def spParsed (K : PySem.W.Frag) (C : Addr) : Sp := fun us H Q _ => ∃ (z : Str) (p n o b : Addr) (r0 r' : RS) (d : PyData), us = [.str z, .ref p] ∧ z.length ≤ 100000 ∧ RdV K C H p n o b [] r0 ∧ Few 0 r0 ∧ runR r0 (toks z.cps.toList) = some r' ∧ r'.nodes = [d] ∧
  ∀ H' v, Dp K H' v d → noList d = true → ElseR p n o b H H' → Q v H'
def spParse (K : PySem.W.Frag) (c : Bool) : Sp := fun us H Q _ => ∃ (z : Str) (r' : RS) (d : PyData), us = [.str z] ∧ z.length ≤ 100000 ∧ runR (RS.start c) (toks z.cps.toList) = some r' ∧ r'.nodes = [d] ∧ ∀ H' v, Same H H' → Dp K H' v d → noList d = true → Q v H'
section
variable {P : Program} {w : World} {K : PySem.W.Frag} {mg : Str → Option Value} {base : Heap} {C : Addr}
theorem scRI : FnScope ["self", "of_condition"] ["self", "of_condition"] (defScope sRInit) := ⟨rfl, rfl, rfl, by decide +kernel, rfl, by decide +kernel, by decide +kernel⟩
theorem ok_rinit {f : Addr} {fd : FuncData} (F : Fun K "__init__" "Reader.__init__" sRInit f fd) (T : TxtR K w mg C) : FnOk P w K mg base CX0 1 f fd ["self", "of_condition"] (spRInit K C) := by
  refine F.ok scRI (fun vs H Q E h => ?_) (fun cdv A outer s H vs Q E hr h => ?_)
  · obtain ⟨p, dx, c, rfl, _⟩ := h
    rfl
  · obtain ⟨p, dx, c, rfl, hp, k⟩ := h
    refine ⟨_, pss_cons (ps_fld (pv 0) (pv 1) rfl)
      (C8.pss_cut (ps_fld (pv 0) (pe_ifExp (pt_val (pv 1)) pe_str pe_str) rfl)
      (pss_cons (ps_fld (pv 0) pe_bl rfl)
      (pss_cons (ps_fld (pv 0) (pe_lst pa_nil) rfl)
      (pss_cons (ps_fld (pv 0) (pe_lst pa_nil) rfl)
      (pss_one (ps_fld (pv 0) (pe_lst pa_nil) rfl)))))), ?_⟩
    have l1 := len_putF "of_condition" (.bl c) []
    have l2 := len_putF "stage" (.str (RS.start c).stage) (putF "of_condition" (.bl c) [])
    have l3 := len_putF "compared" (.bl false) (putF "stage" (.str (RS.start c).stage) (putF "of_condition" (.bl c) []))
    simp only [List.length_nil] at l1
    refine ⟨_, rfl, _, rfl, p, C, dx, _, rfl, hp, T.cl, T.nCond, (by show 0 < 1000; decide), ?_⟩
    refine ⟨fun σ H' => σ = [some (.ref p), some (.bl c)] ∧ H' = upd (upd H p (.ins C dx (putF "of_condition" (.bl c) []))) p (.ins C dx (putF "stage" (.str (RS.start c).stage) (putF "of_condition" (.bl c) []))), ?_, ?_⟩
    · refine ⟨_, rfl, _, rfl, ?_⟩
      cases c with
      | true => exact iteTc rfl ⟨_, rfl, p, C, dx, _, rfl, upd_same, T.cl, T.nStage, (by omega), rfl, rfl⟩
      | false => exact iteFc rfl ⟨_, rfl, p, C, dx, _, rfl, upd_same, T.cl, T.nStage, (by omega), rfl, rfl⟩
    rintro σ H' ⟨rfl, rfl⟩
    refine ⟨_, rfl, p, C, dx, _, rfl, upd_same, T.cl, T.nCmp, (by omega), ?_⟩
    have nos : ∀ (H : Hp) (a : Addr) (x y : HO), upd H p x a = none → H a = none ∧ a ≠ p := fun H a x y h => by
      by_cases e : a = p
      · subst e
        rw [upd_same] at h
        cases h
      · rw [upd_ne e] at h
        exact ⟨h, e⟩
    have fresh : ∀ {H : Hp} {l : Addr} {x y : HO} {a : Addr}, upd (upd H l x) p y a = none → H a = none ∧ a ≠ p ∧ a ≠ l := fun {H l x y a} h => by
      have h1 := nos _ _ _ x h
      by_cases e : a = l
      · subst e
        rw [upd_same] at h1
        cases h1.1
      · rw [upd_ne e] at h1
        exact ⟨h1.1, h1.2, e⟩
    refine ⟨(by show 0 ≤ sizeLine; decide), fun n nn => ?_⟩
    obtain ⟨nn1, np⟩ := nos _ _ _ (.lst []) nn
    have l4 := len_putF "nodes" (.ref n) (putF "compared" (.bl false) (putF "stage" (.str (RS.start c).stage) (putF "of_condition" (.bl c) [])))
    refine ⟨_, rfl, p, C, dx, _, rfl, (by rw [upd_ne np.symm, upd_same]), T.cl, T.nNodes, (by omega), (by show 0 ≤ sizeLine; decide), fun o no => ?_⟩
    obtain ⟨no1, op, on⟩ := fresh no
    have l5 := len_putF "operators" (.ref o) (putF "nodes" (.ref n) (putF "compared" (.bl false) (putF "stage" (.str (RS.start c).stage) (putF "of_condition" (.bl c) []))))
    refine ⟨_, rfl, p, C, dx, _, rfl, (by rw [upd_ne op.symm, upd_same]), T.cl, T.nOps, (by omega), (by show 0 ≤ sizeLine; decide), fun b nb => ?_⟩
    obtain ⟨nb1, bp, bo⟩ := fresh nb
    obtain ⟨nb2, _, bn⟩ := fresh nb1
    refine ⟨_, rfl, p, C, dx, _, rfl, (by rw [upd_ne bp.symm, upd_same]), T.cl, T.nBrs, (by omega), ?_⟩
    rw [fl_init]
    have free : ∀ {H : Hp} {x y : HO} {a : Addr}, a ≠ p → upd (upd (upd H p x) p y) p x a = H a := fun {H x y a} e => by rw [upd_ne e, upd_ne e, upd_ne e]
    have un : ∀ {a : Addr} {x y z : HO}, a ≠ p → upd (upd (upd H p x) p y) p z a = H a := fun {a x y z} e => by rw [upd_ne e, upd_ne e, upd_ne e]
    have hn : H n = none := by
      have := nn
      rw [un np] at this
      exact this
    have ho : H o = none := by
      have := no1
      rw [un op] at this
      exact this
    have hb : H b = none := by
      have := nb2
      rw [un bp] at this
      exact this
    refine k n o b _ hn ho hb ⟨⟨dx, upd_same⟩, ?_, .nil, ?_, ?_, on.symm, bn.symm, bo.symm, rfl, (fun x hx => by cases hx)⟩ (fun a x ha hap => ?_)
    · rw [upd_ne np, upd_ne bn.symm, upd_ne np, upd_ne on.symm, upd_ne np, upd_same]; rfl
    · rw [upd_ne op, upd_ne bo.symm, upd_ne op, upd_same]; rfl
    · rw [upd_ne bp, upd_same]; rfl
    · rw [upd_ne hap, upd_ne (ne_of_none ha hb), upd_ne hap, upd_ne (ne_of_none ha ho), upd_ne hap, upd_ne (ne_of_none ha hn), un hap]
      exact ha
theorem scPd : FnScope ["text", "reader", "sign", "worth", "position"] ["text", "reader"] (defScope sParsed) := ⟨rfl, rfl, rfl, by decide +kernel, rfl, by decide +kernel, by decide +kernel⟩
theorem tok_else {p n o b : Addr} {H H' : Hp} {ws vs : List V} {r : RS} {ts : List (Str × V × Nat)} (R : RdV K C H p n o b ws r) (e : ElseR p n o b H H') (h : TokL H vs ts) : TokL H' vs ts := by
  obtain ⟨dx, hp⟩ := R.ob
  exact h.keep fun a xs ha => e a _ ha (ne_of ha hp (by intro z; cases z)) (ne_of ha R.nd (by intro z; cases z)) (ne_of ha R.op (by intro z; cases z)) (ne_of ha R.br (by intro z; cases z))
theorem ok_parsed {f fT fF fI : Addr} {fd fdT fdF fdI : FuncData} (F : Fun K "parsed" "parsed" sParsed f fd) (T : TxtR K w mg C) (CT : Cal P w K mg base 4 "tokens" fT fdT ["text"] spTokens) (CF : MCal P w K mg base C 2 "fits" fF fdF ["self", "sign"] (spAsk K C RS.fits))
    (CI : MCal P w K mg base C 4 "take_in" fI fdI ["self", "sign", "worth"] (spTake K C)) : FnOk P w K mg base CX0 5 f fd ["text", "reader"] (spParsed K C) := by
  refine F.ok scPd (fun vs H Q E h => ?_) (fun cdv A outer s H vs Q E hr h => ?_)
  · obtain ⟨z, p, n, o, b, r0, r', d, rfl, _⟩ := h
    rfl
  · obtain ⟨z, p, n, o, b, r0, r', d, rfl, hz, R, few, hrun, hnd, k⟩ := h
    have hr2 : Room 2 _ := hr.mono (by decide)
    refine ⟨_, pss_cons (ps_for PassesOwn.never rfl (pi_list (pe_call CT.ok hr rfl CT.mg CT.kp CT.bi .nil pass0 (pa_cons (pv 0) pa_nil))) (pg_tup rfl (pgs_cons (pg_name (i := 2) scPd.nd rfl (.inl rfl)) (pgs_cons (pg_name (i := 3) scPd.nd rfl (.inl rfl)) (pgs_cons (pg_name (i := 4) scPd.nd rfl (.inl rfl)) pgs_nil))))
        (pss_cons (ps_if (pt_not (pt_val (pe_meth (pv 1) T.cl CF.me CF.ok hr2 CF.bi .nil pass0 (pa_cons (pv 2) pa_nil)))) (pss_one ps_never) pss_nil)
        (pss_one (ps_expr (pe_meth (pv 1) T.cl CI.me CI.ok hr CI.bi .nil pass0 (pa_cons (pv 2) (pa_cons (pv 3) pa_nil)))))))
      (pss_one (ps_ret (pe_ix ix_list (pe_fld (pv 1) rfl) pe_int (fun _ _ => rfl)))), ?_⟩
    refine ⟨_, rfl, z, rfl, hz, fun H1 l ws s1 nl hl htk => ?_⟩
    have R1 := R.same s1
    refine ⟨l, rfl, ⟨_, SqL.of hl⟩, ?_⟩
    have lp : l ≠ p := by
      obtain ⟨dx, hp⟩ := R.ob
      exact (ne_of_none hp nl).symm
    have ln : l ≠ n := (ne_of_none R.nd nl).symm
    have lo : l ≠ o := (ne_of_none R.op nl).symm
    have lb : l ≠ b := (ne_of_none R.br nl).symm
    have hlen : ws.length ≤ 100001 := by
      rw [htk.len]
      unfold toks
      have := toksF_len z.cps.toList.length 0 z.cps.toList
      rw [len_tl] at this ⊢
      omega
    refine for_list (K := K) (a := l) (xs := ws) (fun i σ H2 => ∃ (x2 x3 x4 : Option V) (us : List V) (r1 : RS), σ = [some (.str z), some (.ref p), x2, x3, x4] ∧ RdV K C H2 p n o b us r1 ∧ Few i r1 ∧ runR r1 ((toks z.cps.toList).drop i) = some r' ∧ ElseR p n o b H H2 ∧ TokL H2 ws (toks z.cps.toList) ∧ H2 l = some (.lst ws))
      ⟨none, none, none, [], r0, rfl, R1, few, hrun, ElseR.same s1, htk, hl⟩ (fun i σ H2 _ ⟨_, _, _, _, _, _, _, _, _, _, _, h⟩ => SqL.of h) ?_ ?_
    · rintro i x σ H2 hx ⟨x2, x3, x4, us, r1, rfl, R2, few2, hrun2, el2, htk2, hl2⟩
      obtain ⟨t, tk, rfl, hti, ht⟩ := htk2.get hx
      obtain ⟨sg, wo, at_⟩ := tk
      have fw : FlatW wo := toksF_flat _ _ _ _ (List.mem_of_getElem? hti)
      have hil : i < ws.length := (List.getElem?_eq_some_iff.mp hx).1
      have hdrop : (toks z.cps.toList).drop i = (sg, wo, at_) :: (toks z.cps.toList).drop (i + 1) := by
        obtain ⟨h1, h2⟩ := List.getElem?_eq_some_iff.mp hti
        rw [← h2, List.getElem_cons_drop]
      rw [hdrop] at hrun2
      unfold runR at hrun2
      cases hf : r1.fits sg with
      | false =>
        dsimp only at hrun2
        rw [hf, if_neg (by decide)] at hrun2
        cases hrun2
      | true =>
        dsimp only at hrun2
        rw [hf, if_pos rfl] at hrun2
        obtain ⟨q, hq, hrun3⟩ := Option.bind_eq_some_iff.mp hrun2
        obtain ⟨dx2, hp2⟩ := R2.ob
        refine ⟨t, _, rfl, SqT.of ht, rfl, _, _, rfl, _, _, rfl, _, _, rfl, rfl, ?_⟩
        refine ⟨_, rfl, p, dx2, _, rfl, hp2, fl_no (by decide +kernel), _, rfl, p, n, o, b, us, r1, sg, rfl, R2, fun H3 s3 => ⟨_, rfl, ?_⟩⟩
        rw [hf]
        have R3 := R2.same s3
        obtain ⟨dx3, hp3⟩ := R3.ob
        refine iteFc rfl ⟨_, rfl, p, dx3, _, rfl, hp3, fl_no (by decide +kernel), _, rfl, _, rfl, .ref p, sg, wo, rfl, fw, p, n, o, b, us, r1, q, rfl, R3, ⟨?_, ?_, ?_⟩, hf, hq, fun H4 us4 R4 el4 => ?_⟩
        · exact Nat.le_trans few2.nd (by omega)
        · exact Nat.le_trans few2.op (by omega)
        · exact Nat.le_trans few2.br (by omega)
        · refine ⟨some (.str sg), some wo, some (.int at_), us4, q, rfl, R4, few2.take hq, hrun3, el2.trans ((ElseR.same s3).trans el4), tok_else R3 el4 (htk2.same s3), el4 l _ (s3 _ _ hl2) lp ln lo lb⟩
    · rintro σ H2 ⟨x2, x3, x4, us, r1, rfl, R2, few2, hrun2, el2, htk2, hl2⟩
      rw [htk.len, List.drop_length] at hrun2
      simp only [runR, Option.some.injEq] at hrun2
      subst hrun2
      obtain ⟨dx2, hp2⟩ := R2.ob
      have hD := R2.dp
      have hN := R2.nl
      have hn2 := R2.nd
      rw [hnd] at hD hN
      cases hD with
      | cons hv ht =>
        rename_i v vt
        cases ht with
        | nil => exact ⟨_, rfl, p, C, dx2, _, _, rfl, hp2, T.cl, T.nNodes, fl_nodes, n, _, _, v, rfl, rfl, SqL.of hn2, rfl, k H2 v hv (by simpa [noListAll] using hN) el2⟩
end
end XE

set_option Elab.async false
set_option linter.all false
set_option maxRecDepth 100000
set_option maxHeartbeats 4000000
namespace Rx
open PySem PySem.Spec PyProof.Rows L2
/-- one level of the walk through nested data: what is walked, its items, how far, the list of what is made, and what is in it -/
structure Lv where
  src : V
  its : List PyData
  pl : Nat
  rs : Addr
  vl : List V
def lvOk (K : PySem.W.Frag) (H1 H : Hp) (N : Nat) (l : Lv) (n : Nat) : Prop := Src K H1 l.src l.its ∧ DpAll K H l.vl (fixAll (l.its.take n)) ∧ szAll l.its ≤ N
def below (K : PySem.W.Frag) (H1 H : Hp) (N : Nat) (d : PyData) : List PyData → List Lv → Prop
  | its, [] => its = [d]
  | its, l :: r => ∃ q c, l.pl = q + 1 ∧ l.its[q]? = some c ∧ kids c = some its ∧ lvOk K H1 H N l q ∧ below K H1 H N d l.its r
def mu : List Lv → Nat
  | [] => 0
  | l :: r => szAll (l.its.drop l.pl) + 1 + mu r
theorem below_len {K : PySem.W.Frag} {H1 H : Hp} {N : Nat} {d : PyData} : ∀ {r : List Lv} {its : List PyData}, below K H1 H N d its r → ∀ l ∈ r, l.vl.length ≤ N
  | [], _, _, _, hm => by cases hm
  | l :: r, its, ⟨q, c, e1, e2, e3, ⟨h1, h2, h3⟩, hb⟩, x, hm => by
    rcases List.mem_cons.mp hm with rfl | hm
    · have hl := dpAll_len h2
      rw [fixAll_map, List.length_map, List.length_take] at hl
      have := len_le_sz x.its
      omega
    · exact below_len hb x hm
/-- a list is written: the levels stay good -/
theorem below_keep {K : PySem.W.Frag} {H1 H H' : Hp} {N : Nat} {d : PyData} (k : ∀ a xs, H a = some (.tup xs) → H' a = some (.tup xs)) (kf : ∀ a o u, H a = some (.frz o u) → H' a = some (.frz o u)) :
    ∀ {r : List Lv} {its : List PyData}, below K H1 H N d its r → below K H1 H' N d its r
  | [], _, h => h
  | l :: r, its, ⟨q, c, e1, e2, e3, ⟨h1, h2, h3⟩, hb⟩ => ⟨q, c, e1, e2, e3, ⟨h1, dpAll_keep k kf h2 (fixAll_noList _), h3⟩, below_keep k kf hb⟩
def colS (L : List Lv) : List V := L.reverse.map (·.src)
def colP (L : List Lv) : List V := L.reverse.map fun l => V.int l.pl
def colR (L : List Lv) : List V := L.reverse.map fun l => V.ref l.rs
/-- the state between two turns -/
structure Mid (K : PySem.W.Frag) (H1 H : Hp) (N B : Nat) (d : PyData) (S P R : Addr) (t : Lv) (r : List Lv) : Prop where
  hS : H S = some (.lst (colS (t :: r)))
  hP : H P = some (.lst (colP (t :: r)))
  hR : H R = some (.lst (colR (t :: r)))
  hv : ∀ l ∈ t :: r, H l.rs = some (.lst l.vl)
  nSP : S ≠ P
  nSR : S ≠ R
  nPR : P ≠ R
  nd : ((t :: r).map (·.rs)).Nodup
  out : ∀ l ∈ t :: r, l.rs ≠ S ∧ l.rs ≠ P ∧ l.rs ≠ R ∧ H1 l.rs = none
  same : Same H1 H
  fS : H1 S = none
  fP : H1 P = none
  fR : H1 R = none
  ok : lvOk K H1 H N t t.pl
  le : t.pl ≤ t.its.length
  bl : below K H1 H N d t.its r
  bd : mu (t :: r) + (t :: r).length ≤ B
theorem colS_cons (t : Lv) (r : List Lv) : colS (t :: r) = colS r ++ [t.src] := by simp [colS]
theorem colP_cons (t : Lv) (r : List Lv) : colP (t :: r) = colP r ++ [V.int t.pl] := by simp [colP]
theorem colR_cons (t : Lv) (r : List Lv) : colR (t :: r) = colR r ++ [V.ref t.rs] := by simp [colR]
theorem col_lens (L : List Lv) : (colS L).length = L.length ∧ (colP L).length = L.length ∧ (colR L).length = L.length := by simp [colS, colP, colR]
/-- tuples and locked things stay -/
def Keeps (H H' : Hp) : Prop := (∀ a xs, H a = some (.tup xs) → H' a = some (.tup xs)) ∧ ∀ a o u, H a = some (.frz o u) → H' a = some (.frz o u)
theorem Keeps.refl (H : Hp) : Keeps H H := ⟨fun _ _ h => h, fun _ _ _ h => h⟩
theorem Keeps.trans {H H1 H2 : Hp} (a : Keeps H H1) (b : Keeps H1 H2) : Keeps H H2 := ⟨fun x y h => b.1 _ _ (a.1 x y h), fun x y z h => b.2 _ _ _ (a.2 x y z h)⟩
theorem keeps_lst {H : Hp} {a : Addr} {xs : List V} {o : HO} (h : H a = some (.lst xs)) : Keeps H (upd H a o) :=
  ⟨fun b ys e => by rw [upd_ne (ne_of e h (by intro z; cases z))]; exact e, fun b ob u e => by rw [upd_ne (ne_of e h (by intro z; cases z))]; exact e⟩
theorem keeps_new {H : Hp} {a : Addr} {o : HO} (h : H a = none) : Keeps H (upd H a o) :=
  ⟨fun b ys e => by rw [upd_ne (ne_of_none e h)]; exact e, fun b ob u e => by rw [upd_ne (ne_of_none e h)]; exact e⟩
section
variable {K : PySem.W.Frag} {H1 H : Hp} {N B : Nat} {d : PyData} {S P R : Addr} {t l : Lv} {r : List Lv}
/-- behind the last item of a level: it becomes a tuple -/
theorem mid_pop (M : Mid K H1 H N B d S P R t (l :: r)) (hpl : t.pl = t.its.length) {p : Addr} {oS oP oR : List V} (eS : oS = colS (l :: r)) (eP : oP = colP (l :: r)) (eR : oR = colR (l :: r))
    (hp : upd (upd (upd H S (.lst oS)) P (.lst oP)) R (.lst oR) p = none) :
    Mid K H1 (upd (upd (upd (upd (upd H S (.lst oS)) P (.lst oP)) R (.lst oR)) p (.tup t.vl)) l.rs (.lst (l.vl ++ [.ref p]))) N B d S P R { l with vl := l.vl ++ [.ref p] } r ∧ mu ({ l with vl := l.vl ++ [.ref p] } :: r) < mu (t :: l :: r) := by
  subst eS eP eR
  obtain ⟨q, c, e1, e2, e3, ⟨h1, h2, h3⟩, hb⟩ := M.bl
  have pS : p ≠ S := fun z => by rw [z, upd_ne M.nSR, upd_ne M.nSP, upd_same] at hp; cases hp
  have pP : p ≠ P := fun z => by rw [z, upd_ne M.nPR, upd_same] at hp; cases hp
  have pR : p ≠ R := fun z => by rw [z, upd_same] at hp; cases hp
  have hpn : H p = none := by rw [upd_ne pR, upd_ne pP, upd_ne pS] at hp; exact hp
  have p1 : H1 p = none := M.same.free hpn
  obtain ⟨lS, lP, lR, l1⟩ := M.out l (by simp)
  have lp : l.rs ≠ p := ne_of_none (M.hv l (by simp)) hpn
  have kk : Keeps H (upd (upd (upd (upd (upd H S (.lst (colS (l :: r)))) P (.lst (colP (l :: r)))) R (.lst (colR (l :: r)))) p (.tup t.vl)) l.rs (.lst (l.vl ++ [.ref p]))) := by
    refine (keeps_lst M.hS).trans ((keeps_lst (xs := colP (t :: l :: r)) ?_).trans ((keeps_lst (xs := colR (t :: l :: r)) ?_).trans ((keeps_new hp).trans (keeps_lst (xs := l.vl) ?_))))
    · rw [upd_ne M.nSP.symm]; exact M.hP
    · rw [upd_ne M.nPR.symm, upd_ne M.nSR.symm]; exact M.hR
    · rw [upd_ne lp, upd_ne lR, upd_ne lP, upd_ne lS]; exact M.hv l (by simp)
  have nd := M.nd
  simp only [List.map_cons, List.nodup_cons, List.mem_cons, not_or] at nd
  have hq : q + 1 ≤ l.its.length := (List.getElem?_eq_some_iff.mp e2).1
  have etk : l.its.take (q + 1) = l.its.take q ++ [c] := by rw [List.take_add_one, e2]; rfl
  have T : Dp K (upd (upd (upd (upd (upd H S (.lst (colS (l :: r)))) P (.lst (colP (l :: r)))) R (.lst (colR (l :: r)))) p (.tup t.vl)) l.rs (.lst (l.vl ++ [.ref p]))) (.ref p) (fix c) := by
    rw [fix_kids e3]
    refine .tup (SqT.of (by rw [upd_ne lp.symm, upd_same])) ?_
    have := M.ok.2.1
    rw [hpl, List.take_length] at this
    exact dpAll_keep kk.1 kk.2 this (fixAll_noList _)
  refine ⟨⟨?_, ?_, ?_, ?_, M.nSP, M.nSR, M.nPR, ?_, ?_, ?_, M.fS, M.fP, M.fR, ⟨h1, ?_, h3⟩, ?_, ?_, ?_⟩, ?_⟩
  · rw [upd_ne lS.symm, upd_ne pS.symm, upd_ne M.nSR, upd_ne M.nSP, upd_same]; simp [colS]
  · rw [upd_ne lP.symm, upd_ne pP.symm, upd_ne M.nPR, upd_same]; simp [colP]
  · rw [upd_ne lR.symm, upd_ne pR.symm, upd_same]; simp [colR]
  · intro x hx
    rcases List.mem_cons.mp hx with rfl | hx
    · exact upd_same
    · obtain ⟨xS, xP, xR, x1⟩ := M.out x (by simp [hx])
      have xl : x.rs ≠ l.rs := fun z => nd.2.1 (by rw [← z]; exact List.mem_map_of_mem hx)
      have xv := M.hv x (by simp [hx])
      rw [upd_ne xl, upd_ne (ne_of_none xv hpn), upd_ne xR, upd_ne xP, upd_ne xS]
      exact xv
  · simp only [List.map_cons, List.nodup_cons]
    exact nd.2
  · intro x hx
    rcases List.mem_cons.mp hx with rfl | hx
    · exact ⟨lS, lP, lR, l1⟩
    · exact M.out x (by simp [hx])
  · exact same_upd (same_upd (same_upd (same_upd (same_upd M.same M.fS) M.fP) M.fR) p1) l1
  · show DpAll K _ (l.vl ++ [.ref p]) (fixAll (l.its.take l.pl))
    rw [e1, etk, fixAll_map, List.map_append, ← fixAll_map]
    exact dpAll_app (dpAll_keep kk.1 kk.2 h2 (fixAll_noList _)) (.cons T .nil)
  · show l.pl ≤ l.its.length
    omega
  · exact below_keep kk.1 kk.2 hb
  · have := M.bd
    simp only [mu, List.length_cons] at this ⊢
    omega
  · simp only [mu]
    omega
/-- an item that is no list and no tuple -/
theorem mid_leaf (M : Mid K H1 H N B d S P R t r) {c : PyData} {v : V} (hc : t.its[t.pl]? = some c) (kc : kids c = none) (hv : Dp K H1 v c) {q : Addr} {oq : HO} {oP : List V} (eP : oP = colP ({ t with pl := t.pl + 1 } :: r))
    (hq : upd H P (.lst oP) q = none) :
    Mid K H1 (upd (upd (upd H P (.lst oP)) q oq) t.rs (.lst (t.vl ++ [v]))) N B d S P R { t with pl := t.pl + 1, vl := t.vl ++ [v] } r ∧ mu ({ t with pl := t.pl + 1, vl := t.vl ++ [v] } :: r) < mu (t :: r) := by
  subst eP
  have qP : q ≠ P := fun z => by rw [z, upd_same] at hq; cases hq
  have hqn : H q = none := by rw [upd_ne qP] at hq; exact hq
  have q1 : H1 q = none := M.same.free hqn
  obtain ⟨tS, tP, tR, t1⟩ := M.out t (by simp)
  have tq : t.rs ≠ q := ne_of_none (M.hv t (by simp)) hqn
  have kk : Keeps H (upd (upd (upd H P (.lst (colP ({ t with pl := t.pl + 1 } :: r)))) q oq) t.rs (.lst (t.vl ++ [v]))) := by
    refine (keeps_lst M.hP).trans ((keeps_new hq).trans (keeps_lst (xs := t.vl) ?_))
    rw [upd_ne tq, upd_ne tP]; exact M.hv t (by simp)
  have nd := M.nd
  simp only [List.map_cons, List.nodup_cons] at nd
  have hlt : t.pl < t.its.length := (List.getElem?_eq_some_iff.mp hc).1
  have etk : t.its.take (t.pl + 1) = t.its.take t.pl ++ [c] := by rw [List.take_add_one, hc]; rfl
  have hd := szAll_drop hc
  have hs := sz_pos c
  refine ⟨⟨?_, ?_, ?_, ?_, M.nSP, M.nSR, M.nPR, ?_, ?_, ?_, M.fS, M.fP, M.fR, ⟨M.ok.1, ?_, M.ok.2.2⟩, ?_, ?_, ?_⟩, ?_⟩
  · rw [upd_ne tS.symm, upd_ne (ne_of_none M.hS hqn), upd_ne M.nSP, M.hS]; simp [colS]
  · rw [upd_ne tP.symm, upd_ne qP.symm, upd_same]; simp [colP]
  · rw [upd_ne tR.symm, upd_ne (ne_of_none M.hR hqn), upd_ne M.nPR.symm, M.hR]; simp [colR]
  · intro x hx
    rcases List.mem_cons.mp hx with rfl | hx
    · exact upd_same
    · obtain ⟨xS, xP, xR, x1⟩ := M.out x (by simp [hx])
      have xl : x.rs ≠ t.rs := fun z => nd.1 (by rw [← z]; exact List.mem_map_of_mem hx)
      have xv := M.hv x (by simp [hx])
      rw [upd_ne xl, upd_ne (ne_of_none xv hqn), upd_ne xP]
      exact xv
  · simp only [List.map_cons, List.nodup_cons]
    exact nd
  · intro x hx
    rcases List.mem_cons.mp hx with rfl | hx
    · exact ⟨tS, tP, tR, t1⟩
    · exact M.out x (by simp [hx])
  · exact same_upd (same_upd (same_upd M.same M.fP) q1) t1
  · show DpAll K _ (t.vl ++ [v]) (fixAll (t.its.take (t.pl + 1)))
    rw [etk, fixAll_map, List.map_append, ← fixAll_map]
    refine dpAll_app (dpAll_keep kk.1 kk.2 M.ok.2.1 (fixAll_noList _)) (.cons ?_ .nil)
    obtain ⟨e, h⟩ := leaf_dp (H' := _) hv kc
    rw [e]
    exact h
  · exact hlt
  · exact below_keep kk.1 kk.2 M.bl
  · have := M.bd
    simp only [mu, List.length_cons] at this ⊢
    omega
  · simp only [mu]
    omega
/-- an item that is a list or a tuple: a new level -/
theorem mid_push (M : Mid K H1 H N B d S P R t r) {c : PyData} {v : V} {its : List PyData} (hc : t.its[t.pl]? = some c) (kc : kids c = some its) (hv : Dp K H1 v c) {q e : Addr} {oq : HO} {oP oS oP' oR : List V}
    (eP : oP = colP ({ t with pl := t.pl + 1 } :: r)) (hq : upd H P (.lst oP) q = none) (eS : oS = colS ({ t with pl := t.pl + 1 } :: r) ++ [v]) (eP' : oP' = colP ({ t with pl := t.pl + 1 } :: r) ++ [V.int 0]) (eR : oR = colR ({ t with pl := t.pl + 1 } :: r) ++ [V.ref e])
    (he : upd (upd (upd (upd H P (.lst oP)) q oq) S (.lst oS)) P (.lst oP') e = none) :
    Mid K H1 (upd (upd (upd (upd (upd (upd H P (.lst oP)) q oq) S (.lst oS)) P (.lst oP')) e (.lst [])) R (.lst oR)) N B d S P R ⟨v, its, 0, e, []⟩ ({ t with pl := t.pl + 1 } :: r) ∧ mu (⟨v, its, 0, e, []⟩ :: { t with pl := t.pl + 1 } :: r) < mu (t :: r) := by
  subst eP eS eP' eR
  have qP : q ≠ P := fun z => by rw [z, upd_same] at hq; cases hq
  have hqn : H q = none := by rw [upd_ne qP] at hq; exact hq
  have q1 : H1 q = none := M.same.free hqn
  have qS : S ≠ q := ne_of_none M.hS hqn
  have qR : R ≠ q := ne_of_none M.hR hqn
  have eP : e ≠ P := fun z => by rw [z, upd_same] at he; cases he
  have eS : e ≠ S := fun z => by rw [z, upd_ne M.nSP, upd_same] at he; cases he
  have eq : e ≠ q := fun z => by rw [z, upd_ne qP, upd_ne qS.symm, upd_same] at he; cases he
  have hen : H e = none := by rw [upd_ne eP, upd_ne eS, upd_ne eq, upd_ne eP] at he; exact he
  have e1 : H1 e = none := M.same.free hen
  have eR : R ≠ e := ne_of_none M.hR hen
  have kk : Keeps H (upd (upd (upd (upd (upd (upd H P (.lst (colP ({ t with pl := t.pl + 1 } :: r)))) q oq) S (.lst (colS ({ t with pl := t.pl + 1 } :: r) ++ [v]))) P (.lst (colP ({ t with pl := t.pl + 1 } :: r) ++ [V.int 0]))) e (.lst [])) R (.lst (colR ({ t with pl := t.pl + 1 } :: r) ++ [V.ref e]))) := by
    refine (keeps_lst M.hP).trans ((keeps_new hq).trans ((keeps_lst (xs := colS (t :: r)) ?_).trans ((keeps_lst (xs := colP ({ t with pl := t.pl + 1 } :: r)) ?_).trans ((keeps_new he).trans (keeps_lst (xs := colR (t :: r)) ?_)))))
    · rw [upd_ne qS, upd_ne M.nSP]; exact M.hS
    · rw [upd_ne M.nSP.symm, upd_ne qP.symm, upd_same]
    · rw [upd_ne eR, upd_ne M.nPR.symm, upd_ne M.nSR.symm, upd_ne qR, upd_ne M.nPR.symm]; exact M.hR
  have nd := M.nd
  simp only [List.map_cons, List.nodup_cons] at nd
  have hlt : t.pl < t.its.length := (List.getElem?_eq_some_iff.mp hc).1
  have hd := szAll_drop hc
  have hs := sz_kids kc
  have hm : c ∈ t.its := List.mem_of_getElem? hc
  refine ⟨⟨?_, ?_, ?_, ?_, M.nSP, M.nSR, M.nPR, ?_, ?_, ?_, M.fS, M.fP, M.fR, ⟨src_of hv kc, ?_, ?_⟩, ?_, ?_, ?_⟩, ?_⟩
  · rw [upd_ne M.nSR, upd_ne eS.symm, upd_ne M.nSP, upd_same]; simp [colS]
  · rw [upd_ne M.nPR, upd_ne eP.symm, upd_same]; simp [colP]
  · rw [upd_same]; simp [colR]
  · intro x hx
    rcases List.mem_cons.mp hx with rfl | hx
    · rw [upd_ne eR.symm, upd_same]
    · have xx : ∃ y ∈ t :: r, y.rs = x.rs ∧ y.vl = x.vl := by
        rcases List.mem_cons.mp hx with rfl | hx
        · exact ⟨t, by simp, rfl, rfl⟩
        · exact ⟨x, by simp [hx], rfl, rfl⟩
      obtain ⟨y, hy, y1, y2⟩ := xx
      obtain ⟨xS, xP, xR, x1⟩ := M.out y hy
      have xv := M.hv y hy
      rw [← y1, ← y2, upd_ne xR, upd_ne (ne_of_none xv hen), upd_ne xP, upd_ne xS, upd_ne (ne_of_none xv hqn), upd_ne xP]
      exact xv
  · simp only [List.map_cons, List.nodup_cons, List.mem_cons, not_or]
    refine ⟨⟨fun z => ?_, fun z => ?_⟩, nd⟩
    · have := M.hv t (by simp)
      rw [← z, hen] at this
      cases this
    · obtain ⟨y, hy, z⟩ := List.mem_map.mp z
      have := M.hv y (by simp [hy])
      rw [z, hen] at this
      cases this
  · intro x hx
    rcases List.mem_cons.mp hx with rfl | hx
    · exact ⟨eS, eP, eR.symm, e1⟩
    · rcases List.mem_cons.mp hx with rfl | hx
      · exact M.out t (by simp)
      · exact M.out x (by simp [hx])
  · exact same_upd (same_upd (same_upd (same_upd (same_upd (same_upd M.same M.fP) q1) M.fS) M.fP) e1) M.fR
  · show DpAll K _ [] (fixAll (its.take 0))
    rw [List.take_zero]
    exact .nil
  · show szAll its ≤ N
    have := sz_le_all hm
    have := M.ok.2.2
    omega
  · exact Nat.zero_le _
  · exact ⟨t.pl, c, rfl, hc, kc, ⟨M.ok.1, dpAll_keep kk.1 kk.2 M.ok.2.1 (fixAll_noList _), M.ok.2.2⟩, below_keep kk.1 kk.2 M.bl⟩
  · have := M.bd
    simp only [mu, List.length_cons, List.drop_zero] at this ⊢
    omega
  · simp only [mu, List.drop_zero]
    omega
end
end Rx

set_option Elab.async false
set_option linter.all false
set_option maxRecDepth 100000
set_option maxHeartbeats 4000000
namespace XE
open PySem PySem.Spec PyProof.Rows L2 Rx SX
abbrev sFrozen : Stmt := topS 9
/-- the built-in names that stand as they were -/
structure TxtB (mg : Str → Option Value) : Prop where
  len : mg "len" = none
  tup : mg "tuple" = none
  lst : mg "list" = none
  isi : mg "isinstance" = none
def spFrozen (K : PySem.W.Frag) : Sp := fun vs H Q _ => ∃ (v : V) (d : PyData), vs = [v] ∧ Dp K H v d ∧ sz d ≤ 1000 ∧ ∀ H' v', Same H H' → Dp K H' v' (fix d) → Q v' H'
section
variable {P : Program} {w : World} {K : PySem.W.Frag} {mg : Str → Option Value} {base : Heap}
theorem scFz : FnScope ["thing", "sources", "places", "results", "source", "place", "finished", "item"] ["thing"] (defScope sFrozen) := ⟨rfl, rfl, rfl, by decide +kernel, rfl, by decide +kernel, by decide +kernel⟩
theorem set_last (xs : List V) (v u : V) : (xs ++ [v]).set xs.length u = xs ++ [u] := by
  rw [List.set_append_right _ _ (Nat.le_refl _), Nat.sub_self]
  rfl
theorem ixN_last (n : Nat) : ixN (n + 1) (-1) = some n := by
  unfold ixN
  rw [if_neg (by decide), if_pos (by omega)]
  congr 1
  omega
theorem last_get (xs : List V) (v : V) : (xs ++ [v])[(xs ++ [v]).length - 1]? = some v := by simp
theorem ix_any {H : Hp} {x v : V} {a : Addr} {xs : List V} {i : Nat} {Q : VK} (h : SqL K H a xs ∨ SqT K H a xs) (e : x = .ref a) (hv : xs[i]? = some v) (q : Q v H) : rIx K x (.int i) H Q :=
  h.elim (fun h => .inl ⟨a, xs, _, v, e, rfl, h, atI_nat hv, q⟩) (fun h => .inr (.inl ⟨a, xs, _, v, e, rfl, h, atI_nat hv, q⟩))
theorem ok_frozen {f : Addr} {fd : FuncData} (F : Fun K "frozen" "frozen" sFrozen f fd) (T : TxtB mg) : FnOk P w K mg base CX0 1 f fd ["thing"] (spFrozen K) := by
  refine F.ok scFz (fun vs H Q E h => ?_) (fun cdv A outer s H vs Q E hr h => ?_)
  · obtain ⟨v, d, rfl, _⟩ := h
    rfl
  · obtain ⟨v, d, rfl, hv, hsz, k⟩ := h
    refine ⟨_, pss_cons (ps_set (i := 1) scFz.nd rfl (.inl rfl) (pe_lst (pa_cons (pe_lst (pa_cons (pv 0) pa_nil)) pa_nil)))
      (pss_cons (ps_set (i := 2) scFz.nd rfl (.inl rfl) (pe_lst (pa_cons pe_int pa_nil)))
      (pss_cons (ps_set (i := 3) scFz.nd rfl (.inl rfl) (pe_lst (pa_cons (pe_lst pa_nil) pa_nil)))
      (pss_cons (ps_while PassesOwn.never
        (PW.pt (pw_or (pt_cmpR op_gt (pe_callB call_len_seq (by rfl) T.len PySem.boot_len (pa_cons (pv 1) pa_nil)) pe_int (nomark _)) (pw_or1 (pt_cmpR op_eq (pe_ix ix_list (pv 2) pe_int (fun _ _ => rfl)) pe_int (nomark _)))))
        (pss_cons (ps_set (i := 4) scFz.nd rfl (.inl rfl) (pe_ix ix_list (pv 1) (pe_un un_neg pe_int) (fun _ _ => rfl)))
        (pss_cons (ps_set (i := 5) scFz.nd rfl (.inl rfl) (pe_ix ix_list (pv 2) (pe_un un_neg pe_int) (fun _ _ => rfl)))
        (pss_cons (ps_if (pt_cmpR op_eq (pv 5) (pe_callB call_len_seq (by rfl) T.len PySem.boot_len (pa_cons (pv 4) pa_nil)) (nomark _))
          (pss_cons (ps_expr (pe_bm0 PySem.F.plainAttrs_list PySem.F.slot_list_pop PySem.F.type_list_pop mt_pop (pv 1)))
          (pss_cons (ps_expr (pe_bm0 PySem.F.plainAttrs_list PySem.F.slot_list_pop PySem.F.type_list_pop mt_pop (pv 2)))
          (pss_cons (ps_set (i := 6) scFz.nd rfl (.inl rfl) (pe_callTy call_tuple_of (by rfl) T.tup (by decide +kernel) (pa_cons (pe_bm0 PySem.F.plainAttrs_list PySem.F.slot_list_pop PySem.F.type_list_pop mt_pop (pv 3)) pa_nil)))
          (pss_cons (ps_expr (pe_bm PySem.F.plainAttrs_list PySem.F.slot_list_append PySem.F.type_list_append mt_append (pe_ix ix_list (pv 3) (pe_un un_neg pe_int) (fun _ _ => rfl)) (pa_cons (pv 6) pa_nil)))
          (pss_one ps_continue))))) pss_nil)
        (pss_cons (ps_asg (pe_op op_add (pv 5) pe_int) (pg_sub (pv 2) (pe_un un_neg pe_int) set_list))
        (pss_cons (ps_set (i := 7) scFz.nd rfl (.inl rfl) (pe_ix ix_seq (pv 4) (pv 5) (fun _ _ => rfl)))
        (pss_one (ps_if (pt_val (pe_callB call_isiT (by rfl) T.isi (by decide +kernel) (pa_cons (pv 7) (pa_cons (pe_tup (pa_cons (pe_bltn (v := .ty "list") (by rfl) T.lst (by decide +kernel) rfl) (pa_cons (pe_bltn (v := .ty "tuple") (by rfl) T.tup (by decide +kernel) rfl) pa_nil))) pa_nil))))
          (pss_cons (ps_expr (pe_bm PySem.F.plainAttrs_list PySem.F.slot_list_append PySem.F.type_list_append mt_append (pv 1) (pa_cons (pv 7) pa_nil)))
          (pss_cons (ps_expr (pe_bm PySem.F.plainAttrs_list PySem.F.slot_list_append PySem.F.type_list_append mt_append (pv 2) (pa_cons pe_int pa_nil)))
          (pss_one (ps_expr (pe_bm PySem.F.plainAttrs_list PySem.F.slot_list_append PySem.F.type_list_append mt_append (pv 3) (pa_cons (pe_lst pa_nil) pa_nil))))))
          (pss_one (ps_expr (pe_bm PySem.F.plainAttrs_list PySem.F.slot_list_append PySem.F.type_list_append mt_append (pe_ix ix_list (pv 3) (pe_un un_neg pe_int) (fun _ _ => rfl)) (pa_cons (pv 7) pa_nil))))))))))))
      (pss_one (ps_ret (pe_ix ix_list (pe_ix ix_list (pv 3) pe_int (fun _ _ => rfl)) pe_int (fun _ _ => rfl))))))), ?_⟩
    refine ⟨_, rfl, (by show 1 ≤ sizeLine; decide), fun B0 hB => ⟨(by show 1 ≤ sizeLine; decide), fun S hS => ?_⟩⟩
    refine ⟨(by show 1 ≤ sizeLine; decide), fun Pp hP => ?_⟩
    refine ⟨(by show 0 ≤ sizeLine; decide), fun E1 hE => ⟨(by show 1 ≤ sizeLine; decide), fun R hR => ?_⟩⟩
    have nSB : S ≠ B0 := fun z => by rw [z, upd_same] at hS; cases hS
    have nPS : Pp ≠ S := fun z => by rw [z, upd_same] at hP; cases hP
    have hP1 : upd H B0 (.lst [v]) Pp = none := by rw [upd_ne nPS] at hP; exact hP
    have nEP : E1 ≠ Pp := fun z => by rw [z, upd_same] at hE; cases hE
    have hE1 : upd (upd H B0 (.lst [v])) S (.lst [V.ref B0]) E1 = none := by rw [upd_ne nEP] at hE; exact hE
    have nES : E1 ≠ S := fun z => by rw [z, upd_same] at hE1; cases hE1
    have hE2 : upd H B0 (.lst [v]) E1 = none := by rw [upd_ne nES] at hE1; exact hE1
    have nRE : R ≠ E1 := fun z => by rw [z, upd_same] at hR; cases hR
    have hR1 : upd (upd (upd H B0 (.lst [v])) S (.lst [V.ref B0])) Pp (.lst [V.int 0]) R = none := by rw [upd_ne nRE] at hR; exact hR
    have nRP : R ≠ Pp := fun z => by rw [z, upd_same] at hR1; cases hR1
    have hR2 : upd (upd H B0 (.lst [v])) S (.lst [V.ref B0]) R = none := by rw [upd_ne nRP] at hR1; exact hR1
    have nRS : R ≠ S := fun z => by rw [z, upd_same] at hR2; cases hR2
    have hR3 : upd H B0 (.lst [v]) R = none := by rw [upd_ne nRS] at hR2; exact hR2
    have sm : Same H (upd H B0 (.lst [v])) := same_new hB
    refine ⟨fun m σ H' => ∃ (t : Lv) (r : List Lv) (x4 x5 x6 x7 : Option V), m = mu (t :: r) ∧ σ = [some v, some (.ref S), some (.ref Pp), some (.ref R), x4, x5, x6, x7] ∧ Mid K (upd H B0 (.lst [v])) H' (sz d) (sz d + 2) d S Pp R t r,
      ⟨_, ⟨.ref B0, [d], 0, E1, []⟩, [], none, none, none, none, rfl, rfl, ?_⟩, ?_⟩
    · refine ⟨?_, ?_, ?_, ?_, nPS.symm, nRS.symm, nRP.symm, ?_, ?_, ?_, hS, hP1, hR3, ⟨⟨B0, [v], rfl, .inl (SqL.of upd_same), .cons (dp_same sm hv) .nil⟩, .nil, ?_⟩, ?_, rfl, ?_⟩
      · rw [upd_ne nRS.symm, upd_ne nES.symm, upd_ne nPS.symm, upd_same]; rfl
      · rw [upd_ne nRP.symm, upd_ne nEP.symm, upd_same]; rfl
      · rw [upd_same]; rfl
      · intro l hl
        obtain rfl : l = _ := List.mem_singleton.mp hl
        rw [upd_ne nRE.symm, upd_same]
      · simp
      · intro l hl
        obtain rfl : l = _ := List.mem_singleton.mp hl
        exact ⟨nES, nEP, nRE.symm, hE2⟩
      · exact same_upd (same_upd (same_upd (same_upd (Same.refl _) hS) hP1) hE2) hR3
      · simp [szAll]
      · exact Nat.zero_le _
      · simp [mu, szAll]
    · rintro m σ Hc ⟨t, r, x4, x5, x6, x7, rfl, rfl, M⟩
      have hS' : Hc S = some (.lst (colS r ++ [t.src])) := by rw [← colS_cons]; exact M.hS
      have hP' : Hc Pp = some (.lst (colP r ++ [V.int t.pl])) := by rw [← colP_cons]; exact M.hP
      have hR' : Hc R = some (.lst (colR r ++ [V.ref t.rs])) := by rw [← colR_cons]; exact M.hR
      by_cases hx : r = [] ∧ t.pl ≠ 0
      · obtain ⟨rfl, hx⟩ := hx
        have hits : t.its = [d] := M.bl
        have hpl : t.pl = 1 := by
          have := M.le
          rw [hits] at this
          simp at this
          omega
        have hvl := M.ok.2.1
        rw [hits, hpl] at hvl
        simp only [List.take_succ_cons, List.take_nil, fixAll] at hvl
        obtain ⟨vl0, e0, q0⟩ := dpAll_get (i := 0) hvl rfl
        refine ⟨_, rfl, S, _, rfl, .inl (SqL.of M.hS), _, _, rfl, rfl, _, rfl, iteFc ?_ ?_⟩
        · simp [colS]
        refine ⟨_, rfl, Pp, _, _, _, rfl, rfl, SqL.of hP', atI_nat (j := 0) rfl, rfl, _, rfl, iteFc ?_ ?_⟩
        · simp [hpl]
        refine ⟨_, rfl, R, _, _, _, rfl, rfl, SqL.of hR', atI_nat (j := 0) rfl, t.rs, _, _, _, rfl, rfl, SqL.of (M.hv t (by simp)), atI_nat (j := 0) e0, ?_⟩
        exact k _ _ (sm.trans M.same) q0
      · have go : r = [] → t.pl = 0 := fun z => Classical.byContradiction fun n => hx ⟨z, n⟩
        have big : ∀ n, n ≤ 1010 → n < sizeLine := fun n hn => Nat.lt_of_le_of_lt hn (by decide)
        have hLen : (t :: r).length ≤ 1002 := by have := M.bd; omega
        obtain ⟨a, xs, hsrc, hsq, hxs⟩ := M.ok.1
        have hlen := dpAll_len hxs
        have hsq' : SqL K Hc a xs ∨ SqT K Hc a xs := hsq.imp (sqL_same M.same) (sqT_same M.same)
        refine ⟨_, rfl, S, _, rfl, .inl (SqL.of M.hS), _, _, rfl, rfl, _, rfl, ite2 (fun _ => iteT ?g1) (fun hn => ?g2)⟩
        case' g2 =>
          have hr0 : r = [] := by
            cases r with
            | nil => rfl
            | cons l r => exact absurd (by simp [colS]; omega) hn
          refine ⟨_, rfl, Pp, _, _, _, rfl, rfl, SqL.of hP', atI_nat (j := 0) (v := V.int t.pl) (by rw [hr0]; rfl), rfl, _, rfl, iteTc (by simp [go hr0]) ?_⟩
        all_goals
          refine ⟨fun σ' H' => ∃ m', m' < mu (t :: r) ∧ ∃ (t' : Lv) (r' : List Lv) (x4 x5 x6 x7 : Option V), m' = mu (t' :: r') ∧ σ' = [some v, some (.ref S), some (.ref Pp), some (.ref R), x4, x5, x6, x7] ∧ Mid K (upd H B0 (.lst [v])) H' (sz d) (sz d + 2) d S Pp R t' r', fun _ _ h => h, ?_⟩
          refine ⟨_, rfl, _, rfl, S, _, _, _, rfl, rfl, SqL.of hS', atI_last _ _, ?_⟩
          refine ⟨_, rfl, _, rfl, Pp, _, _, _, rfl, rfl, SqL.of hP', atI_last _ _, ?_⟩
          refine ⟨_, rfl, _, rfl, a, xs, (by rw [hsrc]), hsq', rfl, _, rfl, ?_⟩
          refine ite2 (fun h => ?_) (fun h => ?_)
          · have hpl : t.pl = t.its.length := by
              have h2 := of_decide_eq_true h
              injection h2 with h2
              omega
            cases r with
            | nil =>
              have hits : t.its = [d] := M.bl
              have := go rfl
              rw [hits] at hpl
              simp at hpl
              omega
            | cons l r =>
              refine ⟨_, rfl, .inl ⟨rfl, _, SqL.of hS'⟩, S, _, _, rfl, rfl, hS', last_get _ _, ?_⟩
              have hP2 : upd Hc S (.lst ((colS (l :: r) ++ [t.src]).dropLast)) Pp = some (.lst (colP (l :: r) ++ [V.int t.pl])) := by rw [upd_ne nPS]; exact hP'
              refine ⟨_, rfl, .inl ⟨rfl, _, SqL.of hP2⟩, Pp, _, _, rfl, rfl, hP2, last_get _ _, ?_⟩
              have hR2' : upd (upd Hc S (.lst ((colS (l :: r) ++ [t.src]).dropLast))) Pp (.lst ((colP (l :: r) ++ [V.int t.pl]).dropLast)) R = some (.lst (colR (l :: r) ++ [V.ref t.rs])) := by rw [upd_ne nRP, upd_ne nRS]; exact hR'
              refine ⟨_, rfl, .inl ⟨rfl, _, SqL.of hR2'⟩, R, _, _, rfl, rfl, hR2', last_get _ _, ?_⟩
              obtain ⟨tS, tP, tR, t1⟩ := M.out t (by simp)
              refine ⟨t.rs, t.vl, rfl, .inl ⟨SqL.of (by rw [upd_ne tR, upd_ne tP, upd_ne tS]; exact M.hv t (by simp)), fun p hp => ?_⟩⟩
              obtain ⟨M', lt⟩ := mid_pop M hpl (List.dropLast_concat) (List.dropLast_concat) (List.dropLast_concat) hp
              obtain ⟨lS, lP, lR, l1⟩ := M.out l (by simp)
              have hR3' : upd (upd (upd (upd Hc S (.lst ((colS (l :: r) ++ [t.src]).dropLast))) Pp (.lst ((colP (l :: r) ++ [V.int t.pl]).dropLast))) R (.lst ((colR (l :: r) ++ [V.ref t.rs]).dropLast))) p (.tup t.vl) R = some (.lst (colR r ++ [V.ref l.rs])) := by
                rw [upd_ne (fun z => by rw [← z, upd_same] at hp; cases hp), upd_same, List.dropLast_concat, colR_cons]
              have hvl' : upd (upd (upd (upd Hc S (.lst ((colS (l :: r) ++ [t.src]).dropLast))) Pp (.lst ((colP (l :: r) ++ [V.int t.pl]).dropLast))) R (.lst ((colR (l :: r) ++ [V.ref t.rs]).dropLast))) p (.tup t.vl) l.rs = some (.lst l.vl) := by
                have e : upd (upd (upd Hc S (.lst ((colS (l :: r) ++ [t.src]).dropLast))) Pp (.lst ((colP (l :: r) ++ [V.int t.pl]).dropLast))) R (.lst ((colR (l :: r) ++ [V.ref t.rs]).dropLast)) l.rs = some (.lst l.vl) := by
                  rw [upd_ne lR, upd_ne lP, upd_ne lS]; exact M.hv l (by simp)
                rw [upd_ne (ne_of_none e hp)]
                exact e
              refine ⟨_, rfl, _, rfl, R, _, _, _, rfl, rfl, SqL.of hR3', atI_last _ _, .inl ⟨rfl, _, SqL.of hvl'⟩, _, rfl, l.rs, _, _, rfl, rfl, hvl', big _ (by have := below_len M.bl l (by simp); omega), ?_⟩
              exact ⟨_, lt, _, r, _, _, _, _, rfl, rfl, M'⟩
          · have hlt : t.pl < t.its.length := by
              have h2 : ¬ (V.int (t.pl : Int) = V.int (xs.length : Int)) := fun z => h (decide_eq_true z)
              have h3 : t.pl ≠ xs.length := fun z => h2 (by rw [z])
              have := M.le
              omega
            obtain ⟨c, hc⟩ : ∃ c, t.its[t.pl]? = some c := ⟨_, List.getElem?_eq_getElem hlt⟩
            obtain ⟨vi, hvi, hdp⟩ := dpAll_get hxs hc
            have eP : (colP r ++ [V.int t.pl]).set (colP r).length (V.int ((t.pl : Int) + 1)) = colP ({ t with pl := t.pl + 1 } :: r) := by
              rw [set_last, colP_cons]
              simp
            refine ⟨_, rfl, _, _, rfl, rfl, _, rfl, _, rfl, Pp, _, _, (colP r).length, rfl, rfl, hP', (by rw [List.length_append]; exact ixN_last _), ?_⟩
            have sm2 : Same (upd H B0 (.lst [v])) (upd Hc Pp (.lst ((colP r ++ [V.int t.pl]).set (colP r).length (V.int ((t.pl : Int) + 1))))) := same_upd M.same hP1
            refine ⟨_, rfl, _, rfl, ix_any (hsq.imp (sqL_same sm2) (sqT_same sm2)) hsrc hvi ?_⟩
            refine ⟨_, rfl, (by show 2 ≤ sizeLine; decide), fun q hq => ?_⟩
            have qP : q ≠ Pp := fun z => by rw [z, upd_same] at hq; cases hq
            have hqn : Hc q = none := by rw [upd_ne qP] at hq; exact hq
            have q1 : upd H B0 (.lst [v]) q = none := M.same.free hqn
            have qS : S ≠ q := ne_of_none M.hS hqn
            have qR : R ≠ q := ne_of_none M.hR hqn
            obtain ⟨ty, tx, tk⟩ := ty_dp (dp_same (same_upd (o := .tup [.ty "list", .ty "tuple"]) sm2 q1) hdp)
            refine ⟨_, q, _, ty, _, _, rfl, upd_same, .cons (.ty "list") (.cons (.ty "tuple") .nil), tx, tk, _, rfl, ?_⟩
            cases kc : kids c with
            | some its =>
              refine iteTc rfl ?_
              have hS3 : upd (upd Hc Pp (.lst ((colP r ++ [V.int t.pl]).set (colP r).length (V.int ((t.pl : Int) + 1))))) q (.tup [.ty "list", .ty "tuple"]) S = some (.lst (colS (t :: r))) := by rw [upd_ne qS, upd_ne nPS.symm]; exact M.hS
              refine ⟨_, rfl, .inl ⟨rfl, _, SqL.of hS3⟩, _, rfl, S, _, _, rfl, rfl, hS3, big _ (by rw [(col_lens _).1]; omega), ?_⟩
              have hP3 : upd (upd (upd Hc Pp (.lst ((colP r ++ [V.int t.pl]).set (colP r).length (V.int ((t.pl : Int) + 1))))) q (.tup [.ty "list", .ty "tuple"])) S (.lst (colS (t :: r) ++ [vi])) Pp = some (.lst (colP ({ t with pl := t.pl + 1 } :: r))) := by rw [upd_ne nPS, upd_ne qP.symm, upd_same, eP]
              refine ⟨_, rfl, .inl ⟨rfl, _, SqL.of hP3⟩, Pp, _, _, rfl, rfl, hP3, big _ (by rw [(col_lens _).2.1]; simp only [List.length_cons] at hLen ⊢; omega), ?_⟩
              have hR4 : upd (upd (upd (upd Hc Pp (.lst ((colP r ++ [V.int t.pl]).set (colP r).length (V.int ((t.pl : Int) + 1))))) q (.tup [.ty "list", .ty "tuple"])) S (.lst (colS (t :: r) ++ [vi]))) Pp (.lst (colP ({ t with pl := t.pl + 1 } :: r) ++ [V.int 0])) R = some (.lst (colR (t :: r))) := by
                rw [upd_ne nRP, upd_ne nRS, upd_ne qR, upd_ne nRP]; exact M.hR
              refine ⟨_, rfl, .inl ⟨rfl, _, SqL.of hR4⟩, (by show 0 ≤ sizeLine; decide), fun e he => ?_⟩
              have neR : R ≠ e := ne_of_none hR4 he
              refine ⟨R, _, _, rfl, rfl, (by rw [upd_ne neR]; exact hR4), big _ (by rw [(col_lens _).2.2]; omega), ?_⟩
              obtain ⟨M', lt⟩ := mid_push (oq := .tup [.ty "list", .ty "tuple"]) (oS := colS (t :: r) ++ [vi]) (oR := colR (t :: r) ++ [V.ref e]) M hc kc hdp eP hq (by simp [colS]) rfl (by simp [colR]) he
              exact ⟨_, lt, _, _, _, _, _, _, rfl, rfl, M'⟩
            | none =>
              refine iteFc rfl ?_
              obtain ⟨tS, tP, tR, t1⟩ := M.out t (by simp)
              have hR3' : upd (upd Hc Pp (.lst ((colP r ++ [V.int t.pl]).set (colP r).length (V.int ((t.pl : Int) + 1))))) q (.tup [.ty "list", .ty "tuple"]) R = some (.lst (colR r ++ [V.ref t.rs])) := by rw [upd_ne qR, upd_ne nRP]; exact hR'
              have ht3 : upd (upd Hc Pp (.lst ((colP r ++ [V.int t.pl]).set (colP r).length (V.int ((t.pl : Int) + 1))))) q (.tup [.ty "list", .ty "tuple"]) t.rs = some (.lst t.vl) := by rw [upd_ne (ne_of_none (M.hv t (by simp)) hqn), upd_ne tP]; exact M.hv t (by simp)
              have hvlen : t.vl.length ≤ 1000 := by
                have h1 := dpAll_len M.ok.2.1
                rw [fixAll_map, List.length_map, List.length_take] at h1
                have h2 := len_le_sz t.its
                have h3 := M.ok.2.2
                omega
              refine ⟨_, rfl, _, rfl, R, _, _, _, rfl, rfl, SqL.of hR3', atI_last _ _, .inl ⟨rfl, _, SqL.of ht3⟩, _, rfl, t.rs, _, _, rfl, rfl, ht3, big _ (by omega), ?_⟩
              obtain ⟨M', lt⟩ := mid_leaf (oq := .tup [.ty "list", .ty "tuple"]) M hc kc hdp eP hq
              exact ⟨_, lt, _, _, _, _, _, _, rfl, rfl, M'⟩
end
end XE

set_option Elab.async false
set_option linter.all false
set_option maxRecDepth 100000
set_option maxHeartbeats 4000000
namespace Rx
open PySem PySem.Spec PyProof.Rows L2
/-! ### the __init__ of an error -/
structure SupFn (K : PySem.W.Frag) (qual : Str) (st : Stmt) (f cda cc : Addr) (fd : FuncData) : Prop where
  ex : ∃ (oc : Value) (od : Option Addr) (kV doc pm : Value) (an : Option Addr) (ct : Value) (osl : Array (Option Value)),
    fd = PySem.W.ksFn "__init__" qual (defArgs st) (defBody st) (defScope st) .none kV doc pm an (.ref cda) ct cc ∧ K.lookup f = some ⟨oc, od, .func fd, osl⟩ ∧ PySem.W.codeIn K (.ref cda) qual = true
/-- the arguments' data are kept under the fields' names, lists turned into tuples -/
def spInit (K : PySem.W.Frag) (C : Addr) (fs : List Str) : Sp := fun vs H Q _ => ∃ (a : Addr) (ws : List V) (ds : List PyData), vs = .ref a :: ws ∧ ws.length = fs.length ∧ H a = some (exo a C none) ∧ DpAll K H ws ds ∧ (∀ d ∈ ds, sz d ≤ 1000) ∧
  ∀ (H' : Hp) (dx : Addr) (us : List V), H dx = none → H' a = some (exo a C (some dx)) → H' dx = some (exd dx (fs.zip us).reverse) → DpAll K H' us (fixAll ds) → (∀ b o, H b = some o → b ≠ a → H' b = some o) → us.length = fs.length → Q .non H'
theorem spInit_self {K : PySem.W.Frag} {C : Addr} {fs : List Str} : ∀ vs H Q E, spInit K C fs vs H Q E → ∃ a ws, vs = .ref a :: ws ∧ H a = some (exo a C none) := fun vs H Q E h => by
  obtain ⟨a, ws, ds, e, _, h, _⟩ := h
  exact ⟨a, ws, e, h⟩
theorem spInit_len {K : PySem.W.Frag} {C : Addr} {fs : List Str} : ∀ vs H Q E, spInit K C fs vs H Q E → vs.length = ("self" :: fs : List Str).length := fun vs H Q E h => by
  obtain ⟨a, ws, ds, rfl, e, _⟩ := h
  rw [List.length_cons, List.length_cons, e]
theorem keeps_ext {H : Hp} {a : Addr} {φ : Heap → Prop} {o : HO} (h : H a = some (.ext φ)) : Keeps H (upd H a o) :=
  ⟨fun b ys e => by rw [upd_ne (ne_of e h (by intro z; cases z))]; exact e, fun b ob u e => by rw [upd_ne (ne_of e h (by intro z; cases z))]; exact e⟩
theorem Keeps.of_same {H H' : Hp} (h : Same H H') : Keeps H H' := ⟨fun a xs => h a _, fun a o u => h a _⟩
theorem SupFn.ok {CX : CXT} {P : Program} {w : World} {K : PySem.W.Frag} {mg : Str → Option Value} {base : Heap} {k : Nat} {f C cda cc : Addr} {qual : Str} {st : Stmt} {fd : FuncData} {N ps : List Str} {sp : Sp} {p0 p1 p2 p3 p4 : Pos} {rest : List Stmt} {ar : Arg}
    (F : SupFn K qual st f cda cc fd) (S : ScopeS N ps (defScope st)) (T : SupC P K C cda cc) (hb : defBody st = .Expr (.Call (.Attribute (.Call (.Name "super" p0) [] [] p1) "__init__" p2) [] [] p3) p4 :: rest)
    (hp : ((defArgs st).posonlyargs ++ (defArgs st).args).head? = some ar) (hps : ps[0]? = some ar.arg) (len : ∀ vs H Q E, sp vs H Q E → vs.length = ps.length) (slf : ∀ vs H Q E, sp vs H Q E → ∃ a ws, vs = .ref a :: ws ∧ H a = some (exo a C none))
    (hi : ∀ L, interactive (PySem.W.ksEnv qual (defScope st) L f (.ref cda) cc) = false)
    (hsw : ∀ L, swapsWith (.Call (.Attribute (.Call (.Name "super" p0) [] [] p1) "__init__" p2) [] [] p3) none p4.line (PySem.W.ksEnv qual (defScope st) L f (.ref cda) cc) = pure false)
    (he : ∀ L, ∃ pl : Sem Bool, eval (.Call (.Attribute (.Call (.Name "super" p0) [] [] p1) "__init__" p2) [] [] p3) (PySem.W.ksEnv qual (defScope st) L f (.ref cda) cc) = (do
      let ov ← attributeBase (.Call (.Name "super" p0) [] [] p1) "__init__" (PySem.W.ksEnv qual (defScope st) L f (.ref cda) cc) (eval (.Call (.Name "super" p0) [] [] p1) (PySem.W.ksEnv qual (defScope st) L f (.ref cda) cc))
      standAt p2.atName
      let (fx, first) ← holding [ov] (getMethod ov "__init__" pl)
      callWith p3 fx first (backTo p3 (starEach [] (PySem.W.ksEnv qual (defScope st) L f (.ref cda) cc))) []))
    (hbody : ∀ (A : Around) (outer : List Env) (s : Shared) (H : Hp) (vs : List V) (Q : VK) (E : XK), Room k (A.deeper (PySem.W.ksEnv qual (defScope st) s.heap.objs.size f (.ref cda) cc)) → sp vs H Q E →
      ∃ t, PSs (cxS CX P w K mg base N qual (defScope st) f (.ref cda) cc A outer s H E) rest t ∧ t { nx := fun _ H' => Q .non H', rt := Q } (L2.start N vs) H) : FnOk P w K mg base CX (k + 1) f fd ps sp := by
  obtain ⟨oc, od, kV, doc, pm, an, ct, osl, rfl, lk, hcd⟩ := F.ex
  rw [hb] at lk ⊢
  exact fn_super lk hcd S T hp hps len slf hbody hi hsw he
mutual
theorem dp_but {K : PySem.W.Frag} {H H' : Hp} {a : Addr} {φ : Heap → Prop} (ha : H a = some (.ext φ)) (k : ∀ b o, H b = some o → b ≠ a → H' b = some o) : ∀ {v : V} {d : PyData}, Dp K H v d → Dp K H' v d
  | _, _, .non => .non
  | _, _, .bl b => .bl b
  | _, _, .int i => .int i
  | _, _, .str x => .str x
  | _, _, .lst h1 h2 => .lst (by
      rcases h1 with (h | ⟨o, h⟩) | h
      · exact .inl (.inl (k _ _ h (ne_of h ha (by intro z; cases z))))
      · exact .inl (.inr ⟨o, k _ _ h (ne_of h ha (by intro z; cases z))⟩)
      · exact .inr h) (dpAll_but ha k h2)
  | _, _, .tup h1 h2 => .tup (by
      rcases h1 with (h | ⟨o, h⟩) | h
      · exact .inl (.inl (k _ _ h (ne_of h ha (by intro z; cases z))))
      · exact .inl (.inr ⟨o, k _ _ h (ne_of h ha (by intro z; cases z))⟩)
      · exact .inr h) (dpAll_but ha k h2)
theorem dpAll_but {K : PySem.W.Frag} {H H' : Hp} {a : Addr} {φ : Heap → Prop} (ha : H a = some (.ext φ)) (k : ∀ b o, H b = some o → b ≠ a → H' b = some o) : ∀ {vs : List V} {ds : List PyData}, DpAll K H vs ds → DpAll K H' vs ds
  | _, _, .nil => .nil
  | _, _, .cons h1 h2 => .cons (dp_but ha k h1) (dpAll_but ha k h2)
end
/-! ### an error that stands in the heap -/
def ErrAt (K : PySem.W.Frag) (H : Hp) (v : V) (C : Addr) (fs : List Str) (es : List PyData) : Prop := ∃ (a d : Addr) (us : List V), v = .ref a ∧ H a = some (exo a C (some d)) ∧ H d = some (exd d (fs.zip us).reverse) ∧ DpAll K H us es ∧ us.length = fs.length
theorem ErrAt.same {K : PySem.W.Frag} {H H' : Hp} {v : V} {C : Addr} {fs : List Str} {es : List PyData} (h : ErrAt K H v C fs es) (e : Same H H') : ErrAt K H' v C fs es := by
  obtain ⟨a, d, us, h1, h2, h3, h4, h5⟩ := h
  exact ⟨a, d, us, h1, e _ _ h2, e _ _ h3, dpAll_same e h4, h5⟩
theorem init_read {K : PySem.W.Frag} {C a : Addr} {fs : List Str} {H : Hp} {ws : List V} {ds : List PyData} {Q : Hp → Prop} (ha : H a = none) (hl : ws.length = fs.length) (hd : DpAll K H ws ds) (hz : ∀ d ∈ ds, sz d ≤ 1000)
    (k : ∀ H', Same H H' → ErrAt K H' (.ref a) C fs (fixAll ds) → Q H') : spInit K C fs (.ref a :: ws) (upd H a (exo a C none)) (fun v H3 => v = .non ∧ Q H3) E0 :=
  ⟨a, ws, ds, rfl, hl, upd_same, dpAll_same (same_new ha) hd, hz, fun H' dx us _ h1 h2 h3 h4 h5 => ⟨rfl, k H' (fun b o e => h4 b o (by rw [upd_ne (ne_of_none e ha)]; exact e) (ne_of_none e ha)) ⟨a, dx, us, rfl, h1, h2, h3, h5⟩⟩⟩
/-- how the arguments of an error bind -/
def gB {α : Type} (us ws : List α) : List α := us ++ ws.reverse
theorem vals_rev : ∀ {xs : List V} {us : List Value}, Vals xs us → Vals xs.reverse us.reverse
  | _, _, .nil => .nil
  | _, _, .cons r t => by
    rw [List.reverse_cons, List.reverse_cons]
    exact (vals_rev t).append (.cons r .nil)
theorem gB_rel {vs : List V} {us : List Value} {zs : List V} {ws : List Value} (h1 : Vals vs us) (h2 : Vals zs ws) : Vals (gB vs zs) (gB us ws) := h1.append (vals_rev h2)
/-- what the written part and the promise say of an error's class -/
structure ErrT (P : Program) (w : World) (K : PySem.W.Frag) (mg : Str → Option Value) (base : Heap) (x : Str) (C : Addr) (fs : List Str) : Prop where
  oex : OexC K C
  err : ErrC K C
  mgx : mg x = some (.ref C)
  no : ∀ f ∈ fs, PySem.W.findIn K (.ref C) f = some none
  ini : ∃ (f : Addr) (fd : FuncData), PySem.W.findIn K (.ref C) "__init__" = some (some (.ref f)) ∧ PySem.W.typeIn K (.ref f) = some (.type "function") ∧ FnOk P w K mg base CX0 2 f fd ("self" :: fs) (spInit K C fs) ∧
    KBn K fd ("self" :: fs) (fs.length + 1) [] gB gB ∧ KBn K fd ("self" :: fs) 1 fs.reverse gB gB
/-! ### what the top has left of the errors' classes -/
abbrev veT : List Value := [.type "ValueError", .type "Exception", .type "BaseException", .type "object"]
def ClsAt (K : PySem.W.Frag) (x : Str) (C : Addr) (bm : List Value) : Prop := ∃ (N : Addr) (bs : List Value) (sn : List Str) (sub : List Value) (ab : Bool) (col : Option Bool) (dd : Option Addr) (k0 k1 k2 k3 k5 : Option Value), K.lookup C = some (excClassObj x x C N bs bm true sn sub ab col dd k0 k1 k2 k3 k5 "ValueError.__new__")
theorem ClsAt.cls {K : PySem.W.Frag} {x : Str} {C : Addr} {bm : List Value} (h : ClsAt K x C bm) : ∃ cd, PySem.W.clsIn K C = some cd ∧ cd.mro = .ref C :: bm ∧ cd.hasDict = true ∧ cd.name = x ∧ PySem.W.typeIn K (.ref C) = some (.type "type") := by
  obtain ⟨N, bs, sn, sub, ab, col, dd, k0, k1, k2, k3, k5, h⟩ := h
  have hcl : PySem.W.clsIn K C = some { name := x, bases := bs, mro := .ref C :: bm, ns := N, qualname := x, hasDict := true, slotNames := sn, subclasses := sub, abstract := ab, collection := col, hasDel := false } := by unfold PySem.W.clsIn; rw [h] <;> rfl
  refine ⟨_, hcl, rfl, rfl, rfl, ?_⟩
  show (K.lookup C).map (·.cls) = _
  rw [h]
  rfl
theorem ClsAt.mro {K : PySem.W.Frag} {x : Str} {C : Addr} {bm : List Value} (h : ClsAt K x C bm) (b : Value) : PySem.W.mroIn K C b = some ((Value.ref C :: bm).contains b) := by
  obtain ⟨cd, h1, h2, _⟩ := h.cls
  unfold PySem.W.mroIn
  rw [h1, Option.bind_some, h2]
  rfl
theorem ClsAt.ne {K : PySem.W.Frag} {x y : Str} {C D : Addr} {bm bn : List Value} (h : ClsAt K x C bm) (g : ClsAt K y D bn) (n : x ≠ y) : C ≠ D := fun z => by
  obtain ⟨cd, h1, _, _, h2, _⟩ := h.cls
  obtain ⟨ce, g1, _, _, g2, _⟩ := g.cls
  rw [z, g1] at h1
  cases h1
  exact n (h2.symm.trans g2)
theorem ClsAt.kit {K : PySem.W.Frag} {x y : Str} {C D : Addr} {bm bn : List Value} (h : ClsAt K x C bm) (g : ClsAt K y D bn) : PySem.W.kitOne K (.ref C) (.ref D) = some ((Value.ref C :: bm).contains (.ref D)) := by
  unfold PySem.W.kitOne
  by_cases e : C = D
  · subst e
    rw [if_pos (by simp)]
    simp
  · rw [if_neg (by simpa using e)]
    obtain ⟨ce, g1, _, _, _, g2⟩ := g.cls
    show (if ((PySem.W.clsIn K D).isSome && PySem.W.typeIn K (.ref D) == some (.type "type")) = true then PySem.W.subIn K (.ref C) (.ref D) else none) = _
    rw [if_pos (by rw [g1, g2]; rfl)]
    exact h.mro _
/-- one class of them, and its __init__ -/
structure ClsF (P : Program) (K : PySem.W.Frag) (x qual : Str) (st : Stmt) (R C f cda cc : Addr) (fd : FuncData) (fs : List Str) : Prop where
  aC : PySem.W.nsIn K mainGlobals x = some (some (.ref C))
  at_ : ClsAt K x C (.ref R :: veT)
  sa : PySem.W.findIn K (.ref C) "__setattr__" = some (some (.builtin "object.__setattr__"))
  ga : PySem.W.findIn K (.ref C) "__getattribute__" = some (some (.builtin "BaseException.__getattribute__"))
  gg : PySem.W.findIn K (.ref C) "__getattr__" = some none
  ac : PySem.W.findIn K (.ref C) "__class__" = some (some (.builtin "object.__class__"))
  kC : PySem.W.keepIn K (.ref C) = true
  no : ∀ g ∈ fs, PySem.W.findIn K (.ref C) g = some none
  ini : PySem.W.findIn K (.ref C) "__init__" = some (some (.ref f))
  fn : SupFn K qual st f cda cc fd
  tf : PySem.W.typeIn K (.ref f) = some (.type "function")
  code : ∃ (ccl : Value) (cdd : Option Addr) (vs : Array Value) (ccs : Array (Option Value)) (file : Str) (tk : Tok), K.lookup cda = some ⟨ccl, cdd, .fields vs, ccs⟩ ∧ vs[2]? = some (.str file tk) ∧ ((P.main.file : Str) == file) = true
  cell : ∃ (cl : Value) (cld : Option Addr) (csl : Array (Option Value)), K.lookup cc = some ⟨cl, cld, .cell (some (.ref C)), csl⟩
  sup : PySem.W.ks_superIn K C C "__init__" = some (some (.builtin "ValueError.__init__"))
theorem cls_mk {P : Program} {K : PySem.W.Frag} {x qual : Str} {st : Stmt} {R C f cda cc : Addr} {fs : List Str} {N : Addr} {bs : List Value} {sn : List Str} {sub : List Value} {ab : Bool} {col : Option Bool} {dd : Option Addr} {k0 k1 k2 k3 k5 : Option Value}
    {oc kV doc pm ct ccl cl : Value} {od an cdd cld : Option Addr} {osl ccs csl : Array (Option Value)} {vs : Array Value} {file : Str} {tk : Tok}
    (aC : PySem.W.nsIn K mainGlobals x = some (some (.ref C)))
    (xL : K.lookup C = some (excClassObj x x C N bs (.ref R :: veT) true sn sub ab col dd k0 k1 k2 k3 k5 "ValueError.__new__"))
    (sa : PySem.W.findIn K (.ref C) "__setattr__" = some (some (.builtin "object.__setattr__")))
    (ga : PySem.W.findIn K (.ref C) "__getattribute__" = some (some (.builtin "BaseException.__getattribute__")))
    (gg : PySem.W.findIn K (.ref C) "__getattr__" = some none) (ac : PySem.W.findIn K (.ref C) "__class__" = some (some (.builtin "object.__class__")))
    (kC : PySem.W.keepIn K (.ref C) = true) (no : ∀ g ∈ fs, PySem.W.findIn K (.ref C) g = some none) (ini : PySem.W.findIn K (.ref C) "__init__" = some (some (.ref f)))
    (lk : K.lookup f = some ⟨oc, od, .func (PySem.W.ksFn "__init__" qual (defArgs st) (defBody st) (defScope st) .none kV doc pm an (.ref cda) ct cc), osl⟩) (cd : PySem.W.codeIn K (.ref cda) qual = true)
    (tf : PySem.W.typeIn K (.ref f) = some (.type "function")) (lc : K.lookup cda = some ⟨ccl, cdd, .fields vs, ccs⟩) (hv : vs[2]? = some (.str file tk)) (hf : ((P.main.file : Str) == file) = true)
    (ll : K.lookup cc = some ⟨cl, cld, .cell (some (.ref C)), csl⟩) (sup : PySem.W.ks_superIn K C C "__init__" = some (some (.builtin "ValueError.__init__"))) :
    ClsF P K x qual st R C f cda cc (PySem.W.ksFn "__init__" qual (defArgs st) (defBody st) (defScope st) .none kV doc pm an (.ref cda) ct cc) fs :=
  ⟨aC, ⟨N, bs, sn, sub, ab, col, dd, k0, k1, k2, k3, k5, xL⟩, sa, ga, gg, ac, kC, no, ini, ⟨oc, od, kV, doc, pm, an, ct, osl, rfl, lk, cd⟩, tf, ⟨ccl, cdd, vs, ccs, file, tk, lc, hv, hf⟩, ⟨cl, cld, csl, ll⟩, sup⟩
section
variable {P : Program} {K : PySem.W.Frag} {x qual : Str} {st : Stmt} {R C f cda cc : Addr} {fd : FuncData} {fs : List Str}
theorem ClsF.oex (F : ClsF P K x qual st R C f cda cc fd fs) : OexC K C := by
  obtain ⟨N, bs, sn, sub, ab, col, dd, k0, k1, k2, k3, k5, h⟩ := F.at_
  obtain ⟨cd, h1, h2, h3, h4, h5⟩ := F.at_.cls
  exact ⟨⟨x, x, N, bs, _, sn, sub, ab, col, dd, k0, k1, k2, k3, k5, h, by show HandSPX.refsVE veT = true; decide +kernel⟩, F.sa, by show PySem.W.mroIn K C _ = _; rw [F.at_.mro]; rfl, h5, F.kC⟩
theorem ClsF.err (F : ClsF P K x qual st R C f cda cc fd fs) : ErrC K C := by
  obtain ⟨cd, h1, h2, h3, h4, h5⟩ := F.at_.cls
  exact ⟨by rw [h1]; rfl, F.ga, F.gg, by show PySem.W.mroIn K C _ = _; rw [F.at_.mro]; rfl, by unfold PySem.W.hasDictIn; rw [h1]; exact h3, F.ac, by rw [F.at_.mro]; rfl⟩
theorem ClsF.supC (F : ClsF P K x qual st R C f cda cc fd fs) (sp : PySem.W.nsIn K mainGlobals "super" = some none) (opq : PySem.W.nsIn K cStatics "thirdparty.any" = some none) (ht : (P.main.scope.names.lookup ("super" : Str)).isSome = false) : SupC P K C cda cc :=
  ⟨F.oex, F.code, F.cell, by rw [F.at_.mro]; simp, sp, opq, F.sup, by show PySem.W.mroIn K C _ = _; rw [F.at_.mro]; rfl, ht⟩
/-- all of it -/
theorem ClsF.errT {w : World} {mg : Str → Option Value} {base h : Heap} (F : ClsF P K x qual st R C f cda cc fd fs) (X : K.In h) (G : h.Ns mainGlobals mg) (ok : FnOk P w K mg base CX0 2 f fd ("self" :: fs) (spInit K C fs))
    (b1 : KBn K fd ("self" :: fs) (fs.length + 1) [] gB gB) (b2 : KBn K fd ("self" :: fs) 1 fs.reverse gB gB) : ErrT P w K mg base x C fs :=
  ⟨F.oex, F.err, PySem.W.mg_of X G F.aC, F.no, f, fd, F.ini, F.tf, ok, b1, b2⟩
end
/-- what is wanted of an error's class so that it can be raised and its fields read -/
structure RaiT (P : Program) (w : World) (K : PySem.W.Frag) (mg : Str → Option Value) (base : Heap) (x : Str) (C : Addr) (fs : List Str) : Prop where
  oex : OexC K C
  xf : XfC K C
  mgx : mg x = some (.ref C)
  no : ∀ f ∈ fs, PySem.W.findIn K (.ref C) f = some none
  self : PySem.W.exmOne K (.ref C) (.ref C) = some true
  ini : ∃ (f : Addr) (fd : FuncData), PySem.W.findIn K (.ref C) "__init__" = some (some (.ref f)) ∧ PySem.W.typeIn K (.ref f) = some (.type "function") ∧ FnOk P w K mg base CX0 2 f fd ("self" :: fs) (spInit K C fs) ∧ Binds K fd ("self" :: fs) []
theorem ClsF.exm {P : Program} {K : PySem.W.Frag} {x qual : Str} {st : Stmt} {R C f cda cc : Addr} {fd : FuncData} {fs : List Str} (F : ClsF P K x qual st R C f cda cc fd fs) : PySem.W.exmOne K (.ref C) (.ref C) = some true := by
  unfold PySem.W.exmOne
  rw [if_pos (by rw [F.err.hsb]; rfl)]
  obtain ⟨ce, g1, _, _, _, g2⟩ := F.at_.cls
  show (if ((PySem.W.clsIn K C).isSome && PySem.W.typeIn K (.ref C) == some (.type "type")) = true then PySem.W.subIn K (.ref C) (.ref C) else none) = _
  rw [if_pos (by rw [g1, g2]; rfl)]
  show PySem.W.mroIn K C _ = _
  rw [F.at_.mro]
  simp
theorem ClsF.raiT {P : Program} {w : World} {K : PySem.W.Frag} {mg : Str → Option Value} {base h : Heap} {x qual : Str} {st : Stmt} {R C f cda cc : Addr} {fd : FuncData} {fs : List Str} (F : ClsF P K x qual st R C f cda cc fd fs) (X : K.In h) (G : h.Ns mainGlobals mg) (ok : FnOk P w K mg base CX0 2 f fd ("self" :: fs) (spInit K C fs))
    (b : Binds K fd ("self" :: fs) []) : RaiT P w K mg base x C fs :=
  ⟨F.oex, ⟨F.ga, F.gg, F.err.hsb, F.err.hdc⟩, PySem.W.mg_of X G F.aC, F.no, F.exm, f, fd, F.ini, F.tf, ok, b⟩
theorem no1 {K : PySem.W.Frag} {C : Addr} {a : Str} (h : PySem.W.findIn K (.ref C) a = some none) : ∀ g ∈ [a], PySem.W.findIn K (.ref C) g = some none := fun g hg => by rw [List.mem_singleton.mp hg]; exact h
/-- kinds of errors, as isinstance sees them -/
theorem ClsF.kitR {P : Program} {K : PySem.W.Frag} {x qual : Str} {st : Stmt} {R C f cda cc : Addr} {fd : FuncData} {fs : List Str} (F : ClsF P K x qual st R C f cda cc fd fs) (hR : ClsAt K "RerunError" R veT) : PySem.W.kitOne K (.ref C) (.ref R) = some true := by
  rw [F.at_.kit hR]
  simp
theorem ClsF.kitV {P : Program} {K : PySem.W.Frag} {x qual : Str} {st : Stmt} {R C f cda cc : Addr} {fd : FuncData} {fs : List Str} (F : ClsF P K x qual st R C f cda cc fd fs) : PySem.W.kitOne K (.ref C) (.type "ValueError") = some true := by
  unfold PySem.W.kitOne
  rw [if_neg (by simp)]
  show (if PySem.W.kitMeta "ValueError" = true then PySem.W.subIn K (.ref C) (.type "ValueError") else none) = _
  rw [if_pos (by decide +kernel)]
  show PySem.W.mroIn K C _ = _
  rw [F.at_.mro]
  simp
theorem ClsF.kitN {P : Program} {K : PySem.W.Frag} {x qual y qual' : Str} {st st' : Stmt} {R C f cda cc D f' cda' cc' : Addr} {fd fd' : FuncData} {fs fs' : List Str} (F : ClsF P K x qual st R C f cda cc fd fs) (F' : ClsF P K y qual' st' R D f' cda' cc' fd' fs') (hR : ClsAt K "RerunError" R veT) (n : x ≠ y) (m : y ≠ "RerunError") : PySem.W.kitOne K (.ref C) (.ref D) = some false := by
  rw [F.at_.kit F'.at_]
  have n1 : C ≠ D := F.at_.ne F'.at_ n
  have n2 : D ≠ R := F'.at_.ne hR m
  simp [n1.symm, n2]
/-- the error is made: its one field holds what was passed -/
theorem mk_read {K : PySem.W.Frag} {C : Addr} {g : Str} {H : Hp} {v : V} {d : PyData} {Q : XK} (hd : Dp K H v d) (hz : sz d ≤ 1000)
    (k : ∀ (H' : Hp) (dx : Addr) (u : V), Same H H' → H dx = none → H' dx = some (.xd [(g, u)]) → Dp K H' u (fix d) → Q (.ref C) (some dx) H') :
    [v].length ≤ 1000 ∧ ∀ a, H a = none → spInit K C [g] (.ref a :: ([v] ++ [])) (upd H a (exo a C none))
      (fun x H2 => x = .non ∧ ∃ (dx : Addr) (fs : List (Str × V)), H2 a = some (exo a C (some dx)) ∧ H2 dx = some (exd dx fs) ∧ H dx = none ∧ Q (.ref C) (some dx) (upd (del H2 a) dx (.xd fs))) (fun _ _ _ => False) := by
  refine ⟨by simp, fun a ha => ?_⟩
  refine ⟨a, [v], [d], rfl, rfl, upd_same, .cons (dp_same (same_new ha) hd) .nil, (fun x hx => by rw [List.mem_singleton.mp hx]; exact hz), fun H' dx us h0 h1 h2 h3 h4 h5 => ⟨rfl, ?_⟩⟩
  match us, h3 with
  | [u], .cons hu .nil =>
    have hda : dx ≠ a := fun z => by rw [z, upd_same] at h0; cases h0
    have hdn : H dx = none := by rw [upd_ne hda] at h0; exact h0
    have sm : Same H (upd (del H' a) dx (.xd [(g, u)])) := fun b o e => by
      have ba := ne_of_none e ha
      rw [upd_ne (ne_of_none e hdn), del_ne ba]
      exact h4 b o (by rw [upd_ne ba]; exact e) ba
    refine ⟨dx, [(g, u)], h1, h2, hdn, k _ dx u sm hdn upd_same ?_⟩
    refine dp_keep (fun b xs e => ?_) (fun b ob w e => ?_) hu (fix_noList _)
    · have n1 : b ≠ a := fun z => by rw [z, h1] at e; cases e
      have n2 : b ≠ dx := fun z => by rw [z, h2] at e; cases e
      rw [upd_ne n2, del_ne n1]
      exact e
    · have n1 : b ≠ a := fun z => by rw [z, h1] at e; cases e
      have n2 : b ≠ dx := fun z => by rw [z, h2] at e; cases e
      rw [upd_ne n2, del_ne n1]
      exact e
end Rx

set_option Elab.async false
set_option linter.all false
set_option maxRecDepth 100000
set_option maxHeartbeats 4000000
namespace XE
open PySem PySem.Spec PyProof.Rows L2 Rx SX
section
variable {P : Program} {w : World} {K : PySem.W.Frag} {mg : Str → Option Value} {base : Heap}
abbrev cBadText : Stmt := topS 12
abbrev sBadText : Stmt := inClass cBadText 0
theorem scBadText : ScopeS ["self", "position"] ["self", "position"] (defScope sBadText) := ⟨rfl, rfl, rfl, by decide +kernel, rfl, by decide +kernel, by decide +kernel, by decide +kernel, rfl, rfl⟩
theorem okBadText {f C cda cc fF : Addr} {fd fdF : FuncData} (F : SupFn K "BadText.__init__" sBadText f cda cc fd) (T : SupC P K C cda cc) (CF : Cal P w K mg base 1 "frozen" fF fdF ["thing"] (spFrozen K)) (no : ∀ g ∈ (["position"] : List Str), PySem.W.findIn K (.ref C) g = some none) :
    FnOk P w K mg base CX0 2 f fd ["self", "position"] (spInit K C ["position"]) := by
  refine F.ok scBadText T rfl rfl rfl spInit_len spInit_self (fun _ => rfl) (fun _ => rfl) (fun _ => ⟨_, rfl⟩) (fun A outer s H vs Q E hr h => ?_)
  obtain ⟨a, ws, ds, rfl, hl, ha, hd, hz, k⟩ := h
  refine ⟨_, pss_one (ps_ost (pv 0) (pe_call CF.ok hr rfl CF.mg CF.kp CF.bi .nil pass0 (pa_cons (pv 1) pa_nil))), ?_⟩
  match ws, ds, hl, hd with
  | [v0], _, _, @DpAll.cons _ _ _ _ d0 _ h0 (.nil) =>
    have z0 : sz d0 ≤ 1000 := hz _ (by simp)
    refine ⟨_, rfl, v0, d0, rfl, h0, z0, fun G0 u0 s0 r0 => ⟨_, rfl, a, C, rfl, T.oex, no _ (by simp), .inl ⟨s0 _ _ ha, fun dx hdx nda => ?_⟩⟩⟩
    have e0 : ∀ b o, H b = some o → b ≠ a → upd (upd G0 dx (exd dx [("position", u0)])) a (exo a C (some dx)) b = some o := fun b o e nb => by rw [upd_ne nb, upd_ne (ne_of_none (s0 _ _ e) hdx)]; exact s0 _ _ e
    have k0 : Keeps G0 (upd (upd G0 dx (exd dx [("position", u0)])) a (exo a C (some dx))) := (keeps_new hdx).trans (keeps_ext (φ := _) (by rw [upd_ne nda.symm]; exact s0 _ _ ha))
    have r0' := dp_keep k0.1 k0.2 r0 (fix_noList _)
    have ax : upd (upd G0 dx (exd dx [("position", u0)])) a (exo a C (some dx)) a = some (exo a C (some dx)) := upd_same
    have dxx : upd (upd G0 dx (exd dx [("position", u0)])) a (exo a C (some dx)) dx = some (exd dx [("position", u0)]) := by rw [upd_ne nda, upd_same]
    have hdn : H dx = none := s0.free hdx
    generalize upd (upd G0 dx (exd dx [("position", u0)])) a (exo a C (some dx)) = L0 at e0 r0' ax dxx ⊢
    exact k L0 dx [u0] hdn ax dxx (.cons r0' (.nil)) e0 rfl
theorem biBadText {f cda cc : Addr} {fd : FuncData} (F : SupFn K "BadText.__init__" sBadText f cda cc fd) : Binds K fd ["self", "position"] [] := by
  obtain ⟨oc, od, kV, doc, pm, an, ct, osl, rfl, _, _⟩ := F.ex
  exact .all (fun us hl => match us, hl with | [_, _], _ => rfl)
theorem bpBadText {f cda cc : Addr} {fd : FuncData} (F : SupFn K "BadText.__init__" sBadText f cda cc fd) : KBn K fd ("self" :: ["position"]) ((["position"] : List Str).length + 1) [] gB gB := by
  obtain ⟨oc, od, kV, doc, pm, an, ct, osl, rfl, _, _⟩ := F.ex
  exact ⟨fun s us ws _ l1 l2 => match us, ws, l1, l2 with | [_, _], [], _, _ => .of_eq rfl, gB_rel⟩
theorem bkBadText {f cda cc : Addr} {fd : FuncData} (F : SupFn K "BadText.__init__" sBadText f cda cc fd) : KBn K fd ("self" :: ["position"]) 1 (["position"] : List Str).reverse gB gB := by
  obtain ⟨oc, od, kV, doc, pm, an, ct, osl, rfl, _, _⟩ := F.ex
  exact ⟨fun s us ws _ l1 l2 => match us, ws, l1, l2 with | [_], [_], _, _ => .of_eq rfl, gB_rel⟩
end
end XE

set_option Elab.async false
set_option linter.all false
set_option maxRecDepth 100000
set_option maxHeartbeats 4000000
namespace Rx
open PySem PySem.Spec PyProof.Rows L2 SX
/-! ### a row of tokens of an expression is read as its tree -/
def runP : RS → List (Str × V) → Option RS
  | r, [] => some r
  | r, t :: ts => if r.fits t.1 = true then (r.takeIn t.1 t.2).bind fun q => runP q ts else none
theorem runR_P : ∀ (ts : List (Str × V × Nat)) (r : RS), runR r ts = runP r (ts.map fun t => (t.1, t.2.1))
  | [], _ => rfl
  | t :: ts, r => by
    show (if r.fits t.1 = true then (r.takeIn t.1 t.2.1).bind fun q => runR q ts else none) = if r.fits t.1 = true then (r.takeIn t.1 t.2.1).bind fun q => runP q (ts.map fun t => (t.1, t.2.1)) else none
    simp only [runR_P ts]
theorem runP_cons {r q : RS} {s : Str} {v : V} {ts : List (Str × V)} (hf : r.fits s = true) (ht : r.takeIn s v = some q) : runP r ((s, v) :: ts) = runP q ts := by
  show (if r.fits s = true then (r.takeIn s v).bind fun q => runP q ts else none) = _
  rw [if_pos hf, ht]
  rfl
/-- what a token's text is to the reader -/
def cls (s : Str) : Str × V := ((tokAt s.cps.toList).1, (tokAt s.cps.toList).2.1)
def addL : List Str := ["+", "-"]
def mulL : List Str := ["*", "//", "mod"]
def numL : List Int := [0, 1, 2, 7, 10, 999, 10 ^ 29, 10 ^ 30 - 1]
def numS (n : Int) : Str := Str.ofString (toString n)
def nNum (n : Int) : PyData := .tuple [.str "number", .int n]
def nVar (x : Str) : PyData := .tuple [.str "variable", .str x]
def nNeg (a : PyData) : PyData := .tuple [.str "negate", a]
def nBin (w : Str) (a b : PyData) : PyData := .tuple [.str w, a, b]
inductive ET : Nat → PyData → List Str → Prop where
  | num {l : Nat} {n : Int} (h : n ∈ numL) : ET l (nNum n) [numS n]
  | var {l : Nat} {x : Str} (h : isName x.cps.toList = true) : ET l (nVar x) [x]
  | neg {l : Nat} {a : PyData} {ta : List Str} : ET 3 a ta → ET l (nNeg a) ("-" :: ta)
  | add {l : Nat} {w : Str} {a b : PyData} {ta tb : List Str} : w ∈ addL → l ≤ 1 → ET 1 a ta → ET 2 b tb → ET l (nBin w a b) (ta ++ w :: tb)
  | mul {l : Nat} {w : Str} {a b : PyData} {ta tb : List Str} : w ∈ mulL → l ≤ 2 → ET 2 a ta → ET 3 b tb → ET l (nBin w a b) (ta ++ w :: tb)
  | par {l : Nat} {d : PyData} {ts : List Str} : ET 1 d ts → ET l d ("(" :: (ts ++ [(")" : Str)]))
/-! what tokens are -/
def isIntV (v : V) (n : Int) : Bool := match v with
  | .int m => m == n
  | _ => false
theorem isIntV_eq {v : V} {n : Int} (h : isIntV v n = true) : v = .int n := by
  cases v <;> simp [isIntV] at h
  rw [h]
theorem cls_num {n : Int} (h : n ∈ numL) : cls (numS n) = (("number" : Str), V.int n) := by
  have h1 : ∀ n ∈ numL, ((cls (numS n)).1 = ("number" : Str)) ∧ isIntV (cls (numS n)).2 n = true := by decide +kernel
  obtain ⟨a, b⟩ := h1 n h
  rw [← isIntV_eq b, ← a]
def isNonV (v : V) : Bool := match v with
  | .non => true
  | _ => false
theorem isNonV_eq {v : V} (h : isNonV v = true) : v = .non := by
  cases v <;> simp [isNonV] at h
  rfl
/-- the tokens that stand for themselves -/
def selfL : List Str := ["+", "-", "*", "//", "mod", "(", ")", "[", "]", "=", "!=", "<", "<=", ">", ">=", "and", "or", "not"]
theorem cls_self {s : Str} (h : s ∈ selfL) : cls s = (s, .non) := by
  have h1 : ∀ s ∈ selfL, (cls s).1 = s ∧ isNonV (cls s).2 = true := by decide +kernel
  obtain ⟨a, b⟩ := h1 s h
  show ((cls s).1, (cls s).2) = _
  rw [a, isNonV_eq b]
theorem takeWhile_all {p : Nat → Bool} {cs : List Nat} (h : cs.all p = true) : cs.takeWhile p = cs := by
  induction cs with
  | nil => rfl
  | cons c r ih =>
    simp only [List.all_cons, Bool.and_eq_true] at h
    rw [List.takeWhile_cons, if_pos h.1, ih h.2]
theorem name_parts {cs : List Nat} (h : isName cs = true) : reservedL.contains (S cs) = false ∧ cs ≠ [] ∧ cs.length ≤ 8 ∧ cs.all isLet = true := by
  unfold isName at h
  simp only [Bool.and_eq_true, Bool.not_eq_true', decide_eq_true_eq] at h
  exact h
theorem words_res {s : Str} (h : reservedL.contains s = false) : wordsL.contains s = false := by
  rw [← Bool.not_eq_true, List.contains_iff_mem] at h ⊢
  intro z
  have : ∀ x ∈ wordsL, x ∈ reservedL := by decide +kernel
  exact h (this s z)
theorem tokAt_name {cs : List Nat} (h : isName cs = true) : tokAt cs = (("variable" : Str), V.str (S cs), cs.length) := by
  obtain ⟨h1, h2, h3, h4⟩ := name_parts h
  obtain ⟨c, r, rfl⟩ := List.exists_cons_of_ne_nil h2
  have hc : isLet c = true := by simp only [List.all_cons, Bool.and_eq_true] at h4; exact h4.1
  unfold tokAt
  dsimp only
  rw [if_pos hc, takeWhile_all h4]
  unfold wordTok
  rw [words_res h1, if_neg (by decide), if_pos h]
theorem cls_name {x : Str} (h : isName x.cps.toList = true) : cls x = (("variable" : Str), V.str x) := by
  unfold cls
  rw [tokAt_name h, S_tl]
/-! the reading -/
theorem starts_no {r : RS} (h : r.stage = "expression") : r.starts = false := by
  unfold RS.starts
  rw [h]
  decide +kernel
theorem starts_fac {r : RS} (h : r.stage = "factor") : r.starts = true := by
  unfold RS.starts
  rw [h]
  decide +kernel
/-- the last operator binds less tightly -/
def Low (l : Nat) (os : List Str) : Prop := l ≤ 2 → ∀ s t, os = s :: t → bindOf s < (l : Int) + 4
theorem low_stop {l : Nat} {os : List Str} {ns : List PyData} {b : Int} (h : Low l os) (hl : l ≤ 2) (hb : (l : Int) + 4 ≤ b) : joinDown b os ns = some (os, ns) := by
  cases os with
  | nil => rfl
  | cons s t =>
    have := h hl s t rfl
    show (if b ≤ bindOf s then _ else _) = _
    rw [if_neg (by omega)]
theorem begin_fits {r : RS} {s : Str} (h : r.starts = true) (hs : s ∈ begL) : r.fits s = true := by
  unfold RS.fits RS.mayBegin
  rw [if_pos h, List.contains_iff_mem.mpr hs]
  rfl
theorem begin_take {r : RS} {s : Str} {v : V} (h : r.starts = true) : r.takeIn s v = some (r.begin_ s v) := by
  unfold RS.takeIn
  rw [if_pos h]
theorem down_eq {r : RS} {b : Int} {os : List Str} {ns : List PyData} (h : joinDown b r.ops r.nodes = some (os, ns)) : r.down b = some { r with ops := os, nodes := ns } := by
  unfold RS.down
  rw [h]
  rfl
theorem mid_take {r : RS} {w : Str} {os : List Str} {ns : List PyData} (hs : r.stage = "expression") (hw : w ∈ arithL) (h : joinDown (bindOf w) r.ops r.nodes = some (os, ns)) :
    r.fits w = true ∧ ∀ v, r.takeIn w v = some { r with ops := w :: os, nodes := ns, stage := "factor" } := by
  have h1 : ∀ x ∈ arithL, ¬ (x = ")" ∨ x = "]") ∧ ¬ x = "end" ∧ ¬ (x = "and" ∨ x = "or") ∧ compL.contains x = false := by decide +kernel
  obtain ⟨n1, n2, n3, n4⟩ := h1 w hw
  refine ⟨?_, fun v => ?_⟩
  · unfold RS.fits RS.mayFollow
    rw [starts_no hs, if_neg (by decide), List.contains_iff_mem.mpr hw, hs, if_pos (by decide +kernel)]
  · unfold RS.takeIn
    rw [starts_no hs, if_neg (by decide), if_neg n1, if_neg n2]
    unfold RS.between
    rw [down_eq h, Option.map_some, if_neg n3, n4, Bool.or_false]
/-- what an operand leaves -/
structure Left (b : Int) (r q : RS) (d : PyData) : Prop where
  st : q.stage = "expression"
  br : q.brs = r.brs
  cm : q.cmp = r.cmp
  co : q.cond = r.cond
  jn : ∀ c : Int, c ≤ b → joinDown c q.ops q.nodes = joinDown c r.ops (d :: r.nodes)
theorem bind_add : ∀ w ∈ addL, bindOf w = 5 ∧ w ∈ arithL ∧ prefL.contains w = false ∧ w ∈ selfL := by decide +kernel
theorem bind_mul : ∀ w ∈ mulL, bindOf w = 6 ∧ w ∈ arithL ∧ prefL.contains w = false ∧ w ∈ selfL := by decide +kernel
theorem run_bin {l m : Nat} {w : Str} {a b : PyData} {ta tb : List Str} (hl : l ≤ m) (hm : m ≤ 2) (hm1 : 1 ≤ m) (hb : bindOf w = (m : Int) + 4) (hw : w ∈ arithL) (hp : prefL.contains w = false) (hself : w ∈ selfL)
    (ia : ∀ (r : RS) rest, r.starts = true → Low m r.ops → ∃ q, runP r (ta.map cls ++ rest) = runP q rest ∧ Left ((m : Int) + 4) r q a)
    (ib : ∀ (r : RS) rest, r.starts = true → Low (m + 1) r.ops → ∃ q, runP r (tb.map cls ++ rest) = runP q rest ∧ Left (((m + 1 : Nat) : Int) + 4) r q b)
    (r : RS) (rest : List (Str × V)) (hs : r.starts = true) (low : Low l r.ops) (hl1 : 1 ≤ l) : ∃ q, runP r ((ta ++ w :: tb).map cls ++ rest) = runP q rest ∧ Left ((l : Int) + 4) r q (nBin w a b) := by
  have lowm : Low m r.ops := fun z s t e => by
    have := low (by omega) s t e
    omega
  obtain ⟨q1, e1, L1⟩ := ia r ((w, V.non) :: (tb.map cls ++ rest)) hs lowm
  have hj : joinDown (bindOf w) q1.ops q1.nodes = some (r.ops, a :: r.nodes) := by
    rw [L1.jn _ (by rw [hb]; exact Int.le_refl _)]
    exact low_stop lowm hm (by rw [hb]; exact Int.le_refl _)
  obtain ⟨hf, ht⟩ := mid_take L1.st hw hj
  obtain ⟨q2, e2, L2⟩ := ib { q1 with ops := w :: r.ops, nodes := a :: r.nodes, stage := "factor" } rest (starts_fac rfl) (fun z s t e => by
    injection e with e _
    subst e
    rw [hb]
    omega)
  refine ⟨q2, ?_, L2.st, L2.br.trans L1.br, L2.cm.trans L1.cm, L2.co.trans L1.co, fun c hc => ?_⟩
  · rw [List.map_append, List.append_assoc, List.map_cons, List.cons_append, cls_self hself, e1, runP_cons hf (ht _), e2]
  · rw [L2.jn c (by omega)]
    show joinDown c (w :: r.ops) (b :: a :: r.nodes) = _
    have : joinOp w (b :: a :: r.nodes) = some (nBin w a b :: r.nodes) := by
      unfold joinOp
      rw [hp, if_neg (by decide)]
      rfl
    rw [joinDown, if_pos (by omega), this]
theorem run_ET {l : Nat} {d : PyData} {ts : List Str} (h : ET l d ts) : 1 ≤ l → l ≤ 3 → ∀ (r : RS) (rest : List (Str × V)), r.starts = true → Low l r.ops → ∃ q, runP r (ts.map cls ++ rest) = runP q rest ∧ Left ((l : Int) + 4) r q d := by
  induction h with
  | @num l n hn =>
    intro _ _ r rest hs _
    refine ⟨r.begin_ "number" (.int n), ?_, ?_⟩
    · rw [List.map_cons, List.map_nil, cls_num hn, List.singleton_append]
      exact runP_cons (begin_fits hs (by decide +kernel)) (begin_take hs)
    · unfold RS.begin_
      rw [if_pos (.inl rfl)]
      exact ⟨rfl, rfl, rfl, rfl, fun _ _ => rfl⟩
  | @var l x hx =>
    intro _ _ r rest hs _
    refine ⟨r.begin_ "variable" (.str x), ?_, ?_⟩
    · rw [List.map_cons, List.map_nil, cls_name hx, List.singleton_append]
      exact runP_cons (begin_fits hs (by decide +kernel)) (begin_take hs)
    · unfold RS.begin_
      rw [if_pos (.inr rfl)]
      exact ⟨rfl, rfl, rfl, rfl, fun _ _ => rfl⟩
  | @neg l a ta ha ih =>
    intro h1 h3 r rest hs _
    have e : r.begin_ "-" .non = { r with ops := "negate" :: r.ops, stage := "factor" } := by
      unfold RS.begin_
      rw [if_neg (by decide +kernel), if_pos rfl]
    obtain ⟨q, e1, L1⟩ := ih (by decide) (by decide) { r with ops := "negate" :: r.ops, stage := "factor" } rest (starts_fac rfl) (fun z => absurd z (by decide))
    refine ⟨q, ?_, L1.st, L1.br, L1.cm, L1.co, fun c hc => ?_⟩
    · rw [List.map_cons, cls_self (by decide +kernel), List.cons_append, runP_cons (begin_fits hs (by decide +kernel)) (begin_take hs), e, e1]
    · rw [L1.jn c (by omega)]
      show joinDown c (("negate" : Str) :: r.ops) (a :: r.nodes) = _
      have hb : bindOf "negate" = 7 := by decide +kernel
      have : joinOp "negate" (a :: r.nodes) = some (nNeg a :: r.nodes) := by
        unfold joinOp
        rw [if_pos (by decide +kernel)]
        rfl
      rw [joinDown, if_pos (by rw [hb]; omega), this]
  | add hw hl ha hb iha ihb =>
    intro h1 h3 r rest hs low
    obtain ⟨b1, b2, b3, b4⟩ := bind_add _ hw
    exact run_bin (m := 1) hl (by decide) (by decide) b1 b2 b3 b4 (iha (by decide) (by decide)) (ihb (by decide) (by decide)) r rest hs low h1
  | mul hw hl ha hb iha ihb =>
    intro h1 h3 r rest hs low
    obtain ⟨b1, b2, b3, b4⟩ := bind_mul _ hw
    exact run_bin (m := 2) hl (by decide) (by decide) b1 b2 b3 b4 (iha (by decide) (by decide)) (ihb (by decide) (by decide)) r rest hs low h1
  | @par l d ts hd ih =>
    intro h1 h3 r rest hs _
    have e : r.begin_ "(" .non = { r with ops := "(" :: r.ops, brs := "(" :: r.brs, stage := "factor" } := by
      unfold RS.begin_
      rw [if_neg (by decide +kernel), if_neg (by decide +kernel), if_pos rfl]
    have hb : bindOf "(" = -1 := by decide +kernel
    obtain ⟨q, e1, L1⟩ := ih (by decide) (by decide) { r with ops := "(" :: r.ops, brs := "(" :: r.brs, stage := "factor" } (((")" : Str), V.non) :: rest) (starts_fac rfl) (fun z s t e => by
      injection e with e _
      subst e
      rw [hb]
      decide)
    have hj : joinDown 0 q.ops q.nodes = some ((("(" : Str) :: r.ops), (d :: r.nodes)) := by
      rw [L1.jn 0 (by decide)]
      show (if (0 : Int) ≤ bindOf "(" then _ else _) = _
      rw [hb, if_neg (by decide)]
    have hf : q.fits ")" = true := by
      unfold RS.fits RS.mayFollow
      rw [starts_no L1.st, if_neg (by decide), L1.st, if_neg (by decide +kernel), L1.br, if_pos (show (("(" : Str) :: r.brs).head? = some ("(" : Str) from rfl)]
      decide +kernel
    have ht : q.takeIn ")" .non = some { q with ops := r.ops, nodes := d :: r.nodes, brs := r.brs, stage := "expression" } := by
      unfold RS.takeIn
      rw [starts_no L1.st, if_neg (by decide), if_pos (.inl rfl)]
      unfold RS.close_
      rw [down_eq hj, Option.bind_some]
      dsimp only
      rw [L1.br]
      dsimp only
      rw [if_neg (by decide +kernel)]
    refine ⟨{ q with ops := r.ops, nodes := d :: r.nodes, brs := r.brs, stage := "expression" }, ?_, rfl, rfl, L1.cm, L1.co, fun _ _ => rfl⟩
    rw [List.map_cons, cls_self (by decide +kernel), List.cons_append, runP_cons (begin_fits hs (by decide +kernel)) (begin_take hs), e, List.map_append, List.append_assoc, List.map_cons, List.map_nil, cls_self (s := ")") (by decide +kernel), List.singleton_append, e1, runP_cons hf ht]
/-- a whole expression -/
theorem run_expr {d : PyData} {ts : List Str} (h : ET 1 d ts) : ∃ r, runP (RS.start false) (ts.map cls ++ [(("end" : Str), V.non)]) = some r ∧ r.nodes = [d] := by
  obtain ⟨q, e, L⟩ := run_ET h (by decide) (by decide) (RS.start false) [(("end" : Str), V.non)] (by decide +kernel) (fun _ s t z => by cases z)
  have hj : joinDown 0 q.ops q.nodes = some ([], [d]) := by rw [L.jn 0 (by decide)]; rfl
  have hf : q.fits "end" = true := by
    unfold RS.fits RS.mayFollow
    rw [starts_no L.st, if_neg (by decide), L.st, if_neg (by decide +kernel), L.br, if_neg (by decide +kernel), L.co, if_pos (show (RS.start false).cond = false from rfl)]
    decide +kernel
  have ht : q.takeIn "end" .non = some { q with ops := [], nodes := [d] } := by
    unfold RS.takeIn
    rw [starts_no L.st, if_neg (by decide), if_neg (by decide +kernel), if_pos rfl, down_eq hj]
  refine ⟨{ q with ops := [], nodes := [d] }, ?_, rfl⟩
  rw [e, runP_cons hf ht]
  rfl
end Rx

set_option Elab.async false
set_option linter.all false
set_option maxRecDepth 100000
set_option maxHeartbeats 4000000
namespace Rx
open PySem PySem.Spec PyProof.Rows L2 SX
/-! ### tokens laid out with spaces are found again -/
abbrev cod (s : Str) : List Nat := s.cps.toList
/-- such a sign behind the token would make another token of it -/
def glue (s : Str) (c : Nat) : Bool := (((cod s).getLast?.any isLet && isLet c) || ((cod s).getLast?.any isDig && isDig c)) || (((["<", ">", "!"] : List Str).contains s && decide (c = 61)) || (decide (s = "/") && decide (c = 47)))
def glueS (s t : Str) : Bool := (cod t).head?.any (glue s)
/-- the signs that are tokens by themselves -/
def singles : List Nat := [43, 45, 42, 40, 41, 91, 93, 61, 60, 62]
inductive GoodT (s : Str) : Prop where
  | let_ : (cod s).all isLet = true → cod s ≠ [] → GoodT s
  | dig : (cod s).all isDig = true → cod s ≠ [] → GoodT s
  | sign : s ∈ signsL → GoodT s
  | odd (c : Nat) : cod s = [c] → isLet c = false → isDig c = false → c ≠ 32 → c ∉ singles → c < 1000 → GoodT s
theorem tw_app {p : Nat → Bool} : ∀ {cs rest : List Nat}, cs.all p = true → (∀ c, rest.head? = some c → p c = false) → (cs ++ rest).takeWhile p = cs
  | [], [], _, _ => rfl
  | [], c :: r, _, h => by rw [List.nil_append, List.takeWhile_cons, h c rfl]; rfl
  | c :: cs, rest, h, k => by
    simp only [List.all_cons, Bool.and_eq_true] at h
    rw [List.cons_append, List.takeWhile_cons, if_pos h.1, tw_app h.2 k]
theorem let_dig {c : Nat} (h : isDig c = true) : isLet c = false := by
  simp only [isDig, isLet, Bool.and_eq_true, decide_eq_true_eq, Bool.and_eq_false_iff, decide_eq_false_iff_not] at h ⊢
  omega
theorem last_all {p : Nat → Bool} {cs : List Nat} (h : cs.all p = true) (k : cs ≠ []) : cs.getLast?.any p = true := by
  rw [List.getLast?_eq_some_getLast k]
  exact List.all_eq_true.mp h _ (List.getLast_mem k)
theorem sign_codes : signsL.map cod = [[47, 47], [33, 61], [60, 61], [62, 61], [43], [45], [42], [40], [41], [91], [93], [61], [60], [62]] := by decide +kernel
theorem sign_head : ∀ s ∈ signsL, ∃ c r, cod s = c :: r ∧ isLet c = false ∧ isDig c = false ∧ c ≠ 32 := by
  have h : ∀ s ∈ signsL, (match cod s with
    | c :: _ => !isLet c && !isDig c && decide (c ≠ 32)
    | [] => false) = true := by decide +kernel
  intro s hs
  have := h s hs
  split at this
  · rename_i c r e
    simp only [Bool.and_eq_true, Bool.not_eq_true', decide_eq_true_eq] at this
    exact ⟨c, r, e, this.1.1, this.1.2, this.2⟩
  · cases this
/-- the first sign that the text begins with -/
theorem find_codes (cs : List Nat) : ∀ l : List Str, (l.find? (fun s => (cod s).isPrefixOf cs)).map cod = (l.map cod).find? (fun x => x.isPrefixOf cs)
  | [] => rfl
  | s :: l => by
    simp only [List.map_cons, List.find?_cons]
    cases (cod s).isPrefixOf cs with
    | true => rfl
    | false => exact find_codes cs l
theorem cod_inj {s t : Str} (h : cod s = cod t) : s = t := by
  rw [← S_tl s, ← S_tl t]
  exact congrArg S h
theorem sign_app {s : Str} (h : s ∈ signsL) {rest : List Nat} (k : ∀ c, rest.head? = some c → glue s c = false) : signTok (cod s ++ rest) = (s, .non, s.length) := by
  have key : (signsL.map cod).find? (fun x => x.isPrefixOf (cod s ++ rest)) = some (cod s) := by
    rw [sign_codes]
    have hs : s ∈ signsL := h
    have hm : cod s ∈ signsL.map cod := List.mem_map.mpr ⟨s, h, rfl⟩
    rw [sign_codes] at hm
    simp only [List.mem_cons, List.not_mem_nil, or_false] at hm
    have g : ∀ c, rest.head? = some c → (cod s = [60] ∨ cod s = [62]) → c ≠ 61 := by
      intro c hc hx hz
      have := k c hc
      unfold glue at this
      simp only [Bool.or_eq_false_iff] at this
      have h2 := this.2.1
      have : (["<", ">", "!"] : List Str).contains s = true := by
        rw [List.contains_iff_mem]
        rcases hx with hx | hx
        · rw [cod_inj (s := s) (t := "<") (hx.trans (by decide +kernel))]; decide +kernel
        · rw [cod_inj (s := s) (t := ">") (hx.trans (by decide +kernel))]; decide +kernel
      rw [this, hz] at h2
      simp at h2
    rcases rest with _ | ⟨c, r⟩
    · rcases hm with hm | hm | hm | hm | hm | hm | hm | hm | hm | hm | hm | hm | hm | hm <;> rw [hm] <;> decide +kernel
    · have g' := g c rfl
      rcases hm with hm | hm | hm | hm | hm | hm | hm | hm | hm | hm | hm | hm | hm | hm
      all_goals
        rw [hm] at g' ⊢
        first
        | (have g2 := g' (.inl rfl); have g3 : (61 == c) = false := by simpa using (Ne.symm g2)
           simp [List.find?, List.isPrefixOf, g3]; done)
        | (have g2 := g' (.inr rfl); have g3 : (61 == c) = false := by simpa using (Ne.symm g2)
           simp [List.find?, List.isPrefixOf, g3]; done)
        | (simp [List.find?, List.isPrefixOf]; done)
  rw [← find_codes] at key
  obtain ⟨t, e1, e2⟩ := Option.map_eq_some_iff.mp key
  have : t = s := cod_inj e2
  subst this
  unfold signTok
  rw [e1]
theorem sign_bad {c : Nat} {r : List Nat} (hs : c ∉ singles) (h47 : c = 47 → r.head? ≠ some 47) (h33 : c = 33 → r.head? ≠ some 61) : signTok (c :: r) = (("bad" : Str), V.non, 1) := by
  have hf : (signsL.map cod).find? (fun x => x.isPrefixOf (c :: r)) = none := by
    rw [sign_codes]
    simp only [singles, List.mem_cons, List.not_mem_nil, or_false, not_or] at hs
    obtain ⟨s1, s2, s3, s4, s5, s6, s7, s8, s9, s10⟩ := hs
    rw [List.find?_eq_none]
    intro x hx
    have nb : ∀ a b : Nat, b ≠ a → (a == b) = false := fun a b h => by simpa using (Ne.symm h)
    simp only [List.mem_cons, List.not_mem_nil, or_false] at hx
    rcases hx with rfl | rfl | rfl | rfl | rfl | rfl | rfl | rfl | rfl | rfl | rfl | rfl | rfl | rfl
    · cases r with
      | nil => simp [List.isPrefixOf]
      | cons d r =>
        by_cases hc : c = 47
        · have hd : d ≠ 47 := fun z => h47 hc (by rw [z]; rfl)
          simp [List.isPrefixOf, nb _ _ hd]
        · simp [List.isPrefixOf, nb _ _ hc]
    · cases r with
      | nil => simp [List.isPrefixOf]
      | cons d r =>
        by_cases hc : c = 33
        · have hd : d ≠ 61 := fun z => h33 hc (by rw [z]; rfl)
          simp [List.isPrefixOf, nb _ _ hd]
        · simp [List.isPrefixOf, nb _ _ hc]
    all_goals simp [List.isPrefixOf, nb _ _ s1, nb _ _ s2, nb _ _ s3, nb _ _ s4, nb _ _ s5, nb _ _ s6, nb _ _ s7, nb _ _ s8, nb _ _ s9, nb _ _ s10]
  rw [← find_codes] at hf
  unfold signTok
  rw [Option.map_eq_none_iff.mp hf]
theorem tok_app {s : Str} (h : GoodT s) {rest : List Nat} (k : ∀ c, rest.head? = some c → glue s c = false) : tokAt (cod s ++ rest) = ((cls s).1, (cls s).2, s.length) ∧ ∃ c r, cod s = c :: r ∧ c ≠ 32 := by
  have e0 : tokAt (cod s) = ((cls s).1, (cls s).2, (tokAt (cod s)).2.2) := rfl
  have hl : (cod s).length = s.length := by simp [Str.length]
  cases h with
  | let_ ha hn =>
    obtain ⟨c, r, e⟩ := List.exists_cons_of_ne_nil hn
    have hc : isLet c = true := by rw [e] at ha; simp only [List.all_cons, Bool.and_eq_true] at ha; exact ha.1
    have w1 : ∀ x, (wordTok x).2.2 = x.length := fun x => by
      unfold wordTok
      split
      · rfl
      · split <;> rfl
    have t1 : ∀ rest : List Nat, (∀ c, rest.head? = some c → isLet c = false) → tokAt (cod s ++ rest) = wordTok (cod s) := fun rest hr => by
      have := tw_app ha hr
      rw [e] at this ⊢
      unfold tokAt
      rw [List.cons_append]
      dsimp only
      rw [if_pos hc, ← List.cons_append, this]
    have t2 := t1 [] (fun c h => by cases h)
    rw [List.append_nil] at t2
    rw [t2, w1, hl] at e0
    refine ⟨?_, c, r, e, ?_⟩
    · rw [t1 rest (fun c hc => ?_), e0]
      have := k c hc
      unfold glue at this
      simp only [Bool.or_eq_false_iff, Bool.and_eq_false_iff] at this
      rcases this.1.1 with q | q
      · rw [last_all ha hn] at q; cases q
      · exact q
    · rintro rfl
      exact absurd hc (by decide)
  | dig ha hn =>
    obtain ⟨c, r, e⟩ := List.exists_cons_of_ne_nil hn
    have hc : isDig c = true := by rw [e] at ha; simp only [List.all_cons, Bool.and_eq_true] at ha; exact ha.1
    have w1 : ∀ x, (numTok x).2.2 = x.length := fun x => by unfold numTok; split <;> rfl
    have t1 : ∀ rest : List Nat, (∀ c, rest.head? = some c → isDig c = false) → tokAt (cod s ++ rest) = numTok (cod s) := fun rest hr => by
      have := tw_app ha hr
      rw [e] at this ⊢
      unfold tokAt
      rw [List.cons_append]
      dsimp only
      rw [let_dig hc, if_neg (by decide), if_pos hc, ← List.cons_append, this]
    have t2 := t1 [] (fun c h => by cases h)
    rw [List.append_nil] at t2
    rw [t2, w1, hl] at e0
    refine ⟨?_, c, r, e, ?_⟩
    · rw [t1 rest (fun c hc => ?_), e0]
      have := k c hc
      unfold glue at this
      simp only [Bool.or_eq_false_iff, Bool.and_eq_false_iff] at this
      rcases this.1.2 with q | q
      · rw [last_all ha hn] at q; cases q
      · exact q
    · rintro rfl
      exact absurd hc (by decide)
  | sign hs =>
    obtain ⟨c, r, e, h1, h2, h3⟩ := sign_head s hs
    have t1 : ∀ rest : List Nat, tokAt (cod s ++ rest) = signTok (cod s ++ rest) := fun rest => by
      rw [e]
      unfold tokAt
      rw [List.cons_append]
      dsimp only
      rw [h1, if_neg (by decide), h2, if_neg (by decide)]
    have t2 := t1 []
    rw [sign_app hs (fun c h => by cases h), List.append_nil] at t2
    rw [t2] at e0
    refine ⟨?_, c, r, e, h3⟩
    rw [t1 rest, sign_app hs k]
    exact e0
  | odd c e h1 h2 h3 h4 _ =>
    have t1 : ∀ rest : List Nat, tokAt (cod s ++ rest) = signTok (c :: rest) := fun rest => by
      rw [e]
      unfold tokAt
      rw [List.singleton_append]
      dsimp only
      rw [h1, if_neg (by decide), h2, if_neg (by decide)]
    have t2 := t1 []
    rw [sign_bad h4 (fun _ z => by cases z) (fun _ z => by cases z), List.append_nil] at t2
    have hl1 : s.length = 1 := by rw [← hl, e]; rfl
    rw [t2] at e0
    refine ⟨?_, c, [], e, h3⟩
    rw [t1 rest, sign_bad h4 (fun hc z => ?_) (fun hc z => ?_), e0, hl1]
    · have := k 47 z
      have es : s = "/" := cod_inj (by rw [e, hc]; decide +kernel)
      rw [es] at this
      revert this
      decide +kernel
    · have := k 61 z
      have es : s = "!" := cod_inj (by rw [e, hc]; decide +kernel)
      rw [es] at this
      revert this
      decide +kernel
/-! the text, piece by piece -/
def flat (ps : List (Nat × Str)) : List Nat := ps.flatMap fun p => List.replicate p.1 32 ++ cod p.2
def sp (n : Nat) : List Nat := List.replicate n 32
structure LayI (ps : List (Nat × Str)) : Prop where
  good : ∀ p ∈ ps, GoodT p.2
  apart : ∀ (i : Nat) (p q : Nat × Str), ps[i]? = some p → ps[i + 1]? = some q → q.1 = 0 → glueS p.2 q.2 = false
theorem LayI.snoc {ps : List (Nat × Str)} (h : LayI ps) {p : Nat × Str} (g : GoodT p.2) (a : ∀ q, ps.getLast? = some q → p.1 = 0 → glueS q.2 p.2 = false) : LayI (ps ++ [p]) := by
  refine ⟨fun q hq => ?_, fun i x y hx hy hz => ?_⟩
  · rcases List.mem_append.mp hq with h1 | h1
    · exact h.good q h1
    · rw [List.mem_singleton.mp h1]; exact g
  · by_cases hi : i + 1 < ps.length
    · rw [List.getElem?_append_left hi] at hy
      rw [List.getElem?_append_left (by omega)] at hx
      exact h.apart i x y hx hy hz
    · have hi2 : i + 1 = ps.length := by
        have := (List.getElem?_eq_some_iff.mp hy).1
        rw [List.length_append, List.length_singleton] at this
        omega
      rw [hi2, List.getElem?_append_right (Nat.le_refl _), Nat.sub_self] at hy
      simp only [List.getElem?_cons_zero, Option.some.injEq] at hy
      subst hy
      rw [List.getElem?_append_left (by omega)] at hx
      refine a x ?_ hz
      rw [List.getLast?_eq_getElem?, show ps.length - 1 = i by omega]
      exact hx
theorem LayI.tail {p : Nat × Str} {ps : List (Nat × Str)} (h : LayI (p :: ps)) : LayI ps :=
  ⟨fun q hq => h.good q (List.mem_cons_of_mem _ hq), fun i x y hx hy hz => h.apart (i + 1) x y (by simpa using hx) (by simpa using hy) hz⟩
def toksG (a : Nat) (cs : List Nat) : List (Str × V × Nat) := toksF cs.length a cs
def pairT (t : Str × V × Nat) : Str × V := (t.1, t.2.1)
theorem toksG_sp (k : Nat) : ∀ (a : Nat) (cs : List Nat), toksG a (sp k ++ cs) = toksG (a + k) cs := by
  induction k with
  | zero => intro a cs; rfl
  | succ k ih =>
    intro a cs
    show toksF ((32 :: (sp k ++ cs)).length) a (32 :: (sp k ++ cs)) = _
    rw [List.length_cons, toksF, if_pos rfl]
    have := ih (a + 1) cs
    unfold toksG at this ⊢
    rw [this, show a + 1 + k = a + (k + 1) by omega]
theorem toksG_tok {s : Str} {rest : List Nat} (h : GoodT s) (k : ∀ c, rest.head? = some c → glue s c = false) (a : Nat) : toksG a (cod s ++ rest) = ((cls s).1, (cls s).2, a) :: toksG (a + s.length) rest := by
  obtain ⟨e, c, r, ec, hc⟩ := tok_app h k
  have hl : (cod s).length = s.length := by simp [Str.length]
  have e1 : cod s ++ rest = c :: (r ++ rest) := by rw [ec, List.cons_append]
  unfold toksG
  rw [e1] at e ⊢
  rw [List.length_cons, toksF, if_neg hc, e]
  dsimp only
  congr 1
  rw [← e1, ← hl, List.drop_left]
  refine toksF_fuel _ _ _ _ ?_ (Nat.le_refl _)
  rw [List.length_append]
  omega
theorem glue_sp (s : Str) : glue s 32 = false := by
  have h1 : isLet 32 = false := by decide
  have h2 : isDig 32 = false := by decide
  unfold glue
  rw [h1, h2]
  simp
theorem head_glue {k : Nat} {s : Str} {ps : List (Nat × Str)} (h : LayI ((k, s) :: ps)) (t : Nat) : ∀ c, (flat ps ++ sp t).head? = some c → glue s c = false := by
  intro c hc
  cases ps with
  | nil =>
    unfold flat sp at hc
    cases t with
    | zero => cases hc
    | succ t =>
      injection hc with hc
      subst hc
      exact glue_sp s
  | cons q ps =>
    obtain ⟨k2, s2⟩ := q
    cases k2 with
    | succ k2 =>
      injection hc with hc
      subst hc
      exact glue_sp s
    | zero =>
      have ap := h.apart 0 (k, s) (0, s2) rfl rfl rfl
      obtain ⟨_, c2, r2, ec, _⟩ := tok_app (h.good (0, s2) (by simp)) (rest := []) (fun c h => by cases h)
      have : flat ((0, s2) :: ps) = cod s2 ++ flat ps := by unfold flat; rw [List.flatMap_cons]; rfl
      dsimp only at ec ap
      rw [this, ec] at hc
      injection hc with hc
      subst hc
      unfold glueS at ap
      rw [ec] at ap
      exact ap
theorem toksG_flat : ∀ (ps : List (Nat × Str)) (a t : Nat), LayI ps → (toksG a (flat ps ++ sp t)).map pairT = (ps.map fun p => cls p.2) ++ [(("end" : Str), V.non)]
  | [], a, t, _ => by
    have := toksG_sp t a []
    rw [List.append_nil] at this
    show (toksG a (sp t)).map pairT = _
    rw [this]
    rfl
  | (k, s) :: ps, a, t, h => by
    have e : flat ((k, s) :: ps) ++ sp t = sp k ++ (cod s ++ (flat ps ++ sp t)) := by
      unfold flat sp
      rw [List.flatMap_cons, List.append_assoc, List.append_assoc]
    rw [e, toksG_sp, toksG_tok (h.good _ List.mem_cons_self) (head_glue h t), List.map_cons, toksG_flat ps _ t h.tail]
    rfl
theorem toks_lay {ps : List (Nat × Str)} (h : LayI ps) (a t : Nat) : (toks (sp a ++ (flat ps ++ sp t))).map pairT = (ps.map fun p => cls p.2) ++ [(("end" : Str), V.non)] := by
  have := toksG_sp a 0 (flat ps ++ sp t)
  show (toksG 0 _).map pairT = _
  rw [this]
  exact toksG_flat ps _ t h
/-- a laid out expression is read as its tree -/
theorem parse_lay {ps : List (Nat × Str)} (h : LayI ps) (a t : Nat) {d : PyData} (e : ET 1 d (ps.map (·.2))) : ∃ r, runR (RS.start false) (toks (sp a ++ (flat ps ++ sp t))) = some r ∧ r.nodes = [d] := by
  obtain ⟨r, h1, h2⟩ := run_expr e
  refine ⟨r, ?_, h2⟩
  rw [runR_P]
  have := toks_lay h a t
  show runP _ ((toks _).map pairT) = _
  rw [this, ← h1, List.map_map]
  rfl
end Rx

set_option Elab.async false
set_option linter.all false
set_option maxRecDepth 100000
set_option maxHeartbeats 4000000
namespace Rx
open PySem PySem.Spec PyProof.Rows L2 SX
/-! ### texts so many times; repr of data -/
theorem fold_arr : ∀ (l : List (Array Nat)) (acc : Array Nat), (l.foldl (· ++ ·) acc).toList = acc.toList ++ (l.map Array.toList).flatten
  | [], acc => by simp
  | a :: l, acc => by
    rw [List.foldl_cons, fold_arr l]
    simp
theorem mul_codes (x : Str) (n : Nat) : cod (Txt.mul x (n : Int)) = (List.replicate n (cod x)).flatten := by
  unfold Txt.mul
  split
  · rename_i h
    have : n = 0 := by omega
    subst this
    rfl
  · rename_i h
    split
    · rename_i h2
      simp only [Bool.or_eq_true, beq_iff_eq] at h2
      rcases h2 with h2 | h2
      · have : n = 1 := by omega
        subst this
        simp
      · have hx : cod x = [] := by
          have : (cod x).length = x.length := by simp [Str.length]
          rw [h2] at this
          exact List.length_eq_zero_iff.mp this
        rw [hx]
        simp
    · show ((List.replicate (n : Int).toNat x.cps).foldl (· ++ ·) #[]).toList = _
      rw [fold_arr]
      simp
theorem mul_one (x : Str) : Txt.mul x ((1 : Nat) : Int) = x := by
  apply cod_inj
  rw [mul_codes]
  simp
theorem mul_zero (x : Str) : Txt.mul x ((0 : Nat) : Int) = S [] := by
  apply cod_inj
  rw [mul_codes]
  simp
theorem mul_sp (n : Nat) : cod (Txt.mul " " (n : Int)) = sp n := by
  rw [mul_codes]
  have : cod " " = [32] := by decide +kernel
  rw [this]
  unfold sp
  induction n with
  | zero => rfl
  | succ n ih => rw [List.replicate_succ, List.flatten_cons, ih, List.replicate_succ]; rfl
section
variable {X : Cx}
def rMulS : R2 := fun x y H Q => ∃ (z : Str) (n : Nat), x = .str z ∧ y = .int (n : Int) ∧ z.length ≤ 1000 ∧ n ≤ 1000 ∧ Q (.str (Txt.mul z (n : Int))) H
theorem op_mulS : OpR X (binaryOp .Mult) rMulS := by
  intro pins s σ H x y v u Q I rx ry h
  obtain ⟨z, n, rfl, rfl, hz, hn, q⟩ := h
  obtain ⟨t, rfl⟩ := rx
  obtain ⟨t2, rfl⟩ := ry
  have hzn : z.length * n ≤ 1000 * 1000 := Nat.mul_le_mul hz hn
  refine SB.mul ⟨?_, fun h1 _ => ?_, fun _ _ => ?_⟩ fun t' k => ⟨.str _, H, I.tok _, ⟨t', rfl⟩, q⟩
  · simp only [Bool.or_eq_false_iff, decide_eq_false_iff_not]
    omega
  · have h3 : ((2 : Int) ^ 63 - 1) / (n : Int) ≥ ((2 : Int) ^ 63 - 1) / 1000 := by
      apply Int.le_ediv_of_mul_le (by omega)
      have : ((2 : Int) ^ 63 - 1) / 1000 = 9223372036854775 := by decide
      rw [this]
      have : (n : Int) ≤ 1000 := by omega
      omega
    have : ((2 : Int) ^ 63 - 1) / 1000 = 9223372036854775 := by decide
    omega
  · unfold PySem.Builtin.Str.tooLong
    have : 1000 * 1000 ≤ sizeLine := by decide
    simp
    omega
/-- repr(x), x a list or a tuple of data -/
theorem call_reprD (hg : X.A.guards = some []) (hu : X.A.units + 100 < cLine) : CallR X (.builtin "repr") (rStrD X.K) := by
  intro pins s σ H xs us Q I r h
  obtain ⟨a, d, rfl, hd, hs, hn, hz, hl, q⟩ := h
  obtain ⟨u1, rfl, r1⟩ := vals1 r
  cases (show u1 = Value.ref a from r1)
  obtain ⟨as, rr⟩ := Dp.reads I d _ _ hd r1
  exact repr_of_reads' rr hs (PyData.noDict_hsm hn) hg (by omega) (fun _ _ e => e) (fun h' u tk k => ⟨.str _, H, I.kept k, ⟨u, rfl⟩, q⟩) hl
/-- one of two -/
theorem call_or {f : Value} {r1 r2 : List V → Hp → VK → Prop} (h1 : CallR X f r1) (h2 : CallR X f r2) : CallR X f (fun xs H Q => r1 xs H Q ∨ r2 xs H Q) := by
  intro pins s σ H xs us Q I r h
  rcases h with h | h
  · exact h1 pins s σ H xs us Q I r h
  · exact h2 pins s σ H xs us Q I r h
end
end Rx

set_option Elab.async false
set_option linter.all false
set_option maxRecDepth 100000
set_option maxHeartbeats 4000000
namespace Rx
open PySem PySem.Spec PyProof.Rows L2 SX
/-! ### trees that are drawn, and rows of tokens for them -/
def nNot (a : PyData) : PyData := .tuple [.str "not", a]
def logL : List Str := ["or", "and"]
def condL : List Str := ["or", "and", "not", "=", "!=", "<", "<=", ">", ">="]
def leafL : List Str := ["number", "variable"]
def preL : List Str := ["negate", "not"]
def allW : List Str := ["number", "variable", "negate", "not", "=", "!=", "<", "<=", ">", ">=", "+", "-", "*", "//", "mod", "or", "and"]
def rankL : List (Str × Nat) := [("or", 1), ("and", 2), ("+", 1), ("-", 1), ("*", 2), ("//", 2), ("mod", 2)]
def rk (w : Str) : Nat := (rankL.lookup w).getD 3
/-- false: expressions; true: conditions; so deep at most -/
inductive TR : Bool → Nat → PyData → Prop where
  | num {k : Nat} {n : Int} (h : n ∈ numL) : TR false k (nNum n)
  | var {k : Nat} {x : Str} (h : isName (cod x) = true) : TR false k (nVar x)
  | neg {k : Nat} {a : PyData} : TR false k a → TR false (k + 1) (nNeg a)
  | bin {k : Nat} {w : Str} {a b : PyData} : w ∈ arithL → TR false k a → TR false k b → TR false (k + 1) (nBin w a b)
  | cmp {k : Nat} {w : Str} {a b : PyData} : w ∈ compL → TR false k a → TR false k b → TR true (k + 1) (nBin w a b)
  | not_ {k : Nat} {a : PyData} : TR true k a → TR true (k + 1) (nNot a)
  | log {k : Nat} {w : Str} {a b : PyData} : w ∈ logL → TR true k a → TR true k b → TR true (k + 1) (nBin w a b)
inductive CT : Nat → PyData → List Str → Prop where
  | cmp {l : Nat} {w : Str} {a b : PyData} {ta tb : List Str} : w ∈ compL → ET 1 a ta → ET 1 b tb → CT l (nBin w a b) (ta ++ w :: tb)
  | not_ {l : Nat} {a : PyData} {ta : List Str} : CT 3 a ta → CT l (nNot a) ("not" :: ta)
  | and_ {l : Nat} {a b : PyData} {ta tb : List Str} : l ≤ 2 → CT 2 a ta → CT 3 b tb → CT l (nBin "and" a b) (ta ++ ("and" : Str) :: tb)
  | or_ {l : Nat} {a b : PyData} {ta tb : List Str} : l ≤ 1 → CT 1 a ta → CT 2 b tb → CT l (nBin "or" a b) (ta ++ ("or" : Str) :: tb)
  | br {l : Nat} {d : PyData} {ts : List Str} : CT 1 d ts → CT l d ("[" :: (ts ++ [("]" : Str)]))
def TT : Bool → Nat → PyData → List Str → Prop
  | false => ET
  | true => CT
theorem TR.mono {b : Bool} {k m : Nat} {d : PyData} (h : TR b k d) : k ≤ m → TR b m d := by
  induction h generalizing m with
  | num h => intro _; exact .num h
  | var h => intro _; exact .var h
  | @neg k a _ ih => intro hm; cases m with | zero => omega | succ m => exact .neg (ih (by omega))
  | @bin k w a b hw _ _ ih1 ih2 => intro hm; cases m with | zero => omega | succ m => exact .bin hw (ih1 (by omega)) (ih2 (by omega))
  | @cmp k w a b hw _ _ ih1 ih2 => intro hm; cases m with | zero => omega | succ m => exact .cmp hw (ih1 (by omega)) (ih2 (by omega))
  | @not_ k a _ ih => intro hm; cases m with | zero => omega | succ m => exact .not_ (ih (by omega))
  | @log k w a b hw _ _ ih1 ih2 => intro hm; cases m with | zero => omega | succ m => exact .log hw (ih1 (by omega)) (ih2 (by omega))
theorem TR.noList {b : Bool} {k : Nat} {d : PyData} (h : TR b k d) : noList d = true := by
  induction h with
  | num _ => rfl
  | var _ => rfl
  | neg _ ih => simp [nNeg, Rx.noList, noListAll, ih]
  | bin _ _ _ ih1 ih2 => simp [nBin, Rx.noList, noListAll, ih1, ih2]
  | cmp _ _ _ ih1 ih2 => simp [nBin, Rx.noList, noListAll, ih1, ih2]
  | not_ _ ih => simp [nNot, Rx.noList, noListAll, ih]
  | log _ _ _ ih1 ih2 => simp [nBin, Rx.noList, noListAll, ih1, ih2]
/-! every token is a good one, of at most thirty signs -/
def Tok30 (s : Str) : Prop := GoodT s ∧ s.length ≤ 31
theorem num_good : ∀ n ∈ numL, (cod (numS n)).all isDig = true ∧ cod (numS n) ≠ [] ∧ (numS n).length ≤ 30 := by decide +kernel
theorem tok_num {n : Int} (h : n ∈ numL) : Tok30 (numS n) := by
  obtain ⟨h1, h2, h3⟩ := num_good n h
  exact ⟨.dig h1 h2, by omega⟩
theorem tok_name {x : Str} (h : isName (cod x) = true) : Tok30 x := by
  obtain ⟨_, h2, h3, h4⟩ := name_parts h
  refine ⟨.let_ h4 h2, ?_⟩
  have : (cod x).length = x.length := by simp [Str.length]
  omega
theorem tok_self {s : Str} (h : s ∈ selfL) : Tok30 s := by
  have h1 : ∀ s ∈ selfL, (s ∈ signsL ∨ ((cod s).all isLet = true ∧ cod s ≠ [])) ∧ s.length ≤ 30 := by decide +kernel
  obtain ⟨h2, h3⟩ := h1 s h
  refine ⟨?_, by omega⟩
  rcases h2 with h2 | ⟨h2, h4⟩
  · exact .sign h2
  · exact .let_ h2 h4
theorem ET.tok {l : Nat} {d : PyData} {ts : List Str} (h : ET l d ts) : ∀ t ∈ ts, Tok30 t := by
  induction h with
  | num h => intro t ht; rw [List.mem_singleton.mp ht]; exact tok_num h
  | var h => intro t ht; rw [List.mem_singleton.mp ht]; exact tok_name h
  | neg _ ih =>
    intro t ht
    rcases List.mem_cons.mp ht with h | h
    · rw [h]; exact tok_self (by decide +kernel)
    · exact ih t h
  | add hw _ _ _ ih1 ih2 =>
    intro t ht
    rcases List.mem_append.mp ht with h | h
    · exact ih1 t h
    · rcases List.mem_cons.mp h with h | h
      · rw [h]; exact tok_self (bind_add _ hw).2.2.2
      · exact ih2 t h
  | mul hw _ _ _ ih1 ih2 =>
    intro t ht
    rcases List.mem_append.mp ht with h | h
    · exact ih1 t h
    · rcases List.mem_cons.mp h with h | h
      · rw [h]; exact tok_self (bind_mul _ hw).2.2.2
      · exact ih2 t h
  | par _ ih =>
    intro t ht
    rcases List.mem_cons.mp ht with h | h
    · rw [h]; exact tok_self (by decide +kernel)
    · rcases List.mem_append.mp h with h | h
      · exact ih t h
      · rw [List.mem_singleton.mp h]; exact tok_self (by decide +kernel)
theorem comp_self : ∀ w ∈ compL, w ∈ selfL := by decide +kernel
theorem CT.tok {l : Nat} {d : PyData} {ts : List Str} (h : CT l d ts) : ∀ t ∈ ts, Tok30 t := by
  induction h with
  | cmp hw h1 h2 =>
    intro t ht
    rcases List.mem_append.mp ht with h | h
    · exact h1.tok t h
    · rcases List.mem_cons.mp h with h | h
      · rw [h]; exact tok_self (comp_self _ hw)
      · exact h2.tok t h
  | not_ _ ih =>
    intro t ht
    rcases List.mem_cons.mp ht with h | h
    · rw [h]; exact tok_self (by decide +kernel)
    · exact ih t h
  | and_ _ _ _ ih1 ih2 =>
    intro t ht
    rcases List.mem_append.mp ht with h | h
    · exact ih1 t h
    · rcases List.mem_cons.mp h with h | h
      · rw [h]; exact tok_self (by decide +kernel)
      · exact ih2 t h
  | or_ _ _ _ ih1 ih2 =>
    intro t ht
    rcases List.mem_append.mp ht with h | h
    · exact ih1 t h
    · rcases List.mem_cons.mp h with h | h
      · rw [h]; exact tok_self (by decide +kernel)
      · exact ih2 t h
  | br _ ih =>
    intro t ht
    rcases List.mem_cons.mp ht with h | h
    · rw [h]; exact tok_self (by decide +kernel)
    · rcases List.mem_append.mp h with h | h
      · exact ih t h
      · rw [List.mem_singleton.mp h]; exact tok_self (by decide +kernel)
theorem TT.tok : ∀ {b : Bool} {l : Nat} {d : PyData} {ts : List Str}, TT b l d ts → ∀ t ∈ ts, Tok30 t
  | false, _, _, _, h => ET.tok h
  | true, _, _, _, h => CT.tok h
/-! dicts as written -/
theorem putK_new' {kvs : List (Key × V)} {k : Key} {v : V} (h : k ∉ kvs.map (·.1)) : putK kvs k v = kvs ++ [(k, v)] := by
  unfold putK
  rw [if_neg]
  intro z
  simp only [List.any_eq_true, decide_eq_true_eq] at z
  obtain ⟨x, hx, e⟩ := z
  exact h (e ▸ List.mem_map_of_mem hx)
theorem mergeK_new : ∀ (more acc : List (Key × V)), ((acc ++ more).map (·.1)).Nodup → mergeK acc more = acc ++ more
  | [], acc, _ => by rw [List.append_nil]; rfl
  | kv :: more, acc, h => by
    show mergeK (putK acc kv.1 kv.2) more = _
    have hn : kv.1 ∉ acc.map (·.1) := by
      intro z
      rw [List.map_append, List.nodup_append] at h
      exact h.2.2 _ z _ (by simp) rfl
    rw [putK_new' hn, mergeK_new more _ (by rw [List.append_assoc]; exact h), List.append_assoc]
    rfl
theorem mergeK_nil {more : List (Key × V)} (h : (more.map (·.1)).Nodup) : mergeK [] more = more := mergeK_new more [] h
end Rx

set_option Elab.async false
set_option linter.all false
set_option maxRecDepth 100000
set_option maxHeartbeats 4000000
namespace Rx
open PySem PySem.Spec PyProof.Rows L2 SX
/-! ### where the tokens of a laid out text begin -/
def begs : Nat → List (Nat × Str) → List Nat
  | _, [] => []
  | a, (k, s) :: ps => (a + k) :: begs (a + k + s.length) ps
theorem flat_snoc (ps : List (Nat × Str)) (k : Nat) (s : Str) : flat (ps ++ [(k, s)]) = flat ps ++ (sp k ++ cod s) := by
  unfold flat sp
  rw [List.flatMap_append]
  simp
theorem cod_len (s : Str) : (cod s).length = s.length := by simp [Str.length]
theorem begs_snoc : ∀ (ps : List (Nat × Str)) (a k : Nat) (s : Str), begs a (ps ++ [(k, s)]) = begs a ps ++ [a + (flat ps).length + k]
  | [], a, k, s => by simp [begs, flat]
  | (j, t) :: ps, a, k, s => by
    have e : flat ((j, t) :: ps) = (sp j ++ cod t) ++ flat ps := by unfold flat sp; rw [List.flatMap_cons]
    rw [List.cons_append, begs, begs, begs_snoc ps, List.cons_append, e]
    congr 2
    rw [List.length_append, List.length_append, cod_len]
    unfold sp
    rw [List.length_replicate]
    simp
    omega
theorem toksG_pos : ∀ (ps : List (Nat × Str)) (a t : Nat), LayI ps → (toksG a (flat ps ++ sp t)).map (·.2.2) = begs a ps ++ [a + (flat ps).length + t]
  | [], a, t, _ => by
    have := toksG_sp t a []
    rw [List.append_nil] at this
    show (toksG a (sp t)).map (·.2.2) = _
    rw [this]
    simp [begs, flat, toksG, toksF]
  | (k, s) :: ps, a, t, h => by
    have e : flat ((k, s) :: ps) ++ sp t = sp k ++ (cod s ++ (flat ps ++ sp t)) := by
      unfold flat sp
      rw [List.flatMap_cons, List.append_assoc, List.append_assoc]
    have el : (flat ((k, s) :: ps)).length = k + s.length + (flat ps).length := by
      have : flat ((k, s) :: ps) = (sp k ++ cod s) ++ flat ps := by unfold flat sp; rw [List.flatMap_cons]
      rw [this, List.length_append, List.length_append, cod_len]
      unfold sp
      rw [List.length_replicate]
    rw [e, toksG_sp, toksG_tok (h.good _ List.mem_cons_self) (head_glue h t), List.map_cons, toksG_pos ps _ t h.tail, begs, el, List.cons_append, show a + (k + s.length + (flat ps).length) + t = a + k + s.length + (flat ps).length + t by omega]
end Rx

set_option Elab.async false
set_option linter.all false
set_option maxRecDepth 100000
set_option maxHeartbeats 4000000
namespace Rx
open PySem PySem.Spec PyProof.Rows L2 SX
/-! ### how long the texts of drawn data are -/
theorem textFrom_le : ∀ (ts : List Str) (k : Nat) (acc : Str), (textFrom k acc ts).length ≤ acc.length + piled ts
  | [], _, acc => by simp [textFrom, piled]
  | t :: r, k, acc => by
    have ih := textFrom_le r (k + 1) (acc ++ (if k > 0 then ", " else "" : String) ++ t)
    have e : (acc ++ (if k > 0 then ", " else "" : String) ++ t).length ≤ acc.length + 2 + t.length := by
      rw [strLen_append, strLen_append]
      split
      · exact Nat.le_refl _
      · show acc.length + 0 + t.length ≤ _
        omega
    rw [piled_cons]
    show (textFrom (k + 1) _ r).length ≤ _
    omega
theorem listText_le (ts : List Str) : (listText ts).length ≤ piled ts + 2 := by
  have h := textFrom_le ts 0 "["
  unfold listText
  rw [strLen_append]
  have e1 : ("[" : Str).length = 1 := rfl
  have e2 : ("]" : Str).length = 1 := rfl
  omega
theorem piled_le {b : Nat} : ∀ {xs : List PyData}, (∀ x ∈ xs, x.shown.length ≤ b) → piled (PyData.shownAll xs) ≤ xs.length * (b + 2)
  | [], _ => by simp [PyData.shownAll, piled]
  | x :: xs, h => by
    have h1 := h x (by simp)
    have h2 := piled_le (xs := xs) fun y hy => h y (by simp [hy])
    rw [PyData.shownAll, piled_cons, List.length_cons, Nat.add_mul]
    omega
theorem list_le {b : Nat} {xs : List PyData} (h : ∀ x ∈ xs, x.shown.length ≤ b) (hl : xs.length ≤ 3) : (PyData.list xs).shown.length ≤ 3 * (b + 2) + 2 ∧ (PyData.tuple xs).shown.length ≤ 3 * (b + 2) + 2 := by
  have h1 := piled_le h
  have h2 : xs.length * (b + 2) ≤ 3 * (b + 2) := Nat.mul_le_mul_right _ hl
  have h3 := listText_le (PyData.shownAll xs)
  have h4 := fmt_text (PyData.shownAll xs)
  simp only [PyData.shown]
  omega
theorem all_show : ∀ {xs : List PyData}, (∀ x ∈ xs, x.showable = true) → PyData.showableAll xs = true
  | [], _ => by simp [PyData.showableAll]
  | x :: xs, h => by simp [PyData.showableAll, h x (by simp), all_show (xs := xs) fun y hy => h y (by simp [hy])]
theorem all_dict : ∀ {xs : List PyData}, (∀ x ∈ xs, x.hasDict = false) → PyData.hasDictAll xs = false
  | [], _ => by simp [PyData.hasDictAll]
  | x :: xs, h => by simp [PyData.hasDictAll, h x (by simp), all_dict (xs := xs) fun y hy => h y (by simp [hy])]
theorem all_depth {n : Nat} : ∀ {xs : List PyData}, (∀ x ∈ xs, x.depth ≤ n) → PyData.depthAll xs ≤ n
  | [], _ => by simp [PyData.depthAll]
  | x :: xs, h => by
    have h1 := h x (by simp)
    have h2 := all_depth (xs := xs) fun y hy => h y (by simp [hy])
    simp only [PyData.depthAll]
    omega
/-- what may be shown: within b signs, n deep -/
structure Showy (n b : Nat) (d : PyData) : Prop where
  sh : d.showable = true
  nd : d.hasDict = false
  dp : d.depth ≤ n
  ln : d.shown.length ≤ b
theorem Showy.seq {n b : Nat} {xs : List PyData} (h : ∀ x ∈ xs, Showy n b x) (hl : xs.length ≤ 3) : Showy (n + 1) (3 * (b + 2) + 2) (.list xs) ∧ Showy (n + 1) (3 * (b + 2) + 2) (.tuple xs) := by
  have h1 := all_show fun x hx => (h x hx).sh
  have h2 := all_dict fun x hx => (h x hx).nd
  have h3 := all_depth fun x hx => (h x hx).dp
  have h4 := list_le (fun x hx => (h x hx).ln) hl
  exact ⟨⟨by simp [PyData.showable, h1], by simp [PyData.hasDict, h2], by simp only [PyData.depth]; omega, h4.1⟩, ⟨by simp [PyData.showable, h1], by simp [PyData.hasDict, h2], by simp only [PyData.depth]; omega, h4.2⟩⟩
def shB : Nat → Nat
  | 0 => 100
  | n + 1 => 3 * (shB n + 2) + 2
theorem shB_ge (n : Nat) : 100 ≤ shB n := by
  induction n with
  | zero => simp [shB]
  | succ n ih => simp only [shB]; omega
/-- a piece of a tree: short, and as good as any -/
structure Leafy (d : PyData) : Prop where
  sh : Showy 0 100 d
  ly : d.canLay0 = true
theorem leaf_words : ∀ x ∈ allW, (x.cps.toList.all (fun c => decide (c < 1000)) = true) ∧ x.length ≤ 9 := by decide +kernel
theorem leaf_str {x : Str} (h : (cod x).all (fun c => decide (c < 1000)) = true) (hl : x.length ≤ 9) : Leafy (.str x) := by
  have h1 : ∀ c ∈ cod x, c < 1000 := fun c hc => of_decide_eq_true (List.all_eq_true.mp h c hc)
  refine ⟨⟨rfl, rfl, Nat.le_refl _, ?_⟩, ?_⟩
  · have := StrLaws.reprText_len x (fun c hc => Nat.lt_of_lt_of_le (h1 c hc) (by decide))
    simp only [PyData.shown]
    omega
  · simp only [PyData.canLay0, PySem.PyData.strOk]
    rw [← Array.all_toList, List.all_eq_true]
    exact fun c hc => decide_eq_true (Nat.lt_of_lt_of_le (h1 c hc) (by decide))
theorem str_ok {x : Str} (h : ∀ c ∈ cod x, c < 1000) : PyData.strOk x = true := by
  unfold PySem.PyData.strOk
  rw [← Array.all_toList, List.all_eq_true]
  intro c hc
  have := h c hc
  exact decide_eq_true (by omega)
theorem tok_ok {s : Str} (h : GoodT s) : PyData.strOk s = true := by
  apply str_ok
  intro c hc
  cases h with
  | let_ ha _ =>
    have := List.all_eq_true.mp ha c hc
    simp only [isLet, Bool.and_eq_true, decide_eq_true_eq] at this
    omega
  | dig ha _ =>
    have := List.all_eq_true.mp ha c hc
    simp only [isDig, Bool.and_eq_true, decide_eq_true_eq] at this
    omega
  | sign hs =>
    have h1 : ∀ s ∈ signsL, ∀ c ∈ cod s, c < 1000 := by decide +kernel
    exact h1 s hs c hc
  | odd d e _ _ _ _ hd =>
    rw [e] at hc
    rw [List.mem_singleton.mp hc]
    exact hd
theorem leaf_name {x : Str} (h : isName (cod x) = true) : Leafy (.str x) := by
  obtain ⟨_, _, h3, h4⟩ := name_parts h
  refine leaf_str (List.all_eq_true.mpr fun c hc => ?_) (by rw [← cod_len]; omega)
  have := List.all_eq_true.mp h4 c hc
  simp only [isLet, Bool.and_eq_true, decide_eq_true_eq] at this
  exact decide_eq_true (by omega)
theorem leaf_word {x : Str} (h : x ∈ allW) : Leafy (.str x) := leaf_str (leaf_words x h).1 (leaf_words x h).2
theorem leaf_num {n : Int} (h : n ∈ numL) : Leafy (.int n) := by
  have h1 : ∀ n ∈ numL, (PyData.int n).showable = true ∧ (PyData.int n).shown.length ≤ 100 := by decide +kernel
  exact ⟨⟨(h1 n h).1, rfl, Nat.le_refl _, (h1 n h).2⟩, rfl⟩
/-- what a tree is -/
structure Good (n : Nat) (d : PyData) : Prop where
  sh : Showy n (shB n) d
  ly : d.canLay0 = true
theorem Leafy.good {d : PyData} (h : Leafy d) (n : Nat) : Good n d := by
  have := shB_ge n
  exact ⟨⟨h.sh.sh, h.sh.nd, Nat.le_trans h.sh.dp (Nat.zero_le _), Nat.le_trans h.sh.ln (by omega)⟩, h.ly⟩
theorem good_tup {n : Nat} {xs : List PyData} (h : ∀ x ∈ xs, Good n x) (hl : xs.length ≤ 3) : Good (n + 1) (.tuple xs) := by
  refine ⟨(Showy.seq (fun x hx => (h x hx).sh) hl).2, ?_⟩
  have : ∀ xs : List PyData, (∀ x ∈ xs, x.canLay0 = true) → PyData.canLayAll0 xs = true := fun xs => by
    induction xs with
    | nil => intro _; simp [PyData.canLayAll0]
    | cons x xs ih => intro h; simp only [PyData.canLayAll0, h x (by simp), ih fun y hy => h y (by simp [hy]), Bool.and_self]
  simp only [PyData.canLay0]
  exact this xs fun x hx => (h x hx).ly
theorem good2 {n : Nat} {a b : PyData} (h1 : Good n a) (h2 : Good n b) : Good (n + 1) (.tuple [a, b]) := good_tup (fun x hx => by
  simp only [List.mem_cons, List.not_mem_nil, or_false] at hx
  rcases hx with rfl | rfl
  · exact h1
  · exact h2) (by simp)
theorem good3 {n : Nat} {a b c : PyData} (h1 : Good n a) (h2 : Good n b) (h3 : Good n c) : Good (n + 1) (.tuple [a, b, c]) := good_tup (fun x hx => by
  simp only [List.mem_cons, List.not_mem_nil, or_false] at hx
  rcases hx with rfl | rfl | rfl
  · exact h1
  · exact h2
  · exact h3) (by simp)
theorem TR.good {b : Bool} {n : Nat} {d : PyData} (h : TR b n d) : Good (n + 1) d := by
  have hA : ∀ x ∈ arithL, x ∈ allW := by decide +kernel
  have hC : ∀ x ∈ compL, x ∈ allW := by decide +kernel
  have hL : ∀ x ∈ logL, x ∈ allW := by decide +kernel
  induction h with
  | @num k n h => exact good2 ((leaf_word (by decide +kernel)).good k) ((leaf_num h).good k)
  | @var k x h => exact good2 ((leaf_word (by decide +kernel)).good k) ((leaf_name h).good k)
  | neg _ ih => exact good2 ((leaf_word (by decide +kernel)).good _) ih
  | bin hw _ _ ih1 ih2 => exact good3 ((leaf_word (hA _ hw)).good _) ih1 ih2
  | cmp hw _ _ ih1 ih2 => exact good3 ((leaf_word (hC _ hw)).good _) ih1 ih2
  | not_ _ ih => exact good2 ((leaf_word (by decide +kernel)).good _) ih
  | log hw _ _ ih1 ih2 => exact good3 ((leaf_word (hL _ hw)).good _) ih1 ih2
theorem Good.shaped {n : Nat} {d : PyData} (h : Good n d) (hn : n ≤ 64) : SeqAt.shaped d = true := by
  unfold SeqAt.shaped
  rw [h.ly, decide_eq_true (Nat.le_trans h.sh.dp hn)]
  rfl
end Rx

set_option Elab.async false
set_option linter.all false
set_option maxRecDepth 100000
set_option maxHeartbeats 4000000
namespace Rx
open PySem PySem.Spec PyProof.Rows L2 SX
/-! ### written texts -/
def sameL (f : PyData → PyData → Bool) : List PyData → List PyData → Bool
  | [], [] => true
  | x :: xs, y :: ys => f x y && sameL f xs ys
  | _, _ => false
def sameF : Nat → PyData → PyData → Bool
  | 0, _, _ => false
  | n + 1, d, e => match d, e with
    | .str x, .str y => decide (x = y)
    | .int x, .int y => decide (x = y)
    | .none, .none => true
    | .tuple xs, .tuple ys => sameL (sameF n) xs ys
    | _, _ => false
theorem sameL_eq {f : PyData → PyData → Bool} (h : ∀ d e, f d e = true → d = e) : ∀ {xs ys : List PyData}, sameL f xs ys = true → xs = ys
  | [], [], _ => rfl
  | x :: xs, y :: ys, e => by
    simp only [sameL, Bool.and_eq_true] at e
    rw [h x y e.1, sameL_eq h e.2]
  | [], _ :: _, e => by simp [sameL] at e
  | _ :: _, [], e => by simp [sameL] at e
theorem sameF_eq : ∀ (n : Nat) {d e : PyData}, sameF n d e = true → d = e
  | 0, _, _, h => by simp [sameF] at h
  | n + 1, d, e, h => by
    unfold sameF at h
    split at h
    · rw [of_decide_eq_true h]
    · rw [of_decide_eq_true h]
    · rfl
    · rw [sameL_eq (fun d e => sameF_eq n) h]
    · cases h
def chkP (c : Bool) (z : Str) (due : PyData) : Bool := match runR (RS.start c) (toks (cod z)) with
  | some r => (match r.nodes with
    | [d] => sameF 20 d due
    | _ => false)
  | none => false
theorem chk_run {c : Bool} {z : Str} {due : PyData} (h : chkP c z due = true) : ∃ r, runR (RS.start c) (toks (cod z)) = some r ∧ r.nodes = [due] := by
  unfold chkP at h
  split at h
  · rename_i r e
    split at h
    · rename_i d ed
      exact ⟨r, e, by rw [ed, sameF_eq 20 h]⟩
    · cases h
  · cases h
theorem tup_new {K : PySem.W.Frag} {H : Hp} {t : Addr} {xs : List V} {ds : List PyData} (h : H t = none) (D : DpAll K H xs ds) : Dp K (upd H t (.tup xs)) (.ref t) (.tuple ds) := .tup (SqT.of upd_same) (dpAll_same (same_new h) D)
/-- the same def at several promises -/
theorem fn_union {P : Program} {w : World} {K : PySem.W.Frag} {mg : Str → Option Value} {base : Heap} {CX : CXT} {k : Nat} {f : Addr} {fd : FuncData} {ps : List Str} {sp : Nat → Sp} {m : Nat} (F : ∀ n, n ≤ m → FnOk P w K mg base CX k f fd ps (sp n)) : FnOk P w K mg base CX k f fd ps (fun vs H Q E => ∃ n, n ≤ m ∧ sp n vs H Q E) :=
  ⟨fun vs H Q E ⟨n, hn, h⟩ => (F n hn).len vs H Q E h, fun A outer s H args us vs Q E hr e0 hb r ⟨n, hn, h⟩ => (F n hn).run A outer s H args us vs Q E hr e0 hb r h⟩
end Rx

set_option Elab.async false
set_option linter.all false
set_option maxRecDepth 100000
set_option maxHeartbeats 4000000
namespace Rx
open PySem PySem.Spec PyProof.Rows L2 SX
/-! ### a row of tokens of a condition is read as its tree -/
def DoneC (q : RS) : Prop := q.stage = "bracket" ∨ (q.stage = "expression" ∧ q.cmp = true)
structure LeftC (b : Int) (r q : RS) (d : PyData) : Prop where
  dn : DoneC q
  br : q.brs = r.brs
  co : q.cond = true
  jn : ∀ c : Int, c ≤ b → joinDown c q.ops q.nodes = joinDown c r.ops (d :: r.nodes)
/-- a condition may begin -/
structure BegC (l : Nat) (r : RS) : Prop where
  st : r.stage = "condition"
  cm : r.cmp = false
  co : r.cond = true
  br : r.brs.head? ≠ some ("(" : Str)
  t3 : ∀ s t, r.ops = s :: t → bindOf s ≤ 3
  lo : l ≤ 2 → ∀ s t, r.ops = s :: t → bindOf s < (l : Int)
theorem BegC.starts {l : Nat} {r : RS} (h : BegC l r) : r.starts = true := by
  unfold RS.starts
  rw [h.st]
  decide +kernel
theorem beg_stop {os : List Str} {ns : List PyData} {b : Int} (h : ∀ s t, os = s :: t → bindOf s < b) : joinDown b os ns = some (os, ns) := by
  cases os with
  | nil => rfl
  | cons s t =>
    have := h s t rfl
    show (if b ≤ bindOf s then _ else _) = _
    rw [if_neg (by omega)]
theorem done_no {q : RS} (h : DoneC q) : q.starts = false ∧ (decide (q.stage = "expression") && !q.cmp) = false := by
  unfold RS.starts
  rcases h with h | ⟨h, h2⟩
  · rw [h]
    refine ⟨by decide +kernel, ?_⟩
    rw [show decide (Str.ofString "bracket" = Str.ofString "expression") = false by decide +kernel]
    rfl
  · rw [h, h2]
    exact ⟨by decide +kernel, by simp⟩
theorem done_fits {q : RS} {s : Str} (h : DoneC q) (hc : q.cond = true) (hb : q.brs.head? ≠ some ("(" : Str)) (ha : arithL.contains s = false)
    (hs : (if q.brs.head? = some ("[" : Str) then (["and", "or", "]"] : List Str).contains s else (["and", "or", "end"] : List Str).contains s) = true) : q.fits s = true := by
  obtain ⟨h1, h2⟩ := done_no h
  unfold RS.fits RS.mayFollow
  rw [h1, if_neg (by decide), ha, Bool.and_false, if_neg (by decide), if_neg hb, hc, if_neg (by decide), h2, if_neg (by decide)]
  split
  · rename_i e; rw [if_pos e] at hs; exact hs
  · rename_i e; rw [if_neg e] at hs; exact hs
theorem log_fits {q : RS} {s : Str} (h : DoneC q) (hc : q.cond = true) (hb : q.brs.head? ≠ some ("(" : Str)) (hs : s ∈ logL) : q.fits s = true := by
  have h1 : ∀ s ∈ logL, arithL.contains s = false ∧ (["and", "or", "]"] : List Str).contains s = true ∧ (["and", "or", "end"] : List Str).contains s = true := by decide +kernel
  obtain ⟨a, b, c⟩ := h1 s hs
  refine done_fits h hc hb a ?_
  split
  · exact b
  · exact c
theorem log_take {q : RS} {s : Str} {os : List Str} {ns : List PyData} (h : DoneC q) (hs : s ∈ logL) (hj : joinDown (bindOf s) q.ops q.nodes = some (os, ns)) (v : V) : q.takeIn s v = some { q with ops := s :: os, nodes := ns, stage := "condition", cmp := false } := by
  have h1 : ∀ s ∈ logL, ¬ (s = ")" ∨ s = "]") ∧ ¬ s = "end" ∧ (s = "and" ∨ s = "or") := by decide +kernel
  obtain ⟨a, b, c⟩ := h1 s hs
  unfold RS.takeIn
  rw [(done_no h).1, if_neg (by decide), if_neg a, if_neg b]
  unfold RS.between
  rw [down_eq hj, Option.map_some, if_pos c]
theorem cmp_step {q : RS} {w : Str} {os : List Str} {ns : List PyData} (hs : q.stage = "expression") (hm : q.cmp = false) (hc : q.cond = true) (hb : q.brs.head? ≠ some ("(" : Str)) (hw : w ∈ compL) (h : joinDown 4 q.ops q.nodes = some (os, ns)) :
    q.fits w = true ∧ ∀ v, q.takeIn w v = some { q with ops := w :: os, nodes := ns, stage := "factor", cmp := true } := by
  have h1 : ∀ x ∈ compL, ¬ (x = ")" ∨ x = "]") ∧ ¬ x = "end" ∧ ¬ (x = "and" ∨ x = "or") ∧ arithL.contains x = false ∧ bindOf x = 4 := by decide +kernel
  obtain ⟨n1, n2, n3, n4, n5⟩ := h1 w hw
  refine ⟨?_, fun v => ?_⟩
  · unfold RS.fits RS.mayFollow
    rw [starts_no hs, if_neg (by decide), n4, Bool.and_false, if_neg (by decide), if_neg hb, hc, if_neg (by decide), hs, hm, if_pos (by decide +kernel)]
    exact List.contains_iff_mem.mpr hw
  · unfold RS.takeIn
    rw [starts_no hs, if_neg (by decide), if_neg n1, if_neg n2]
    unfold RS.between
    rw [n5, down_eq h, Option.map_some, if_neg n3, List.contains_iff_mem.mpr hw, Bool.or_true]
theorem run_log {l m : Nat} {w : Str} {a b : PyData} {ta tb : List Str} (hl : l ≤ m) (hm : m ≤ 2) (hw : w ∈ logL) (hb : bindOf w = (m : Int))
    (ia : ∀ (r : RS) rest, BegC m r → ∃ q, runP r (ta.map cls ++ rest) = runP q rest ∧ LeftC (m : Int) r q a)
    (ib : ∀ (r : RS) rest, BegC (m + 1) r → ∃ q, runP r (tb.map cls ++ rest) = runP q rest ∧ LeftC (((m + 1 : Nat) : Int)) r q b)
    (r : RS) (rest : List (Str × V)) (B : BegC l r) : ∃ q, runP r ((ta ++ w :: tb).map cls ++ rest) = runP q rest ∧ LeftC (l : Int) r q (nBin w a b) := by
  have hsf : ∀ x ∈ logL, x ∈ selfL ∧ prefL.contains x = false := by decide +kernel
  have lo' : ∀ s t, r.ops = s :: t → bindOf s < (m : Int) := fun s t e => by
    have := B.lo (by omega) s t e
    omega
  obtain ⟨q1, e1, L1⟩ := ia r ((w, V.non) :: (tb.map cls ++ rest)) ⟨B.st, B.cm, B.co, B.br, B.t3, fun _ => lo'⟩
  have hj : joinDown (bindOf w) q1.ops q1.nodes = some (r.ops, a :: r.nodes) := by
    rw [L1.jn _ (by rw [hb]; exact Int.le_refl _), hb]
    exact beg_stop lo'
  have hb1 : q1.brs.head? ≠ some ("(" : Str) := by rw [L1.br]; exact B.br
  obtain ⟨q2, e2, L2⟩ := ib { q1 with ops := w :: r.ops, nodes := a :: r.nodes, stage := "condition", cmp := false } rest ⟨rfl, rfl, L1.co, hb1, (fun s t e => by
    injection e with e _
    subst e
    rw [hb]
    omega), fun _ s t e => by
    injection e with e _
    subst e
    rw [hb]
    omega⟩
  refine ⟨q2, ?_, L2.dn, L2.br.trans L1.br, L2.co, fun c hc => ?_⟩
  · rw [List.map_append, List.append_assoc, List.map_cons, List.cons_append, cls_self (hsf w hw).1, e1, runP_cons (log_fits L1.dn L1.co hb1 hw) (log_take L1.dn hw hj _), e2]
  · rw [L2.jn c (by omega)]
    show joinDown c (w :: r.ops) (b :: a :: r.nodes) = _
    have : joinOp w (b :: a :: r.nodes) = some (nBin w a b :: r.nodes) := by
      unfold joinOp
      rw [(hsf w hw).2, if_neg (by decide)]
      rfl
    rw [joinDown, if_pos (by omega), this]
theorem run_CT {l : Nat} {d : PyData} {ts : List Str} (h : CT l d ts) : 1 ≤ l → l ≤ 3 → ∀ (r : RS) (rest : List (Str × V)), BegC l r → ∃ q, runP r (ts.map cls ++ rest) = runP q rest ∧ LeftC (l : Int) r q d := by
  induction h with
  | @cmp l w a b ta tb hw ha hb =>
    intro h1 h3 r rest B
    have hcp : ∀ x ∈ compL, bindOf x = 4 ∧ prefL.contains x = false := by decide +kernel
    obtain ⟨hb4, hpf⟩ := hcp w hw
    obtain ⟨q1, e1, L1⟩ := run_ET ha (by decide) (by decide) r ((w, V.non) :: (tb.map cls ++ rest)) B.starts (fun _ s t e => by
      have := B.t3 s t e
      show bindOf s < 5
      omega)
    have hj : joinDown 4 q1.ops q1.nodes = some (r.ops, a :: r.nodes) := by
      rw [L1.jn 4 (by decide)]
      exact beg_stop fun s t e => by
        have := B.t3 s t e
        omega
    have hb1 : q1.brs.head? ≠ some ("(" : Str) := by rw [L1.br]; exact B.br
    obtain ⟨hf, ht⟩ := cmp_step L1.st (L1.cm.trans B.cm) (L1.co.trans B.co) hb1 hw hj
    obtain ⟨q2, e2, L2⟩ := run_ET hb (by decide) (by decide) { q1 with ops := w :: r.ops, nodes := a :: r.nodes, stage := "factor", cmp := true } rest (starts_fac rfl) (fun _ s t e => by
      injection e with e _
      subst e
      rw [hb4]
      decide)
    refine ⟨q2, ?_, .inr ⟨L2.st, L2.cm⟩, L2.br.trans L1.br, L2.co.trans (L1.co.trans B.co), fun c hc => ?_⟩
    · rw [List.map_append, List.append_assoc, List.map_cons, List.cons_append, cls_self (comp_self w hw), e1, runP_cons hf (ht _), e2]
    · rw [L2.jn c (by show c ≤ 5; omega)]
      show joinDown c (w :: r.ops) (b :: a :: r.nodes) = _
      have : joinOp w (b :: a :: r.nodes) = some (nBin w a b :: r.nodes) := by
        unfold joinOp
        rw [hpf, if_neg (by decide)]
        rfl
      rw [joinDown, if_pos (by omega), this]
  | @not_ l a ta ha ih =>
    intro h1 h3 r rest B
    have hb : bindOf "not" = 3 := by decide +kernel
    have e : r.begin_ "not" .non = { r with ops := "not" :: r.ops } := by
      unfold RS.begin_
      rw [if_neg (by decide +kernel), if_neg (by decide +kernel), if_neg (by decide +kernel), if_neg (by decide +kernel)]
    have hf : r.fits "not" = true := by
      unfold RS.fits RS.mayBegin
      rw [if_pos B.starts, B.st]
      decide +kernel
    obtain ⟨q, e1, L1⟩ := ih (by decide) (by decide) { r with ops := "not" :: r.ops } rest ⟨B.st, B.cm, B.co, B.br, (fun s t e => by
      injection e with e _
      subst e
      rw [hb]
      decide), fun z => absurd z (by decide)⟩
    refine ⟨q, ?_, L1.dn, L1.br, L1.co, fun c hc => ?_⟩
    · rw [List.map_cons, cls_self (by decide +kernel), List.cons_append, runP_cons hf (begin_take B.starts), e, e1]
    · rw [L1.jn c (by omega)]
      show joinDown c (("not" : Str) :: r.ops) (a :: r.nodes) = _
      have : joinOp "not" (a :: r.nodes) = some (nNot a :: r.nodes) := by
        unfold joinOp
        rw [if_pos (by decide +kernel)]
        rfl
      rw [joinDown, if_pos (by rw [hb]; omega), this]
  | @and_ l a b ta tb hl ha hb iha ihb =>
    intro h1 h3 r rest B
    exact run_log (m := 2) hl (by decide) (by decide +kernel) (by decide +kernel) (iha (by decide) (by decide)) (ihb (by decide) (by decide)) r rest B
  | @or_ l a b ta tb hl ha hb iha ihb =>
    intro h1 h3 r rest B
    exact run_log (m := 1) hl (by decide) (by decide +kernel) (by decide +kernel) (iha (by decide) (by decide)) (ihb (by decide) (by decide)) r rest B
  | @br l d ts hd ih =>
    intro h1 h3 r rest B
    have e : r.begin_ "[" .non = { r with ops := "[" :: r.ops, brs := "[" :: r.brs } := by
      unfold RS.begin_
      rw [if_neg (by decide +kernel), if_neg (by decide +kernel), if_neg (by decide +kernel), if_pos rfl]
    have hf : r.fits "[" = true := by
      unfold RS.fits RS.mayBegin
      rw [if_pos B.starts, B.st]
      decide +kernel
    have hb : bindOf "[" = -1 := by decide +kernel
    obtain ⟨q, e1, L1⟩ := ih (by decide) (by decide) { r with ops := "[" :: r.ops, brs := "[" :: r.brs } ((("]" : Str), V.non) :: rest) ⟨B.st, B.cm, B.co, (by show some ("[" : Str) ≠ _; decide +kernel), (fun s t e => by
      injection e with e _
      subst e
      rw [hb]
      decide), fun _ s t e => by
      injection e with e _
      subst e
      rw [hb]
      decide⟩
    have hj : joinDown 0 q.ops q.nodes = some ((("[" : Str) :: r.ops), (d :: r.nodes)) := by
      rw [L1.jn 0 (by decide)]
      show (if (0 : Int) ≤ bindOf "[" then _ else _) = _
      rw [hb, if_neg (by decide)]
    have hq : q.brs.head? = some ("[" : Str) := by rw [L1.br]; rfl
    have hf2 : q.fits "]" = true := by
      refine done_fits L1.dn L1.co (by rw [hq]; decide +kernel) (by decide +kernel) ?_
      rw [if_pos hq]
      decide +kernel
    have ht2 : q.takeIn "]" .non = some { q with ops := r.ops, nodes := d :: r.nodes, brs := r.brs, stage := "bracket" } := by
      unfold RS.takeIn
      rw [(done_no L1.dn).1, if_neg (by decide), if_pos (.inr rfl)]
      unfold RS.close_
      rw [down_eq hj, Option.bind_some]
      dsimp only
      rw [L1.br]
      dsimp only
      rw [if_pos rfl]
    refine ⟨{ q with ops := r.ops, nodes := d :: r.nodes, brs := r.brs, stage := "bracket" }, ?_, .inl rfl, rfl, L1.co, fun _ _ => rfl⟩
    rw [List.map_cons, cls_self (by decide +kernel), List.cons_append, runP_cons hf (begin_take B.starts), e, List.map_append, List.append_assoc, List.map_cons, List.map_nil, cls_self (s := "]") (by decide +kernel), List.singleton_append, e1, runP_cons hf2 ht2]
/-- a whole condition -/
theorem run_cond {d : PyData} {ts : List Str} (h : CT 1 d ts) : ∃ r, runP (RS.start true) (ts.map cls ++ [(("end" : Str), V.non)]) = some r ∧ r.nodes = [d] := by
  obtain ⟨q, e, L⟩ := run_CT h (by decide) (by decide) (RS.start true) [(("end" : Str), V.non)] ⟨rfl, rfl, rfl, by decide, (fun s t z => by cases z), fun _ s t z => by cases z⟩
  have hj : joinDown 0 q.ops q.nodes = some ([], [d]) := by rw [L.jn 0 (by decide)]; rfl
  have hq : q.brs = [] := L.br
  have hf : q.fits "end" = true := by
    refine done_fits L.dn L.co (by rw [hq]; decide) (by decide +kernel) ?_
    rw [hq]
    decide +kernel
  have ht : q.takeIn "end" .non = some { q with ops := [], nodes := [d] } := by
    unfold RS.takeIn
    rw [(done_no L.dn).1, if_neg (by decide), if_neg (by decide +kernel), if_pos rfl, down_eq hj]
  refine ⟨{ q with ops := [], nodes := [d] }, ?_, rfl⟩
  rw [e, runP_cons hf ht]
  rfl
/-- a laid out condition, or expression, is read as its tree -/
theorem parse_layT : ∀ {b : Bool} {ps : List (Nat × Str)} (h : LayI ps) (a t : Nat) {d : PyData} (e : TT b 1 d (ps.map (·.2))), ∃ r, runR (RS.start b) (toks (sp a ++ (flat ps ++ sp t))) = some r ∧ r.nodes = [d]
  | false, ps, h, a, t, d, e => parse_lay h a t e
  | true, ps, h, a, t, d, e => by
    obtain ⟨r, h1, h2⟩ := run_cond e
    refine ⟨r, ?_, h2⟩
    rw [runR_P]
    have := toks_lay h a t
    show runP _ ((toks _).map pairT) = _
    rw [this, ← h1, List.map_map]
    rfl
end Rx

set_option Elab.async false
set_option linter.all false
set_option maxRecDepth 100000
set_option maxHeartbeats 4000000
namespace Rx
open PySem PySem.Spec PyProof.Rows L2 SX
/-! ### where a row of tokens stops fitting: the reader, and a machine driven by a table -/
inductive Sy where
  | C | J | G | K | E | T | F | Cs | Js | Es | Fs
  | and_ | mod_ | not_ | or_ | plus | minus | star | slash | lp | rp | lb | rb | eq | ne | lt | le | gt | ge | integer | name | odd | end_
deriving DecidableEq
def Sy.all : List Sy := [.C, .J, .G, .K, .E, .T, .F, .Cs, .Js, .Es, .Fs, .and_, .mod_, .not_, .or_, .plus, .minus, .star, .slash, .lp, .rp, .lb, .rb, .eq, .ne, .lt, .le, .gt, .ge, .integer, .name, .odd, .end_]
def Sy.terms : List Sy := [.and_, .mod_, .not_, .or_, .plus, .minus, .star, .slash, .lp, .rp, .lb, .rb, .eq, .ne, .lt, .le, .gt, .ge, .integer, .name, .odd, .end_]
theorem Sy.mem_all (k : Sy) : k ∈ Sy.all := by cases k <;> decide
/-- its text to the machine -/
def Sy.str : Sy → Str
  | .C => "C" | .J => "J" | .G => "G" | .K => "K" | .E => "E" | .T => "T" | .F => "F" | .Cs => "Cs" | .Js => "Js" | .Es => "Es" | .Fs => "Fs"
  | .and_ => "and" | .mod_ => "mod" | .not_ => "not" | .or_ => "or" | .plus => "+" | .minus => "-" | .star => "*" | .slash => "//" | .lp => "(" | .rp => ")" | .lb => "[" | .rb => "]"
  | .eq => "=" | .ne => "!=" | .lt => "<" | .le => "<=" | .gt => ">" | .ge => ">=" | .integer => "integer" | .name => "name" | .odd => "odd" | .end_ => "end"
/-- its sign to the reader -/
def Sy.sign : Sy → Str
  | .integer => "number" | .name => "variable" | .odd => "bad" | k => k.str
def Sy.ofStr (s : Str) : Option Sy := Sy.all.find? fun k => decide (k.str = s)
theorem Sy.of_str (k : Sy) : Sy.ofStr k.str = some k := by
  have h : ∀ k ∈ Sy.all, Sy.ofStr k.str = some k := by decide +kernel
  exact h k k.mem_all
theorem Sy.str_inj {a b : Sy} (h : a.str = b.str) : a = b := by
  have h1 := Sy.of_str a
  rw [h, Sy.of_str b] at h1
  injection h1 with h1
  exact h1.symm
/-- what the table says -/
def more : Sy → Sy → List Sy
  | .G, .not_ => [.not_, .G] | .G, .lb => [.lb, .C, .rb] | .G, .integer => [.E, .K] | .G, .name => [.E, .K] | .G, .minus => [.E, .K] | .G, .lp => [.E, .K]
  | .K, .eq => [.eq, .E] | .K, .ne => [.ne, .E] | .K, .lt => [.lt, .E] | .K, .le => [.le, .E] | .K, .gt => [.gt, .E] | .K, .ge => [.ge, .E]
  | .Es, .plus => [.plus, .T, .Es] | .Es, .minus => [.minus, .T, .Es] | .Fs, .star => [.star, .F, .Fs] | .Fs, .slash => [.slash, .F, .Fs] | .Fs, .mod_ => [.mod_, .F, .Fs]
  | .F, .integer => [.integer] | .F, .name => [.name] | .F, .minus => [.minus, .F] | .F, .lp => [.lp, .E, .rp] | .Cs, .or_ => [.or_, .J, .Cs] | .Js, .and_ => [.and_, .G, .Js]
  | .C, _ => [.J, .Cs] | .J, _ => [.G, .Js] | .E, _ => [.T, .Es] | .T, _ => [.F, .Fs]
  | _, _ => []
def nul : Sy → Bool
  | .Cs => true | .Js => true | .Es => true | .Fs => true | _ => false
inductive DR where
  | out | bad | at_ (pl : List Sy)
/-- the pile, its top first, until its top is the key -/
def downL : Nat → List Sy → Sy → DR
  | 0, _, _ => .out
  | _ + 1, [], _ => .at_ []
  | n + 1, t :: pl, k => if t = k then .at_ (t :: pl) else if more t k = [] ∧ nul t = false then .bad else downL n (more t k ++ pl) k
def stopL : List Sy → List (Sy × Nat) → Option Nat
  | _, [] => none
  | pl, (k, p) :: ks => match downL 12 pl k with
    | .at_ [] => if k = .end_ then none else some p
    | .at_ (_ :: q) => stopL q ks
    | _ => some p
theorem downL_more : ∀ (n m : Nat) (pl : List Sy) (k : Sy), n ≤ m → downL n pl k ≠ .out → downL m pl k = downL n pl k
  | 0, _, _, _, _, h => absurd rfl h
  | n + 1, 0, _, _, h, _ => by omega
  | n + 1, m + 1, [], _, _, _ => rfl
  | n + 1, m + 1, t :: pl, k, h, ho => by
    unfold downL at ho ⊢
    split
    · rfl
    · rename_i h1
      rw [if_neg h1] at ho
      split
      · rfl
      · rename_i h2
        rw [if_neg h2] at ho
        exact downL_more n m _ _ (by omega) ho
/-- a pile that does as another one does -/
def Like (sp pl : List Sy) : Prop := ∀ k ∈ Sy.terms, downL 8 sp k ≠ .out → downL 12 pl k = downL 8 sp k
theorem like_self (sp : List Sy) : Like sp sp := fun k _ h => downL_more 8 12 sp k (by decide) h
theorem like_E (r : List Sy) : Like (.F :: .Fs :: .Es :: r) (.E :: r) := fun k hk h => by
  have e : downL 10 (.E :: r) k = downL 8 (.F :: .Fs :: .Es :: r) k := by
    simp only [Sy.terms, List.mem_cons, List.not_mem_nil, or_false] at hk
    rcases hk with rfl | rfl | rfl | rfl | rfl | rfl | rfl | rfl | rfl | rfl | rfl | rfl | rfl | rfl | rfl | rfl | rfl | rfl | rfl | rfl | rfl | rfl <;> rfl
  rw [downL_more 10 12 _ k (by decide) (by rw [e]; exact h), e]
theorem like_T (r : List Sy) : Like (.F :: .Fs :: r) (.T :: r) := fun k hk h => by
  have e : downL 9 (.T :: r) k = downL 8 (.F :: .Fs :: r) k := by
    simp only [Sy.terms, List.mem_cons, List.not_mem_nil, or_false] at hk
    rcases hk with rfl | rfl | rfl | rfl | rfl | rfl | rfl | rfl | rfl | rfl | rfl | rfl | rfl | rfl | rfl | rfl | rfl | rfl | rfl | rfl | rfl | rfl <;> rfl
  rw [downL_more 9 12 _ k (by decide) (by rw [e]; exact h), e]
theorem like_C (r : List Sy) : Like (.G :: .Js :: .Cs :: r) (.C :: r) := fun k hk h => by
  have e : downL 10 (.C :: r) k = downL 8 (.G :: .Js :: .Cs :: r) k := by
    simp only [Sy.terms, List.mem_cons, List.not_mem_nil, or_false] at hk
    rcases hk with rfl | rfl | rfl | rfl | rfl | rfl | rfl | rfl | rfl | rfl | rfl | rfl | rfl | rfl | rfl | rfl | rfl | rfl | rfl | rfl | rfl | rfl <;> rfl
  rw [downL_more 10 12 _ k (by decide) (by rw [e]; exact h), e]
theorem like_J (r : List Sy) : Like (.G :: .Js :: r) (.J :: r) := fun k hk h => by
  have e : downL 9 (.J :: r) k = downL 8 (.G :: .Js :: r) k := by
    simp only [Sy.terms, List.mem_cons, List.not_mem_nil, or_false] at hk
    rcases hk with rfl | rfl | rfl | rfl | rfl | rfl | rfl | rfl | rfl | rfl | rfl | rfl | rfl | rfl | rfl | rfl | rfl | rfl | rfl | rfl | rfl | rfl <;> rfl
  rw [downL_more 9 12 _ k (by decide) (by rw [e]; exact h), e]
/-! the reader's state as a pile -/
def restC : Nat → List Sy
  | 0 => []
  | m + 1 => .rb :: .Js :: .Cs :: restC m
def restE (c cmp : Bool) (m : Nat) : Nat → List Sy
  | 0 => if c = true then (if cmp = true then .Js :: .Cs :: restC m else .K :: .Js :: .Cs :: restC m) else []
  | n + 1 => .rp :: .Fs :: .Es :: restE c cmp m n
inductive Stg where
  | cond | fac | expr | brk
deriving DecidableEq
def Stg.str : Stg → Str
  | .cond => "condition" | .fac => "factor" | .expr => "expression" | .brk => "bracket"
def specP (g : Stg) (c cmp : Bool) (m n : Nat) : List Sy := match g with
  | .cond => .G :: .Js :: .Cs :: restC m
  | .brk => .Js :: .Cs :: restC m
  | .fac => .F :: .Fs :: .Es :: restE c cmp m n
  | .expr => .Fs :: .Es :: restE c cmp m n
def binL : List Str := ["or", "and", "=", "!=", "<", "<=", ">", ">=", "+", "-", "*", "//", "mod"]
def brkL : List Str := ["(", "["]
def bins (os : List Str) : Nat := os.countP fun o => binL.contains o
def brksOf (os : List Str) : List Str := os.filter fun o => brkL.contains o
def isTup : PyData → Bool
  | .tuple _ => true
  | _ => false
/-- what the reader's state keeps to -/
structure Sound (g : Stg) (m n : Nat) (r : RS) : Prop where
  st : r.stage = g.str
  br : r.brs = List.replicate n ("(" : Str) ++ List.replicate m ("[" : Str)
  bo : r.brs = brksOf r.ops
  nd : r.nodes.length = bins r.ops + (match g with | .cond => 0 | .fac => 0 | _ => 1)
  tp : ∀ d ∈ r.nodes, isTup d = true
  op : ∀ o ∈ r.ops, o ∈ opsL
  c0 : r.cond = false → m = 0 ∧ (g = .fac ∨ g = .expr)
  c1 : g = .cond → n = 0 ∧ r.cmp = false
  c2 : g = .brk → n = 0
/-- all that is joined can be joined -/
theorem joinDown_ok {b : Int} (hb : 0 ≤ b) : ∀ (os : List Str) (ns : List PyData), (∀ o ∈ os, o ∈ opsL) → ns.length = bins os + 1 → (∀ d ∈ ns, isTup d = true) →
    ∃ os' ns', joinDown b os ns = some (os', ns') ∧ ns'.length = bins os' + 1 ∧ brksOf os' = brksOf os ∧ (∀ o ∈ os', o ∈ opsL) ∧ (∀ d ∈ ns', isTup d = true) ∧ (∀ s t, os' = s :: t → bindOf s < b)
  | [], ns, ho, hl, ht => ⟨[], ns, rfl, hl, rfl, ho, ht, fun s t h => by cases h⟩
  | o :: os, ns, ho, hl, ht => by
    have ho1 : o ∈ opsL := ho o List.mem_cons_self
    have ho2 : ∀ x ∈ os, x ∈ opsL := fun x hx => ho x (List.mem_cons_of_mem _ hx)
    by_cases h : b ≤ bindOf o
    · have kind : ∀ o ∈ opsL, (0 : Int) ≤ bindOf o → brkL.contains o = false ∧ (prefL.contains o = true ∧ binL.contains o = false ∨ prefL.contains o = false ∧ binL.contains o = true) := by decide +kernel
      obtain ⟨hk, hk2⟩ := kind o ho1 (by omega)
      have eb : brksOf (o :: os) = brksOf os := by unfold brksOf; rw [List.filter_cons, hk]; rfl
      rcases hk2 with ⟨hp, hn⟩ | ⟨hp, hn⟩
      · have en : bins (o :: os) = bins os := by unfold bins; rw [List.countP_cons, hn]; rfl
        rw [en] at hl
        cases ns with
        | nil => simp at hl
        | cons d ns =>
          obtain ⟨os', ns', h1, h2, h3, h4, h5, h6⟩ := joinDown_ok hb os (.tuple [.str o, d] :: ns) ho2 hl (fun x hx => by
            rcases List.mem_cons.mp hx with e | hx
            · rw [e]; rfl
            · exact ht x (List.mem_cons_of_mem _ hx))
          refine ⟨os', ns', ?_, h2, h3.trans eb.symm, h4, h5, h6⟩
          rw [joinDown, if_pos h]
          unfold joinOp
          rw [hp, if_pos rfl]
          exact h1
      · have en : bins (o :: os) = bins os + 1 := by unfold bins; rw [List.countP_cons, hn]; rfl
        rw [en] at hl
        match ns, hl with
        | d :: e :: ns, hl =>
          obtain ⟨os', ns', h1, h2, h3, h4, h5, h6⟩ := joinDown_ok hb os (.tuple [.str o, e, d] :: ns) ho2 (by simp only [List.length_cons] at hl ⊢; omega) (fun x hx => by
            rcases List.mem_cons.mp hx with e | hx
            · rw [e]; rfl
            · exact ht x (List.mem_cons_of_mem _ (List.mem_cons_of_mem _ hx)))
          refine ⟨os', ns', ?_, h2, h3.trans eb.symm, h4, h5, h6⟩
          rw [joinDown, if_pos h]
          unfold joinOp
          rw [hp, if_neg (by decide)]
          exact h1
        | [d], hl => simp at hl
        | [], hl => simp at hl
    · refine ⟨o :: os, ns, ?_, hl, rfl, ho, ht, fun s t e => ?_⟩
      · rw [joinDown, if_neg h]
      · injection e with e _
        rw [← e]
        omega
end Rx

set_option Elab.async false
set_option linter.all false
set_option maxRecDepth 100000
set_option maxHeartbeats 4000000
namespace Rx
open PySem PySem.Spec PyProof.Rows L2 SX
def fitsB (st : Str) (c cmp : Bool) (hd : Option Str) (s : Str) : Bool :=
  if (decide (st = "condition") || decide (st = "factor")) = true then (begL.contains s || (decide (st = "condition") && notL.contains s))
  else if (decide (st = "expression") && arithL.contains s) = true then true
  else if hd = some ("(" : Str) then decide (s = ")")
  else if c = false then decide (s = "end")
  else if (decide (st = "expression") && !cmp) = true then compL.contains s
  else if hd = some ("[" : Str) then (["and", "or", "]"] : List Str).contains s
  else (["and", "or", "end"] : List Str).contains s
theorem fits_B (r : RS) (s : Str) : r.fits s = fitsB r.stage r.cond r.cmp r.brs.head? s := by
  unfold RS.fits RS.starts RS.mayBegin RS.mayFollow fitsB
  rfl
def hdB (mm nn : Bool) : Option Str := if nn = true then some "(" else if mm = true then some "[" else none
def okB (g : Stg) (c cmp mm nn : Bool) (k : Sy) : Bool := match g with
  | .cond => [Sy.integer, .name, .minus, .lp, .not_, .lb].contains k
  | .fac => [Sy.integer, .name, .minus, .lp].contains k
  | .expr => if [Sy.plus, .minus, .star, .slash, .mod_].contains k then true else if nn then decide (k = .rp) else if !c then decide (k = .end_) else if !cmp then [Sy.eq, .ne, .lt, .le, .gt, .ge].contains k
    else if mm then [Sy.and_, .or_, .rb].contains k else [Sy.and_, .or_, .end_].contains k
  | .brk => if mm then [Sy.and_, .or_, .rb].contains k else [Sy.and_, .or_, .end_].contains k
theorem fits_ok : ∀ k ∈ Sy.terms, ∀ c cmp mm nn : Bool, fitsB Stg.cond.str c cmp (hdB mm nn) k.sign = okB .cond c cmp mm nn k ∧ fitsB Stg.fac.str c cmp (hdB mm nn) k.sign = okB .fac c cmp mm nn k ∧
    fitsB Stg.expr.str c cmp (hdB mm nn) k.sign = okB .expr c cmp mm nn k ∧ fitsB Stg.brk.str true cmp (hdB mm false) k.sign = okB .brk true cmp mm false k := by decide +kernel
theorem hd_rep (n m : Nat) : (List.replicate n ("(" : Str) ++ List.replicate m ("[" : Str)).head? = hdB (decide (0 < m)) (decide (0 < n)) := by
  cases n with
  | zero => cases m <;> rfl
  | succ n => rfl
theorem Sound.fits {g : Stg} {m n : Nat} {r : RS} (S : Sound g m n r) {k : Sy} (hk : k ∈ Sy.terms) : r.fits k.sign = okB g r.cond r.cmp (decide (0 < m)) (decide (0 < n)) k := by
  have h := fits_ok k hk r.cond r.cmp (decide (0 < m)) (decide (0 < n))
  rw [fits_B, S.st, S.br, hd_rep]
  cases g with
  | cond => exact h.1
  | fac => exact h.2.1
  | expr => exact h.2.2.1
  | brk =>
    have hn := S.c2 rfl
    subst hn
    have hc : r.cond = true := by
      cases e : r.cond with
      | true => rfl
      | false => rcases (S.c0 e).2 with z | z <;> cases z
    have h2 := (fits_ok k hk true r.cmp (decide (0 < m)) false).2.2.2
    rw [hc]
    exact h2
theorem no_fit {g : Stg} {c cmp : Bool} {m n : Nat} {k : Sy} (hk : k ∈ Sy.terms) (h : okB g c cmp (decide (0 < m)) (decide (0 < n)) k = false) : downL 8 (specP g c cmp m n) k = .bad ∨ (downL 8 (specP g c cmp m n) k = .at_ [] ∧ k ≠ .end_) := by
  simp only [Sy.terms, List.mem_cons, List.not_mem_nil, or_false] at hk
  cases g with
  | cond => cases m <;> rcases hk with rfl | rfl | rfl | rfl | rfl | rfl | rfl | rfl | rfl | rfl | rfl | rfl | rfl | rfl | rfl | rfl | rfl | rfl | rfl | rfl | rfl | rfl <;> first | exact .inl rfl | exact .inr ⟨rfl, by decide⟩ | exact absurd h (by simp [okB])
  | fac => rcases hk with rfl | rfl | rfl | rfl | rfl | rfl | rfl | rfl | rfl | rfl | rfl | rfl | rfl | rfl | rfl | rfl | rfl | rfl | rfl | rfl | rfl | rfl <;> first | exact .inl rfl | exact .inr ⟨rfl, by decide⟩ | exact absurd h (by simp [okB])
  | brk => cases m <;> rcases hk with rfl | rfl | rfl | rfl | rfl | rfl | rfl | rfl | rfl | rfl | rfl | rfl | rfl | rfl | rfl | rfl | rfl | rfl | rfl | rfl | rfl | rfl <;> first | exact .inl rfl | exact .inr ⟨rfl, by decide⟩ | exact absurd h (by simp [okB])
  | expr =>
    cases n with
    | succ n => rcases hk with rfl | rfl | rfl | rfl | rfl | rfl | rfl | rfl | rfl | rfl | rfl | rfl | rfl | rfl | rfl | rfl | rfl | rfl | rfl | rfl | rfl | rfl <;> first | exact .inl rfl | exact .inr ⟨rfl, by decide⟩ | exact absurd h (by simp [okB])
    | zero =>
      cases c with
      | false => rcases hk with rfl | rfl | rfl | rfl | rfl | rfl | rfl | rfl | rfl | rfl | rfl | rfl | rfl | rfl | rfl | rfl | rfl | rfl | rfl | rfl | rfl | rfl <;> first | exact .inl rfl | exact .inr ⟨rfl, by decide⟩ | exact absurd h (by simp [okB])
      | true =>
        cases cmp with
        | false => rcases hk with rfl | rfl | rfl | rfl | rfl | rfl | rfl | rfl | rfl | rfl | rfl | rfl | rfl | rfl | rfl | rfl | rfl | rfl | rfl | rfl | rfl | rfl <;> first | exact .inl rfl | exact .inr ⟨rfl, by decide⟩ | exact absurd h (by simp [okB])
        | true => cases m <;> rcases hk with rfl | rfl | rfl | rfl | rfl | rfl | rfl | rfl | rfl | rfl | rfl | rfl | rfl | rfl | rfl | rfl | rfl | rfl | rfl | rfl | rfl | rfl <;> first | exact .inl rfl | exact .inr ⟨rfl, by decide⟩ | exact absurd h (by simp [okB])
/-! the reader goes on -/
theorem bins_skip {o : Str} {os : List Str} (h : binL.contains o = false) : bins (o :: os) = bins os := by unfold bins; rw [List.countP_cons, h]; rfl
theorem bins_one {o : Str} {os : List Str} (h : binL.contains o = true) : bins (o :: os) = bins os + 1 := by unfold bins; rw [List.countP_cons, h]; rfl
theorem brks_skip {o : Str} {os : List Str} (h : brkL.contains o = false) : brksOf (o :: os) = brksOf os := by unfold brksOf; rw [List.filter_cons, h]; rfl
theorem brks_one {o : Str} {os : List Str} (h : brkL.contains o = true) : brksOf (o :: os) = o :: brksOf os := by unfold brksOf; rw [List.filter_cons, h]; rfl
def Stg.beg : Stg → Bool
  | .cond => true | .fac => true | _ => false
theorem beg_str : ∀ g ∈ [Stg.cond, .fac, .expr, .brk], (decide (g.str = ("condition" : Str)) || decide (g.str = ("factor" : Str))) = g.beg := by decide +kernel
theorem Sound.starts {g : Stg} {m n : Nat} {r : RS} (S : Sound g m n r) : r.starts = g.beg := by
  unfold RS.starts
  rw [S.st]
  exact beg_str g (by cases g <;> decide)
/-- what one token does -/
structure Goes (g : Stg) (m n : Nat) (r : RS) (k : Sy) (v : V) (q : RS) : Prop where
  tk : r.takeIn k.sign v = some q
  to_ : ∃ g' m' n' pl', Sound g' m' n' q ∧ downL 8 (specP g r.cond r.cmp m n) k = .at_ (k :: pl') ∧ Like (specP g' q.cond q.cmp m' n') pl'
section
variable {g : Stg} {m n : Nat} {r : RS}
theorem opCons {o : Str} {os : List Str} (ho : o ∈ opsL) (h : ∀ x ∈ os, x ∈ opsL) : ∀ x ∈ o :: os, x ∈ opsL := fun x hx => by
  rcases List.mem_cons.mp hx with e | hx
  · rw [e]; exact ho
  · exact h x hx
theorem go_leaf (S : Sound g m n r) (hg : g = .cond ∨ g = .fac) {k : Sy} (hk : k = .integer ∨ k = .name) (v : V) : ∃ q, Goes g m n r k v q := by
  have hs : r.starts = true := by rw [S.starts]; rcases hg with rfl | rfl <;> rfl
  have hsg : k.sign = "number" ∨ k.sign = "variable" := by rcases hk with rfl | rfl; exact .inl rfl; exact .inr rfl
  have e : r.begin_ k.sign v = { r with nodes := .tuple [.str k.sign, dOf v] :: r.nodes, stage := "expression" } := by unfold RS.begin_; rw [if_pos hsg]
  refine ⟨_, by rw [begin_take hs, e], .expr, m, n, ?_⟩
  have S' : Sound .expr m n { r with nodes := .tuple [.str k.sign, dOf v] :: r.nodes, stage := "expression" } := by
    refine ⟨rfl, S.br, S.bo, ?_, ?_, S.op, fun z => ⟨(S.c0 z).1, .inr rfl⟩, (fun z => by cases z), fun z => by cases z⟩
    · have := S.nd
      rcases hg with rfl | rfl <;> simp only [List.length_cons] at this ⊢ <;> omega
    · intro d hd
      rcases List.mem_cons.mp hd with e | hd
      · rw [e]; rfl
      · exact S.tp d hd
  rcases hg with rfl | rfl
  · obtain ⟨hn, hc⟩ := S.c1 rfl
    subst hn
    have hcc : r.cond = true := by
      cases e : r.cond with
      | true => rfl
      | false => rcases (S.c0 e).2 with z | z <;> cases z
    refine ⟨.Fs :: .Es :: .K :: .Js :: .Cs :: restC m, S', ?_, ?_⟩
    · rcases hk with rfl | rfl <;> rfl
    · have := like_self (.Fs :: .Es :: .K :: .Js :: .Cs :: restC m)
      show Like (specP .expr r.cond r.cmp m 0) _
      rw [hc, hcc]
      exact this
  · refine ⟨.Fs :: .Es :: restE r.cond r.cmp m n, S', ?_, like_self _⟩
    rcases hk with rfl | rfl <;> rfl
theorem go_minus (S : Sound g m n r) (hg : g = .cond ∨ g = .fac) (v : V) : ∃ q, Goes g m n r .minus v q := by
  have hs : r.starts = true := by rw [S.starts]; rcases hg with rfl | rfl <;> rfl
  have e : r.begin_ "-" v = { r with ops := "negate" :: r.ops, stage := "factor" } := by unfold RS.begin_; rw [if_neg (by decide +kernel), if_pos rfl]
  refine ⟨_, (begin_take hs).trans (congrArg some e), .fac, m, n, ?_⟩
  have S' : Sound .fac m n { r with ops := "negate" :: r.ops, stage := "factor" } := by
    refine ⟨rfl, S.br, S.bo.trans (brks_skip (by decide +kernel)).symm, ?_, S.tp, opCons (by decide +kernel) S.op, fun z => ⟨(S.c0 z).1, .inl rfl⟩, (fun z => by cases z), fun z => by cases z⟩
    show r.nodes.length = bins (("negate" : Str) :: r.ops) + 0
    rw [bins_skip (by decide +kernel), S.nd]
    rcases hg with rfl | rfl <;> rfl
  rcases hg with rfl | rfl
  · obtain ⟨hn, hc⟩ := S.c1 rfl
    subst hn
    have hcc : r.cond = true := by
      cases e : r.cond with
      | true => rfl
      | false => rcases (S.c0 e).2 with z | z <;> cases z
    refine ⟨.F :: .Fs :: .Es :: .K :: .Js :: .Cs :: restC m, S', rfl, ?_⟩
    have := like_self (.F :: .Fs :: .Es :: .K :: .Js :: .Cs :: restC m)
    show Like (specP .fac r.cond r.cmp m 0) _
    rw [hc, hcc]
    exact this
  · exact ⟨.F :: .Fs :: .Es :: restE r.cond r.cmp m n, S', rfl, like_self _⟩
theorem go_lp (S : Sound g m n r) (hg : g = .cond ∨ g = .fac) (v : V) : ∃ q, Goes g m n r .lp v q := by
  have hs : r.starts = true := by rw [S.starts]; rcases hg with rfl | rfl <;> rfl
  have e : r.begin_ "(" v = { r with ops := "(" :: r.ops, brs := "(" :: r.brs, stage := "factor" } := by unfold RS.begin_; rw [if_neg (by decide +kernel), if_neg (by decide +kernel), if_pos rfl]
  refine ⟨_, (begin_take hs).trans (congrArg some e), .fac, m, n + 1, ?_⟩
  have S' : Sound .fac m (n + 1) { r with ops := "(" :: r.ops, brs := "(" :: r.brs, stage := "factor" } := by
    refine ⟨rfl, ?_, ?_, ?_, S.tp, opCons (by decide +kernel) S.op, fun z => ⟨(S.c0 z).1, .inl rfl⟩, (fun z => by cases z), fun z => by cases z⟩
    · show ("(" : Str) :: r.brs = _
      rw [S.br]; rfl
    · show ("(" : Str) :: r.brs = _
      rw [brks_one (by decide +kernel), S.bo]
    · show r.nodes.length = bins (("(" : Str) :: r.ops) + 0
      rw [bins_skip (by decide +kernel), S.nd]
      rcases hg with rfl | rfl <;> rfl
  rcases hg with rfl | rfl
  · obtain ⟨hn, hc⟩ := S.c1 rfl
    subst hn
    have hcc : r.cond = true := by
      cases e : r.cond with
      | true => rfl
      | false => rcases (S.c0 e).2 with z | z <;> cases z
    refine ⟨.E :: .rp :: .Fs :: .Es :: .K :: .Js :: .Cs :: restC m, S', rfl, ?_⟩
    have := like_E (.rp :: .Fs :: .Es :: .K :: .Js :: .Cs :: restC m)
    show Like (specP .fac r.cond r.cmp m 1) _
    rw [hc, hcc]
    exact this
  · exact ⟨.E :: .rp :: .Fs :: .Es :: restE r.cond r.cmp m n, S', rfl, like_E _⟩
theorem go_not (S : Sound .cond m n r) (v : V) : ∃ q, Goes .cond m n r .not_ v q := by
  have hs : r.starts = true := S.starts
  have e : r.begin_ "not" v = { r with ops := "not" :: r.ops } := by
    unfold RS.begin_
    rw [if_neg (by decide +kernel), if_neg (by decide +kernel), if_neg (by decide +kernel), if_neg (by decide +kernel)]
  refine ⟨_, (begin_take hs).trans (congrArg some e), .cond, m, n, .G :: .Js :: .Cs :: restC m, ?_, rfl, like_self _⟩
  refine ⟨S.st, S.br, S.bo.trans (brks_skip (by decide +kernel)).symm, ?_, S.tp, opCons (by decide +kernel) S.op, S.c0, S.c1, fun z => by cases z⟩
  show r.nodes.length = bins (("not" : Str) :: r.ops) + 0
  rw [bins_skip (by decide +kernel), S.nd]
theorem go_lb (S : Sound .cond m n r) (v : V) : ∃ q, Goes .cond m n r .lb v q := by
  have hs : r.starts = true := S.starts
  have e : r.begin_ "[" v = { r with ops := "[" :: r.ops, brs := "[" :: r.brs } := by
    unfold RS.begin_
    rw [if_neg (by decide +kernel), if_neg (by decide +kernel), if_neg (by decide +kernel), if_pos rfl]
  obtain ⟨hn, hc⟩ := S.c1 rfl
  subst hn
  refine ⟨_, (begin_take hs).trans (congrArg some e), .cond, m + 1, 0, .C :: .rb :: .Js :: .Cs :: restC m, ?_, rfl, like_C _⟩
  refine ⟨S.st, ?_, ?_, ?_, S.tp, opCons (by decide +kernel) S.op, (fun z => ?_), (fun _ => ⟨rfl, hc⟩), fun z => by cases z⟩
  · show ("[" : Str) :: r.brs = _
    rw [S.br]; rfl
  · show ("[" : Str) :: r.brs = _
    rw [brks_one (by decide +kernel), S.bo]
  · show r.nodes.length = bins (("[" : Str) :: r.ops) + 0
    rw [bins_skip (by decide +kernel), S.nd]
  · rcases (S.c0 z).2 with z | z <;> cases z
theorem go_arith (S : Sound .expr m n r) {k : Sy} (hk : k ∈ [Sy.plus, .minus, .star, .slash, .mod_]) (v : V) : ∃ q, Goes .expr m n r k v q := by
  have h0 : ∀ k ∈ [Sy.plus, .minus, .star, .slash, .mod_], k.sign ∈ arithL ∧ (0 : Int) ≤ bindOf k.sign ∧ binL.contains k.sign = true ∧ brkL.contains k.sign = false ∧ k.sign ∈ opsL := by decide +kernel
  obtain ⟨a1, a2, a3, a4, a5⟩ := h0 k hk
  obtain ⟨os', ns', h1, h2, h3, h4, h5, h6⟩ := joinDown_ok a2 r.ops r.nodes S.op S.nd S.tp
  obtain ⟨_, ht⟩ := mid_take S.st a1 h1
  refine ⟨_, ht v, .fac, m, n, ?_⟩
  have S' : Sound .fac m n { r with ops := k.sign :: os', nodes := ns', stage := "factor" } := by
    refine ⟨rfl, S.br, ?_, ?_, h5, opCons a5 h4, fun z => ⟨(S.c0 z).1, .inl rfl⟩, (fun z => by cases z), fun z => by cases z⟩
    · show r.brs = brksOf (k.sign :: os')
      rw [brks_skip a4, h3, S.bo]
    · show ns'.length = bins (k.sign :: os') + 0
      rw [bins_one a3, h2]
  simp only [List.mem_cons, List.not_mem_nil, or_false] at hk
  rcases hk with rfl | rfl | rfl | rfl | rfl
  · exact ⟨.T :: .Es :: restE r.cond r.cmp m n, S', rfl, like_T _⟩
  · exact ⟨.T :: .Es :: restE r.cond r.cmp m n, S', rfl, like_T _⟩
  · exact ⟨.F :: .Fs :: .Es :: restE r.cond r.cmp m n, S', rfl, like_self _⟩
  · exact ⟨.F :: .Fs :: .Es :: restE r.cond r.cmp m n, S', rfl, like_self _⟩
  · exact ⟨.F :: .Fs :: .Es :: restE r.cond r.cmp m n, S', rfl, like_self _⟩
theorem go_cmp (S : Sound .expr m 0 r) (hc : r.cond = true) (hm : r.cmp = false) {k : Sy} (hk : k ∈ [Sy.eq, .ne, .lt, .le, .gt, .ge]) (v : V) : ∃ q, Goes .expr m 0 r k v q := by
  have h0 : ∀ k ∈ [Sy.eq, .ne, .lt, .le, .gt, .ge], k.sign ∈ compL ∧ binL.contains k.sign = true ∧ brkL.contains k.sign = false ∧ k.sign ∈ opsL := by decide +kernel
  obtain ⟨a1, a3, a4, a5⟩ := h0 k hk
  obtain ⟨os', ns', h1, h2, h3, h4, h5, h6⟩ := joinDown_ok (b := 4) (by decide) r.ops r.nodes S.op S.nd S.tp
  have hb : r.brs.head? ≠ some ("(" : Str) := by
    rw [S.br, hd_rep]
    have h : ∀ b : Bool, hdB b false ≠ some ("(" : Str) := by decide +kernel
    exact h _
  obtain ⟨_, ht⟩ := cmp_step S.st hm hc hb a1 h1
  refine ⟨_, ht v, .fac, m, 0, .E :: .Js :: .Cs :: restC m, ?_, ?_, ?_⟩
  · refine ⟨rfl, S.br, ?_, ?_, h5, opCons a5 h4, fun z => ⟨(S.c0 z).1, .inl rfl⟩, (fun z => by cases z), fun z => by cases z⟩
    · show r.brs = brksOf (k.sign :: os')
      rw [brks_skip a4, h3, S.bo]
    · show ns'.length = bins (k.sign :: os') + 0
      rw [bins_one a3, h2]
  · rw [hc, hm]
    simp only [List.mem_cons, List.not_mem_nil, or_false] at hk
    rcases hk with rfl | rfl | rfl | rfl | rfl | rfl <;> rfl
  · show Like (specP .fac r.cond true m 0) _
    rw [hc]
    exact like_E _
theorem done_of (S : Sound g m 0 r) (hg : g = .brk ∨ (g = .expr ∧ r.cmp = true)) : DoneC r := by
  rcases hg with rfl | ⟨rfl, h⟩
  · exact .inl S.st
  · exact .inr ⟨S.st, h⟩
theorem nd_done (S : Sound g m n r) (hg : g = .brk ∨ g = .expr) : r.nodes.length = bins r.ops + 1 := by
  have := S.nd
  rcases hg with rfl | rfl <;> exact this
theorem go_log (S : Sound g m 0 r) (hc : r.cond = true) (hg : g = .brk ∨ (g = .expr ∧ r.cmp = true)) {k : Sy} (hk : k = .and_ ∨ k = .or_) (v : V) : ∃ q, Goes g m 0 r k v q := by
  have h0 : ∀ k ∈ [Sy.and_, .or_], k.sign ∈ logL ∧ (0 : Int) ≤ bindOf k.sign ∧ binL.contains k.sign = true ∧ brkL.contains k.sign = false ∧ k.sign ∈ opsL := by decide +kernel
  obtain ⟨a1, a2, a3, a4, a5⟩ := h0 k (by rcases hk with rfl | rfl <;> decide)
  obtain ⟨os', ns', h1, h2, h3, h4, h5, h6⟩ := joinDown_ok a2 r.ops r.nodes S.op (nd_done S (hg.imp id fun h => h.1)) S.tp
  refine ⟨_, log_take (done_of S hg) a1 h1 v, .cond, m, 0, ?_⟩
  have S' : Sound .cond m 0 { r with ops := k.sign :: os', nodes := ns', stage := "condition", cmp := false } := by
    refine ⟨rfl, S.br, ?_, ?_, h5, opCons a5 h4, (fun z => ?_), (fun _ => ⟨rfl, rfl⟩), fun z => by cases z⟩
    · show r.brs = brksOf (k.sign :: os')
      rw [brks_skip a4, h3, S.bo]
    · show ns'.length = bins (k.sign :: os') + 0
      rw [bins_one a3, h2]
    · have z' : r.cond = false := z
      rw [hc] at z'
      cases z'
  rcases hk with rfl | rfl
  · refine ⟨.G :: .Js :: .Cs :: restC m, S', ?_, like_self _⟩
    rcases hg with rfl | ⟨rfl, h⟩
    · rfl
    · rw [hc, h]; rfl
  · refine ⟨.J :: .Cs :: restC m, S', ?_, like_J _⟩
    rcases hg with rfl | ⟨rfl, h⟩
    · rfl
    · rw [hc, h]; rfl
/-- the innermost bracket is closed -/
theorem close_ok (S : Sound g m n r) (hg : g = .brk ∨ g = .expr) {b : Str} {bs : List Str} (hb : r.brs = b :: bs) {s : Str} (hs : s = ")" ∨ s = "]") (v : V) :
    ∃ os ns, r.takeIn s v = some { r with ops := os, nodes := ns, brs := bs, stage := if s = "]" then "bracket" else "expression" } ∧ ns.length = bins os + 1 ∧ bs = brksOf os ∧ (∀ o ∈ os, o ∈ opsL) ∧ (∀ d ∈ ns, isTup d = true) := by
  have hst : r.starts = false := by rw [S.starts]; rcases hg with rfl | rfl <;> rfl
  obtain ⟨os', ns', h1, h2, h3, h4, h5, h6⟩ := joinDown_ok (b := 0) (by decide) r.ops r.nodes S.op (nd_done S hg) S.tp
  have h7 : brksOf os' = b :: bs := by rw [h3, ← S.bo, hb]
  cases os' with
  | nil => cases h7
  | cons o t =>
    have kind : ∀ o ∈ opsL, bindOf o < 0 → brkL.contains o = true ∧ binL.contains o = false := by decide +kernel
    obtain ⟨k1, k2⟩ := kind o (h4 o List.mem_cons_self) (h6 o t rfl)
    rw [brks_one k1] at h7
    injection h7 with h7 h8
    refine ⟨t, ns', ?_, by rw [← bins_skip k2]; exact h2, h8.symm, fun x hx => h4 x (List.mem_cons_of_mem _ hx), h5⟩
    unfold RS.takeIn
    rw [hst, if_neg (by decide), if_pos hs]
    unfold RS.close_
    rw [down_eq h1, Option.bind_some]
    dsimp only
    rw [hb]
theorem go_rp (S : Sound .expr m (n + 1) r) (v : V) : ∃ q, Goes .expr m (n + 1) r .rp v q := by
  obtain ⟨os, ns, h1, h2, h3, h4, h5⟩ := close_ok S (.inr rfl) (b := "(") (bs := List.replicate n ("(" : Str) ++ List.replicate m ("[" : Str)) (by rw [S.br]; rfl) (.inl rfl) v
  rw [if_neg (by decide +kernel)] at h1
  exact ⟨_, h1, .expr, m, n, .Fs :: .Es :: restE r.cond r.cmp m n, ⟨rfl, rfl, h3, h2, h5, h4, (fun z => ⟨(S.c0 z).1, .inr rfl⟩), (fun z => by cases z), fun z => by cases z⟩, rfl, like_self _⟩
theorem go_rb (S : Sound g (m + 1) 0 r) (hc : r.cond = true) (hg : g = .brk ∨ (g = .expr ∧ r.cmp = true)) (v : V) : ∃ q, Goes g (m + 1) 0 r .rb v q := by
  obtain ⟨os, ns, h1, h2, h3, h4, h5⟩ := close_ok S (hg.imp id fun h => h.1) (b := "[") (bs := List.replicate m ("[" : Str)) (by rw [S.br]; rfl) (.inr rfl) v
  rw [if_pos rfl] at h1
  refine ⟨_, h1, .brk, m, 0, .Js :: .Cs :: restC m, ⟨rfl, rfl, h3, h2, h5, h4, (fun z => ?_), (fun z => by cases z), fun _ => rfl⟩, ?_, like_self _⟩
  · have z' : r.cond = false := z
    rw [hc] at z'
    cases z'
  · rcases hg with rfl | ⟨rfl, h⟩
    · rfl
    · rw [hc, h]; rfl
theorem go_end (S : Sound g 0 0 r) (hg : g = .brk ∨ (g = .expr ∧ (r.cond = false ∨ r.cmp = true))) (v : V) : ∃ q d, r.takeIn "end" v = some q ∧ q.nodes = [d] ∧ isTup d = true ∧ downL 8 (specP g r.cond r.cmp 0 0) .end_ = .at_ [] := by
  have hg' : g = .brk ∨ g = .expr := hg.imp id fun h => h.1
  have hst : r.starts = false := by rw [S.starts]; rcases hg' with rfl | rfl <;> rfl
  obtain ⟨os', ns', h1, h2, h3, h4, h5, h6⟩ := joinDown_ok (b := 0) (by decide) r.ops r.nodes S.op (nd_done S hg') S.tp
  have h7 : brksOf os' = [] := by rw [h3, ← S.bo, S.br]; rfl
  have h8 : os' = [] := by
    cases os' with
    | nil => rfl
    | cons o t =>
      have kind : ∀ o ∈ opsL, bindOf o < 0 → brkL.contains o = true := by decide +kernel
      rw [brks_one (kind o (h4 o List.mem_cons_self) (h6 o t rfl))] at h7
      cases h7
  subst h8
  match ns', h2, h5, h1 with
  | [d], _, h5, h1 =>
    refine ⟨{ r with ops := [], nodes := [d] }, d, ?_, rfl, h5 d (by simp), ?_⟩
    · unfold RS.takeIn
      rw [hst, if_neg (by decide), if_neg (by decide +kernel), if_pos rfl, down_eq h1]
    · rcases hg with rfl | ⟨rfl, h | h⟩
      · rfl
      · rw [h]; rfl
      · cases e : r.cond with
        | false => rfl
        | true => rw [h]; rfl
end
theorem Sound.cond {g : Stg} {m n : Nat} {r : RS} (S : Sound g m n r) (h : g = .cond ∨ g = .brk) : r.cond = true := by
  cases e : r.cond with
  | true => rfl
  | false => rcases (S.c0 e).2 with z | z <;> subst z <;> rcases h with h | h <;> cases h
/-- a token that fits is taken in; the machine takes it too -/
theorem fit_goes {g : Stg} {m n : Nat} {r : RS} (S : Sound g m n r) {k : Sy} (hk : k ∈ Sy.terms) (h : r.fits k.sign = true) (v : V) :
    (k ≠ .end_ ∧ ∃ q, Goes g m n r k v q) ∨ (k = .end_ ∧ ∃ q d, r.takeIn "end" v = some q ∧ q.nodes = [d] ∧ isTup d = true ∧ downL 8 (specP g r.cond r.cmp m n) .end_ = .at_ []) := by
  rw [S.fits hk] at h
  cases g with
  | cond =>
    simp only [okB, List.contains_eq_mem, List.mem_cons, List.not_mem_nil, or_false, decide_eq_true_eq] at h
    rcases h with rfl | rfl | rfl | rfl | rfl | rfl
    · exact .inl ⟨by decide, go_leaf S (.inl rfl) (.inl rfl) v⟩
    · exact .inl ⟨by decide, go_leaf S (.inl rfl) (.inr rfl) v⟩
    · exact .inl ⟨by decide, go_minus S (.inl rfl) v⟩
    · exact .inl ⟨by decide, go_lp S (.inl rfl) v⟩
    · exact .inl ⟨by decide, go_not S v⟩
    · exact .inl ⟨by decide, go_lb S v⟩
  | fac =>
    simp only [okB, List.contains_eq_mem, List.mem_cons, List.not_mem_nil, or_false, decide_eq_true_eq] at h
    rcases h with rfl | rfl | rfl | rfl
    · exact .inl ⟨by decide, go_leaf S (.inr rfl) (.inl rfl) v⟩
    · exact .inl ⟨by decide, go_leaf S (.inr rfl) (.inr rfl) v⟩
    · exact .inl ⟨by decide, go_minus S (.inr rfl) v⟩
    · exact .inl ⟨by decide, go_lp S (.inr rfl) v⟩
  | brk =>
    have hn := S.c2 rfl
    subst hn
    have hc := S.cond (.inr rfl)
    cases m with
    | zero =>
      have h' : [Sy.and_, .or_, .end_].contains k = true := h
      simp only [List.contains_eq_mem, List.mem_cons, List.not_mem_nil, or_false, decide_eq_true_eq] at h'
      rcases h' with rfl | rfl | rfl
      · exact .inl ⟨by decide, go_log S hc (.inl rfl) (.inl rfl) v⟩
      · exact .inl ⟨by decide, go_log S hc (.inl rfl) (.inr rfl) v⟩
      · exact .inr ⟨rfl, go_end S (.inl rfl) v⟩
    | succ m =>
      have h' : [Sy.and_, .or_, .rb].contains k = true := h
      simp only [List.contains_eq_mem, List.mem_cons, List.not_mem_nil, or_false, decide_eq_true_eq] at h'
      rcases h' with rfl | rfl | rfl
      · exact .inl ⟨by decide, go_log S hc (.inl rfl) (.inl rfl) v⟩
      · exact .inl ⟨by decide, go_log S hc (.inl rfl) (.inr rfl) v⟩
      · exact .inl ⟨by decide, go_rb S hc (.inl rfl) v⟩
  | expr =>
    unfold okB at h
    dsimp only at h
    split at h
    · rename_i ha
      have hm : k ∈ [Sy.plus, .minus, .star, .slash, .mod_] := List.contains_iff_mem.mp ha
      exact .inl ⟨(by rintro rfl; revert hm; decide), go_arith S hm v⟩
    · cases n with
      | succ n =>
        have h' : decide (k = Sy.rp) = true := h
        have e : k = .rp := of_decide_eq_true h'
        subst e
        exact .inl ⟨by decide, go_rp S v⟩
      | zero =>
        cases hc : r.cond with
        | false =>
          rw [hc] at h
          have h' : decide (k = Sy.end_) = true := h
          have e : k = .end_ := of_decide_eq_true h'
          subst e
          have hm := (S.c0 hc).1
          subst hm
          have := go_end S (.inr ⟨rfl, .inl hc⟩) v
          rw [hc] at this
          exact .inr ⟨rfl, this⟩
        | true =>
          cases hm : r.cmp with
          | false =>
            rw [hc, hm] at h
            have h' : [Sy.eq, .ne, .lt, .le, .gt, .ge].contains k = true := h
            have hmem := List.contains_iff_mem.mp h'
            exact .inl ⟨(by rintro rfl; revert hmem; decide), go_cmp S hc hm hmem v⟩
          | true =>
            rw [hc, hm] at h
            cases m with
            | zero =>
              have h' : [Sy.and_, .or_, .end_].contains k = true := h
              simp only [List.contains_eq_mem, List.mem_cons, List.not_mem_nil, or_false, decide_eq_true_eq] at h'
              rcases h' with rfl | rfl | rfl
              · exact .inl ⟨by decide, go_log S hc (.inr ⟨rfl, hm⟩) (.inl rfl) v⟩
              · exact .inl ⟨by decide, go_log S hc (.inr ⟨rfl, hm⟩) (.inr rfl) v⟩
              · have := go_end S (.inr ⟨rfl, .inr hm⟩) v
                rw [hc, hm] at this
                exact .inr ⟨rfl, this⟩
            | succ m =>
              have h' : [Sy.and_, .or_, .rb].contains k = true := h
              simp only [List.contains_eq_mem, List.mem_cons, List.not_mem_nil, or_false, decide_eq_true_eq] at h'
              rcases h' with rfl | rfl | rfl
              · exact .inl ⟨by decide, go_log S hc (.inr ⟨rfl, hm⟩) (.inl rfl) v⟩
              · exact .inl ⟨by decide, go_log S hc (.inr ⟨rfl, hm⟩) (.inr rfl) v⟩
              · exact .inl ⟨by decide, go_rb S hc (.inr ⟨rfl, hm⟩) v⟩
/-- where the reader stops -/
def stopR : RS → List (Str × V × Nat) → Option Nat
  | _, [] => none
  | r, t :: ts => if r.fits t.1 = true then (match r.takeIn t.1 t.2.1 with
    | some q => stopR q ts
    | none => none) else some t.2.2
/-- tokens and the machine's keys for them -/
inductive Keys : List (Str × V × Nat) → List (Sy × Nat) → Prop where
  | end_ {v : V} {p : Nat} : Keys [("end", v, p)] [(.end_, p)]
  | cons {k : Sy} {v : V} {p : Nat} {ts : List (Str × V × Nat)} {ks : List (Sy × Nat)} : k ∈ Sy.terms → k ≠ .end_ → Keys ts ks → Keys ((k.sign, v, p) :: ts) ((k, p) :: ks)
theorem stops {ts : List (Str × V × Nat)} {ks : List (Sy × Nat)} (h : Keys ts ks) : ∀ {g : Stg} {m n : Nat} {r : RS} {pl : List Sy}, Sound g m n r → Like (specP g r.cond r.cmp m n) pl →
    stopR r ts = stopL pl ks ∧ (stopR r ts = none → ∃ q d, runR r ts = some q ∧ q.nodes = [d] ∧ isTup d = true) := by
  have out : ∀ {l : List Sy} {x : List Sy} {k : Sy}, downL 8 l k = .at_ x → downL 8 l k ≠ .out := fun e z => by rw [e] at z; cases z
  have outb : ∀ {l : List Sy} {k : Sy}, downL 8 l k = .bad → downL 8 l k ≠ .out := fun e z => by rw [e] at z; cases z
  induction h with
  | @end_ v p =>
    intro g m n r pl S L
    have hk : Sy.end_ ∈ Sy.terms := by decide
    cases hf : r.fits "end" with
    | true =>
      rcases fit_goes S hk hf v with ⟨z, _⟩ | ⟨_, q, d, h1, h2, h3, h4⟩
      · exact absurd rfl z
      · refine ⟨?_, fun _ => ⟨q, d, ?_, h2, h3⟩⟩
        · unfold stopR stopL
          dsimp only
          rw [hf, if_pos rfl, h1, L _ hk (out h4), h4]
          rfl
        · unfold runR
          dsimp only
          rw [hf, if_pos rfl, h1]
          rfl
    | false =>
      refine ⟨?_, fun z => ?_⟩
      · unfold stopR stopL
        dsimp only
        rw [hf, if_neg (by decide)]
        rcases no_fit hk ((S.fits hk).symm.trans hf) with e | ⟨_, e⟩
        · rw [L _ hk (outb e), e]
        · exact absurd rfl e
      · unfold stopR at z
        dsimp only at z
        rw [hf, if_neg (by decide)] at z
        cases z
  | @cons k v p ts ks hk hne _ ih =>
    intro g m n r pl S L
    cases hf : r.fits k.sign with
    | true =>
      rcases fit_goes S hk hf v with ⟨_, q, hq, g', m', n', pl', S', e, L'⟩ | ⟨z, _⟩
      · obtain ⟨i1, i2⟩ := ih S' L'
        have es : stopR r ((k.sign, v, p) :: ts) = stopR q ts := by
          rw [stopR]
          dsimp only
          rw [hf, if_pos rfl, hq]
        refine ⟨?_, fun z => ?_⟩
        · rw [es, i1, stopL, L _ hk (out e), e]
        · obtain ⟨q', d, h1, h2⟩ := i2 (es.symm.trans z)
          refine ⟨q', d, ?_, h2⟩
          rw [runR]
          dsimp only
          rw [hf, if_pos rfl, hq]
          exact h1
      · exact absurd z hne
    | false =>
      have es : stopR r ((k.sign, v, p) :: ts) = some p := by
        rw [stopR]
        dsimp only
        rw [hf, if_neg (by decide)]
      refine ⟨?_, fun z => by rw [es] at z; cases z⟩
      rw [es, stopL]
      rcases no_fit hk ((S.fits hk).symm.trans hf) with e | ⟨e, _⟩
      · rw [L _ hk (outb e), e]
      · rw [L _ hk (out e), e, if_neg hne]
theorem stops_start {ts : List (Str × V × Nat)} {ks : List (Sy × Nat)} (h : Keys ts ks) (c : Bool) :
    stopR (RS.start c) ts = stopL [if c = true then .C else .E] ks ∧ (stopR (RS.start c) ts = none → ∃ q d, runR (RS.start c) ts = some q ∧ q.nodes = [d] ∧ isTup d = true) := by
  cases c with
  | true => exact stops h (g := .cond) (m := 0) (n := 0) ⟨rfl, rfl, rfl, rfl, (fun _ z => by cases z), (fun _ z => by cases z), (fun z => by cases z), (fun _ => ⟨rfl, rfl⟩), fun _ => rfl⟩ (like_C [])
  | false => exact stops h (g := .fac) (m := 0) (n := 0) ⟨rfl, rfl, rfl, rfl, (fun _ z => by cases z), (fun _ z => by cases z), (fun _ => ⟨rfl, .inl rfl⟩), (fun z => by cases z), fun _ => rfl⟩ (like_E [])
end Rx

set_option Elab.async false
set_option linter.all false
set_option maxRecDepth 100000
set_option maxHeartbeats 4000000
namespace Rx
open PySem PySem.Spec PyProof.Rows L2 SX
/-! ### words and their keys -/
def selfK : List Sy := [.and_, .mod_, .not_, .or_, .plus, .minus, .star, .slash, .lp, .rp, .lb, .rb, .eq, .ne, .lt, .le, .gt, .ge]
def key18 (s : Str) : Option Sy := selfK.find? fun k => decide (k.str = s)
def keyW (w : List Nat) : Sy := match key18 (S w) with
  | some k => k
  | none => if w.all isDig = true then (if w.length < 31 ∧ (w = [48] ∨ w.head? ≠ some 48) then .integer else .odd)
    else if w.all isLet = true ∧ w.length < 9 ∧ reservedL.contains (S w) = false then .name else .odd
theorem key18_some {s : Str} {k : Sy} (h : key18 s = some k) : k ∈ selfK ∧ k.str = s := by
  unfold key18 at h
  have h2 := List.find?_some h
  exact ⟨List.mem_of_find?_eq_some h, of_decide_eq_true h2⟩
theorem key18_none {s : Str} (h : key18 s = none) : ∀ k ∈ selfK, k.str ≠ s := fun k hk e => by
  unfold key18 at h
  have := List.find?_eq_none.mp h k hk
  exact this (decide_eq_true e)
theorem key18_of {k : Sy} (h : k ∈ selfK) : key18 k.str = some k := by
  cases e : key18 k.str with
  | none => exact absurd rfl (key18_none e k h)
  | some j => rw [Sy.str_inj (key18_some e).2]
theorem selfK_facts : ∀ k ∈ selfK, k ∈ Sy.terms ∧ k ≠ .end_ ∧ k.sign = k.str ∧ k.str ∈ selfL ∧ ((cod k.str).all isLet = true → wordsL.contains k.str = true) ∧ (cod k.str).all isDig = false ∧ (k.str ∈ signsL ∨ (cod k.str).all isLet = true) ∧ (wordsL.contains k.str = true → (cod k.str).all isLet = true) := by decide +kernel
theorem self_key : ∀ s ∈ selfL, (key18 s).isSome = true := by decide +kernel
theorem keyW_term (w : List Nat) : keyW w ∈ Sy.terms ∧ keyW w ≠ .end_ := by
  unfold keyW
  split
  · rename_i k e
    have := selfK_facts k (key18_some e).1
    exact ⟨this.1, this.2.1⟩
  · split
    · split <;> exact ⟨by decide, by decide⟩
    · split <;> exact ⟨by decide, by decide⟩
theorem dig_let {w : List Nat} (h : w.all isLet = true) (n : w ≠ []) : w.all isDig = false := by
  obtain ⟨c, r, rfl⟩ := List.exists_cons_of_ne_nil n
  simp only [List.all_cons, Bool.and_eq_true] at h
  have hd : isDig c = false := by
    cases e : isDig c with
    | false => rfl
    | true => rw [let_dig e] at h; cases h.1
  rw [List.all_cons, hd, Bool.false_and]
theorem keyW_let {w : List Nat} (h : w.all isLet = true) (n : w ≠ []) : (wordTok w).1 = (keyW w).sign := by
  have hc : cod (S w) = w := rfl
  unfold wordTok keyW
  cases e : key18 (S w) with
  | some k =>
    obtain ⟨h1, h2⟩ := key18_some e
    have f := selfK_facts k h1
    rw [h2] at f
    rw [if_pos (f.2.2.2.2.1 (by rw [hc]; exact h))]
    dsimp only
    rw [f.2.2.1]
  | none =>
    have hw : wordsL.contains (S w) = false := by
      cases e2 : wordsL.contains (S w) with
      | false => rfl
      | true =>
        have hm : S w ∈ selfL := by
          have : ∀ s ∈ wordsL, s ∈ selfL := by decide +kernel
          exact this _ (List.contains_iff_mem.mp e2)
        have := self_key _ hm
        rw [e] at this
        cases this
    rw [hw, if_neg (by decide)]
    dsimp only
    rw [dig_let h n, if_neg (show ¬ (false = true) from by decide)]
    cases hn : isName w with
    | true =>
      obtain ⟨h1, h2, h3, h4⟩ := name_parts hn
      rw [if_pos rfl, if_pos ⟨h, by omega, h1⟩]
      rfl
    | false =>
      rw [if_neg (by decide), if_neg]
      · rfl
      · rintro ⟨_, h2, h3⟩
        unfold isName at hn
        rw [h3, h, decide_eq_true n, decide_eq_true (by omega : w.length ≤ 8)] at hn
        cases hn
theorem keyW_dig {w : List Nat} (h : w.all isDig = true) (n : w ≠ []) : (numTok w).1 = (keyW w).sign := by
  have hc : cod (S w) = w := rfl
  unfold numTok keyW
  cases e : key18 (S w) with
  | some k =>
    obtain ⟨h1, h2⟩ := key18_some e
    have f := (selfK_facts k h1).2.2.2.2.2.1
    rw [h2, hc, h] at f
    cases f
  | none =>
    dsimp only
    rw [h, if_pos rfl]
    have e2 : isNum w = (decide (w.length ≤ 30) && !(decide (w.head? = some 48) && decide (w ≠ [48]))) := by
      unfold isNum
      rw [h, decide_eq_true n, Bool.and_true, Bool.true_and]
    cases hn : isNum w with
    | true =>
      rw [if_pos rfl, if_pos]
      · rfl
      · rw [hn] at e2
        have e3 := e2.symm
        simp only [Bool.and_eq_true, decide_eq_true_eq, Bool.not_eq_true', Bool.and_eq_false_iff, decide_eq_false_iff_not] at e3
        refine ⟨by omega, ?_⟩
        rcases e3.2 with q | q
        · exact .inr q
        · exact .inl (Classical.byContradiction q)
    | false =>
      rw [if_neg (by decide), if_neg]
      · rfl
      · rintro ⟨h2, h3⟩
        rw [hn, decide_eq_true (by omega : w.length ≤ 30), Bool.true_and] at e2
        have e3 := e2.symm
        simp only [Bool.not_eq_false', Bool.and_eq_true, decide_eq_true_eq] at e3
        rcases h3 with q | q
        · exact e3.2 q
        · exact q e3.1
theorem keyW_sign {s : Str} (h : s ∈ signsL) : (keyW (cod s)).sign = s := by
  have h1 : ∀ s ∈ signsL, (keyW (cod s)).sign = s := by decide +kernel
  exact h1 s h
theorem keyW_odd {c : Nat} (h1 : isLet c = false) (h2 : isDig c = false) (h3 : c ∉ singles) : keyW [c] = .odd := by
  unfold keyW
  cases e : key18 (S [c]) with
  | some k =>
    obtain ⟨k1, k2⟩ := key18_some e
    have f : ∀ k ∈ selfK, (cod k.str).length = 1 → ∀ x ∈ cod k.str, x ∈ singles := by decide +kernel
    have g := f k k1
    rw [k2] at g
    exact absurd (g rfl c (by show c ∈ [c]; simp)) h3
  | none =>
    dsimp only
    rw [show [c].all isDig = false by simp [h2], if_neg (by decide), if_neg]
    simp [h1]
/-! ### the other scanner -/
def twoL : List Str := ["<=", ">=", "!=", "//"]
def endL (cs : List Nat) : Nat := if twoL.contains (S (cs.take 2)) = true then 2 else match cs with
  | [] => 1
  | c :: _ => if isLet c = true then (cs.takeWhile isLet).length else if isDig c = true then (cs.takeWhile isDig).length else 1
theorem two_codes : twoL.map cod = [[60, 61], [62, 61], [33, 61], [47, 47]] := by decide +kernel
theorem two_mem {cs : List Nat} : twoL.contains (S cs) = true ↔ cs = [60, 61] ∨ cs = [62, 61] ∨ cs = [33, 61] ∨ cs = [47, 47] := by
  rw [List.contains_iff_mem]
  constructor
  · intro h
    have h2 : cod (S cs) ∈ twoL.map cod := List.mem_map.mpr ⟨_, h, rfl⟩
    rw [two_codes] at h2
    simpa using h2
  · intro h
    rcases h with rfl | rfl | rfl | rfl <;> decide +kernel
theorem two_head {c : Nat} {r : List Nat} (h : twoL.contains (S ((c :: r).take 2)) = true) : (c = 60 ∨ c = 62 ∨ c = 33 ∨ c = 47) := by
  have := two_mem.mp h
  cases r with
  | nil => simp at this
  | cons d r => simp at this; omega
theorem code_sign : ∀ s ∈ signsL, s.length = (cod s).length := fun s _ => (cod_len s).symm
theorem sign_find {cs x : List Nat} (h : (signsL.map cod).find? (fun x => x.isPrefixOf cs) = some x) : signTok cs = (S x, .non, x.length) ∧ (keyW x).sign = S x := by
  rw [← find_codes] at h
  obtain ⟨t, e1, e2⟩ := Option.map_eq_some_iff.mp h
  have ht : t = S x := by rw [← e2, S_tl]
  have hm : t ∈ signsL := List.mem_of_find?_eq_some e1
  have hk := keyW_sign hm
  rw [e2] at hk
  refine ⟨?_, by rw [hk, ht]⟩
  unfold signTok
  rw [e1]
  dsimp only
  rw [ht, S_len]
theorem sign_none {cs : List Nat} (h : (signsL.map cod).find? (fun x => x.isPrefixOf cs) = none) : signTok cs = (("bad" : Str), V.non, 1) := by
  rw [← find_codes] at h
  unfold signTok
  rw [Option.map_eq_none_iff.mp h]
theorem sign_key {c : Nat} {r : List Nat} (h1 : isLet c = false) (h2 : isDig c = false) : ∃ v, signTok (c :: r) = ((keyW ((c :: r).take (endL (c :: r)))).sign, v, endL (c :: r)) := by
  cases ht : twoL.contains (S ((c :: r).take 2)) with
  | true =>
    have he : endL (c :: r) = 2 := by unfold endL; rw [ht, if_pos rfl]
    rw [he]
    have hm := two_mem.mp ht
    cases r with
    | nil => simp at hm
    | cons d r =>
      have hm' : (c = 60 ∧ d = 61) ∨ (c = 62 ∧ d = 61) ∨ (c = 33 ∧ d = 61) ∨ (c = 47 ∧ d = 47) := by simpa using hm
      refine ⟨.non, ?_⟩
      have hf : (signsL.map cod).find? (fun x => x.isPrefixOf (c :: d :: r)) = some [c, d] := by
        rw [sign_codes]
        rcases hm' with ⟨rfl, rfl⟩ | ⟨rfl, rfl⟩ | ⟨rfl, rfl⟩ | ⟨rfl, rfl⟩ <;> simp [List.find?, List.isPrefixOf]
      obtain ⟨e1, e2⟩ := sign_find hf
      rw [e1, show (c :: d :: r).take 2 = [c, d] from rfl, e2]
      rfl
  | false =>
    have he : endL (c :: r) = 1 := by unfold endL; rw [ht, if_neg (by decide)]; dsimp only; rw [h1, h2]; rfl
    have ht' : ¬ ((c :: r).take 2 = [60, 61] ∨ (c :: r).take 2 = [62, 61] ∨ (c :: r).take 2 = [33, 61] ∨ (c :: r).take 2 = [47, 47]) := fun z => by rw [two_mem.mpr z] at ht; cases ht
    rw [he]
    refine ⟨.non, ?_⟩
    have e1' : (c :: r).take 1 = [c] := by simp
    rw [e1']
    by_cases hs : c ∈ singles
    · have hf : (signsL.map cod).find? (fun x => x.isPrefixOf (c :: r)) = some [c] := by
        rw [sign_codes]
        simp only [singles, List.mem_cons, List.not_mem_nil, or_false] at hs
        rcases hs with rfl | rfl | rfl | rfl | rfl | rfl | rfl | rfl | rfl | rfl
        all_goals
          cases r with
          | nil => simp [List.find?, List.isPrefixOf]
          | cons d r =>
            first
            | (simp [List.find?, List.isPrefixOf]; done)
            | (have hd : d ≠ 61 := fun z => by subst z; exact ht' (by simp)
               have g3 : (61 == d) = false := by simpa using (Ne.symm hd)
               simp [List.find?, List.isPrefixOf, g3]; done)
      obtain ⟨e1, e2⟩ := sign_find hf
      rw [e1, e2]
      rfl
    · have hf : (signsL.map cod).find? (fun x => x.isPrefixOf (c :: r)) = none := by
        rw [sign_codes]
        simp only [singles, List.mem_cons, List.not_mem_nil, or_false, not_or] at hs
        obtain ⟨s1, s2, s3, s4, s5, s6, s7, s8, s9, s10⟩ := hs
        rw [List.find?_eq_none]
        intro x hx
        have nb : ∀ a : Nat, c ≠ a → (a == c) = false := fun a h => by simpa using (Ne.symm h)
        simp only [List.mem_cons, List.not_mem_nil, or_false] at hx
        rcases hx with rfl | rfl | rfl | rfl | rfl | rfl | rfl | rfl | rfl | rfl | rfl | rfl | rfl | rfl
        · cases r with
          | nil => simp [List.isPrefixOf]
          | cons d r =>
            by_cases hc : c = 47
            · subst hc
              have hd : d ≠ 47 := fun z => by subst z; exact ht' (by simp)
              simp [List.isPrefixOf, nb' hd]
            · simp [List.isPrefixOf, nb _ hc]
        · cases r with
          | nil => simp [List.isPrefixOf]
          | cons d r =>
            by_cases hc : c = 33
            · subst hc
              have hd : d ≠ 61 := fun z => by subst z; exact ht' (by simp)
              simp [List.isPrefixOf, nb' hd]
            · simp [List.isPrefixOf, nb _ hc]
        all_goals simp [List.isPrefixOf, nb _ s1, nb _ s2, nb _ s3, nb _ s4, nb _ s5, nb _ s6, nb _ s7, nb _ s8, nb _ s9, nb _ s10]
      rw [sign_none hf, keyW_odd h1 h2 hs]
      rfl
where
  nb' {a d : Nat} (h : d ≠ a) : (a == d) = false := by simpa using (Ne.symm h)
theorem tok_key {c : Nat} {r : List Nat} : ∃ v, tokAt (c :: r) = ((keyW ((c :: r).take (endL (c :: r)))).sign, v, endL (c :: r)) := by
  have tk : ∀ (p : Nat → Bool), (c :: r).take ((c :: r).takeWhile p).length = (c :: r).takeWhile p := fun p => (List.prefix_iff_eq_take.mp (List.takeWhile_prefix p)).symm
  cases h1 : isLet c with
  | true =>
    have ht : twoL.contains (S ((c :: r).take 2)) = false := by
      cases e : twoL.contains (S ((c :: r).take 2)) with
      | false => rfl
      | true => rcases two_head e with rfl | rfl | rfl | rfl <;> exact absurd h1 (by decide)
    have he : endL (c :: r) = ((c :: r).takeWhile isLet).length := by unfold endL; rw [ht, if_neg (by decide)]; dsimp only; rw [h1, if_pos rfl]
    have hn : (c :: r).takeWhile isLet ≠ [] := by rw [List.takeWhile_cons, if_pos h1]; simp
    have hk := keyW_let (w := (c :: r).takeWhile isLet) List.all_takeWhile hn
    refine ⟨(wordTok ((c :: r).takeWhile isLet)).2.1, ?_⟩
    rw [he, tk, ← hk]
    have hs : (wordTok ((c :: r).takeWhile isLet)).2.2 = ((c :: r).takeWhile isLet).length := by
      unfold wordTok
      split
      · rfl
      · split <;> rfl
    have : tokAt (c :: r) = wordTok ((c :: r).takeWhile isLet) := by unfold tokAt; dsimp only; rw [if_pos h1]
    rw [this, ← hs]
  | false =>
    cases h2 : isDig c with
    | true =>
      have ht : twoL.contains (S ((c :: r).take 2)) = false := by
        cases e : twoL.contains (S ((c :: r).take 2)) with
        | false => rfl
        | true => rcases two_head e with rfl | rfl | rfl | rfl <;> exact absurd h2 (by decide)
      have he : endL (c :: r) = ((c :: r).takeWhile isDig).length := by unfold endL; rw [ht, if_neg (by decide)]; dsimp only; rw [h1, if_neg (by decide), h2, if_pos rfl]
      have hn : (c :: r).takeWhile isDig ≠ [] := by rw [List.takeWhile_cons, if_pos h2]; simp
      have hk := keyW_dig (w := (c :: r).takeWhile isDig) List.all_takeWhile hn
      refine ⟨(numTok ((c :: r).takeWhile isDig)).2.1, ?_⟩
      rw [he, tk, ← hk]
      have hs : (numTok ((c :: r).takeWhile isDig)).2.2 = ((c :: r).takeWhile isDig).length := by unfold numTok; split <;> rfl
      have : tokAt (c :: r) = numTok ((c :: r).takeWhile isDig) := by unfold tokAt; dsimp only; rw [h1, if_neg (by decide), if_pos h2]
      rw [this, ← hs]
    | false =>
      have : tokAt (c :: r) = signTok (c :: r) := by unfold tokAt; dsimp only; rw [h1, if_neg (by decide), h2, if_neg (by decide)]
      rw [this]
      exact sign_key h1 h2
/-- the keys of the rest of a text that stands from the place at on -/
def scanF : Nat → Nat → List Nat → List (Sy × Nat)
  | 0, at_, _ => [(.end_, at_)]
  | _ + 1, at_, [] => [(.end_, at_)]
  | n + 1, at_, c :: r => if c = 32 then scanF n (at_ + endL (c :: r)) ((c :: r).drop (endL (c :: r))) else (keyW ((c :: r).take (endL (c :: r))), at_) :: scanF n (at_ + endL (c :: r)) ((c :: r).drop (endL (c :: r)))
theorem endL_sp (r : List Nat) : endL (32 :: r) = 1 := by
  have ht : twoL.contains (S ((32 :: r).take 2)) = false := by
    cases e : twoL.contains (S ((32 :: r).take 2)) with
    | false => rfl
    | true => rcases two_head e with z | z | z | z <;> cases z
  unfold endL
  rw [ht, if_neg (by decide)]
  rfl
theorem scan_keys : ∀ (n at_ : Nat) (cs : List Nat), Keys (toksF n at_ cs) (scanF n at_ cs)
  | 0, _, _ => .end_
  | _ + 1, _, [] => .end_
  | n + 1, at_, c :: r => by
    unfold toksF scanF
    by_cases hc : c = 32
    · rw [if_pos hc, if_pos hc]
      subst hc
      rw [endL_sp]
      exact scan_keys n _ _
    · rw [if_neg hc, if_neg hc]
      obtain ⟨v, e⟩ := tok_key (c := c) (r := r)
      rw [e]
      have := keyW_term ((c :: r).take (endL (c :: r)))
      exact .cons this.1 this.2 (scan_keys n _ _)
theorem endL_pos (c : Nat) (r : List Nat) : 1 ≤ endL (c :: r) := by
  obtain ⟨v, e⟩ := tok_key (c := c) (r := r)
  have := tokAt_pos (c :: r)
  rw [e] at this
  exact this
end Rx

set_option Elab.async false
set_option linter.all false
set_option maxRecDepth 100000
set_option maxHeartbeats 4000000
namespace Rx
open PySem PySem.Spec PyProof.Rows L2 SX
/-- the place where the reader stops, or what it comes to -/
def runX : RS → List (Str × V × Nat) → Option (Nat ⊕ RS)
  | r, [] => some (.inr r)
  | r, t :: ts => if r.fits t.1 = true then (r.takeIn t.1 t.2.1).bind fun q => runX q ts else some (.inl t.2.2)
theorem runX_run : ∀ {ts : List (Str × V × Nat)} {r q : RS}, runR r ts = some q → runX r ts = some (.inr q)
  | [], r, q, h => by
    simp only [runR, Option.some.injEq] at h
    subst h
    rfl
  | t :: ts, r, q, h => by
    unfold runR at h
    unfold runX
    split at h
    · rename_i hf
      rw [if_pos hf]
      obtain ⟨x, h1, h2⟩ := Option.bind_eq_some_iff.mp h
      rw [h1]
      exact runX_run h2
    · cases h
theorem runX_stop : ∀ {ts : List (Str × V × Nat)} {r : RS} {p : Nat}, stopR r ts = some p → runX r ts = some (.inl p)
  | [], r, p, h => by cases h
  | t :: ts, r, p, h => by
    unfold stopR at h
    unfold runX
    split at h
    · rename_i hf
      rw [if_pos hf]
      split at h
      · rename_i x e
        rw [e]
        exact runX_stop h
      · cases h
    · rename_i hf
      rw [if_neg hf]
      injection h with h
      rw [h]
/-- what comes of a text: the place, or one tree -/
def Comes (c : Bool) (cs : List Nat) (due : Option Nat) : Prop := match due with
  | some p => runX (RS.start c) (toks cs) = some (.inl p)
  | none => ∃ q d, runX (RS.start c) (toks cs) = some (.inr q) ∧ q.nodes = [d] ∧ isTup d = true
theorem comes_keys {c : Bool} {cs : List Nat} {ks : List (Sy × Nat)} (h : Keys (toks cs) ks) : Comes c cs (stopL [if c = true then .C else .E] ks) := by
  obtain ⟨h1, h2⟩ := stops_start h c
  rw [← h1]
  cases e : stopR (RS.start c) (toks cs) with
  | some p => exact runX_stop e
  | none =>
    obtain ⟨q, d, h3, h4, h5⟩ := h2 e
    exact ⟨q, d, runX_run h3, h4, h5⟩
theorem comes_text (c : Bool) (cs : List Nat) : Comes c cs (stopL [if c = true then .C else .E] (scanF cs.length 0 cs)) := comes_keys (scan_keys _ _ _)
theorem comes_run {c : Bool} {cs : List Nat} {r : RS} {d : PyData} (h : runR (RS.start c) (toks cs) = some r) (k : r.nodes = [d]) (t : isTup d = true) : Comes c cs none := ⟨r, d, runX_run h, k, t⟩
end Rx

set_option Elab.async false
set_option linter.all false
set_option maxRecDepth 100000
set_option maxHeartbeats 4000000
namespace XE
open PySem PySem.Spec PyProof.Rows L2 Rx SX
/-- a def of the module that may raise, as its callers see it -/
structure CalX (P : Program) (w : World) (K : PySem.W.Frag) (mg : Str → Option Value) (base : Heap) (k : Nat) (x : Str) (f : Addr) (fd : FuncData) (ps : List Str) (sp : Sp) : Prop where
  ok : FnOk P w K mg base (L2.CX P w) k f fd ps sp
  mg : mg x = some (.ref f)
  kp : PySem.W.keepIn K (.ref f) = true
  bi : Binds K fd ps []
/-- a text is read whole, or the error tells where not -/
def spParsedX (K : PySem.W.Frag) (C CB : Addr) : Sp := fun us H Q E => ∃ (z : Str) (p n o b : Addr) (r0 : RS) (R : Nat ⊕ RS), us = [.str z, .ref p] ∧ z.length ≤ 100000 ∧ RdV K C H p n o b [] r0 ∧ Few 0 r0 ∧ runX r0 (toks z.cps.toList) = some R ∧
  (∀ r', R = .inr r' → ∃ d, r'.nodes = [d] ∧ ∀ H' v, Dp K H' v d → noList d = true → ElseR p n o b H H' → Q v H') ∧
  (∀ q, R = .inl q → ∀ (H' : Hp) (dx : Addr), ElseR p n o b H H' → H dx = none → H' dx = some (.xd [("position", .int (q : Nat))]) → E (.ref CB) (some dx) H')
def spParseX (K : PySem.W.Frag) (CB : Addr) (c : Bool) : Sp := fun us H Q E => ∃ (z : Str) (due : Option Nat), us = [.str z] ∧ z.length ≤ 100000 ∧ Comes c (cod z) due ∧
  (due = none → ∀ r' d, runX (RS.start c) (toks (cod z)) = some (.inr r') → r'.nodes = [d] → isTup d = true → ∀ H' v, Same H H' → Dp K H' v d → noList d = true → Q v H') ∧
  (∀ q, due = some q → ∀ (H' : Hp) (dx : Addr), Same H H' → H dx = none → H' dx = some (.xd [("position", .int (q : Nat))]) → E (.ref CB) (some dx) H')
section
variable {P : Program} {w : World} {K : PySem.W.Frag} {mg : Str → Option Value} {base : Heap} {C CB : Addr}
theorem ok_parsedX {f fT fF fI : Addr} {fd fdT fdF fdI : FuncData} (F : Fun K "parsed" "parsed" sParsed f fd) (T : TxtR K w mg C) (TB : RaiT P w K mg base "BadText" CB ["position"]) (CT : Cal P w K mg base 4 "tokens" fT fdT ["text"] spTokens) (CF : MCal P w K mg base C 2 "fits" fF fdF ["self", "sign"] (spAsk K C RS.fits))
    (CI : MCal P w K mg base C 4 "take_in" fI fdI ["self", "sign", "worth"] (spTake K C)) : FnOk P w K mg base (L2.CX P w) 5 f fd ["text", "reader"] (spParsedX K C CB) := by
  obtain ⟨fB, fdB, iB, tB, FB, bB⟩ := TB.ini
  refine F.okX scPd (fun vs H Q E h => ?_) (fun cdv A outer s H vs Q E hr h => ?_)
  · obtain ⟨z, p, n, o, b, r0, R, rfl, _⟩ := h
    rfl
  · obtain ⟨z, p, n, o, b, r0, RR, rfl, hz, R, few, hrun, kQ, kE⟩ := h
    have hr2 : Room 2 _ := hr.mono (by decide)
    have hr3 : Room 3 _ := hr.mono (by decide)
    refine ⟨_, pss_cons (ps_for (passes_of rfl) rfl (pi_list (pe_call CT.ok hr rfl CT.mg CT.kp CT.bi .nil pass0 (pa_cons (pv 0) pa_nil))) (pg_tup rfl (pgs_cons (pg_name (i := 2) scPd.nd rfl (.inl rfl)) (pgs_cons (pg_name (i := 3) scPd.nd rfl (.inl rfl)) (pgs_cons (pg_name (i := 4) scPd.nd rfl (.inl rfl)) pgs_nil))))
        (pss_cons (ps_if (pt_not (pt_val (pe_meth (pv 1) T.cl CF.me CF.ok hr2 CF.bi .nil pass0 (pa_cons (pv 2) pa_nil)))) (pss_one (ps_raise rfl (takes_of rfl rfl rfl rfl) (pmk_oex TB.oex iB tB FB hr3 bB .nil pass0 rfl TB.mgx (pa_cons (pv 4) pa_nil)))) pss_nil)
        (pss_one (ps_expr (pe_meth (pv 1) T.cl CI.me CI.ok hr CI.bi .nil pass0 (pa_cons (pv 2) (pa_cons (pv 3) pa_nil)))))))
      (pss_one (ps_ret (pe_ix ix_list (pe_fld (pv 1) rfl) pe_int (fun _ _ => rfl)))), ?_⟩
    refine ⟨_, rfl, z, rfl, hz, fun H1 l ws s1 nl hl htk => ?_⟩
    have R1 := R.same s1
    refine ⟨l, rfl, ⟨_, SqL.of hl⟩, ?_⟩
    have lp : l ≠ p := by
      obtain ⟨dx, hp⟩ := R.ob
      exact (ne_of_none hp nl).symm
    have ln : l ≠ n := (ne_of_none R.nd nl).symm
    have lo : l ≠ o := (ne_of_none R.op nl).symm
    have lb : l ≠ b := (ne_of_none R.br nl).symm
    have hlen : ws.length ≤ 100001 := by
      rw [htk.len]
      unfold toks
      have := toksF_len z.cps.toList.length 0 z.cps.toList
      rw [len_tl] at this ⊢
      omega
    refine for_list (K := K) (a := l) (xs := ws) (fun i σ H2 => ∃ (x2 x3 x4 : Option V) (us : List V) (r1 : RS), σ = [some (.str z), some (.ref p), x2, x3, x4] ∧ RdV K C H2 p n o b us r1 ∧ Few i r1 ∧ runX r1 ((toks z.cps.toList).drop i) = some RR ∧ ElseR p n o b H H2 ∧ TokL H2 ws (toks z.cps.toList) ∧ H2 l = some (.lst ws) ∧ (∀ a, H2 a = none → H a = none))
      ⟨none, none, none, [], r0, rfl, R1, few, hrun, ElseR.same s1, htk, hl, fun a h => s1.free h⟩ (fun i σ H2 _ ⟨_, _, _, _, _, _, _, _, _, _, _, h, _⟩ => SqL.of h) ?_ ?_
    · rintro i x σ H2 hx ⟨x2, x3, x4, us, r1, rfl, R2, few2, hrun2, el2, htk2, hl2, fr2⟩
      obtain ⟨t, tk, rfl, hti, ht⟩ := htk2.get hx
      obtain ⟨sg, wo, at_⟩ := tk
      have fw : FlatW wo := toksF_flat _ _ _ _ (List.mem_of_getElem? hti)
      have hil : i < ws.length := (List.getElem?_eq_some_iff.mp hx).1
      have hdrop : (toks z.cps.toList).drop i = (sg, wo, at_) :: (toks z.cps.toList).drop (i + 1) := by
        obtain ⟨h1, h2⟩ := List.getElem?_eq_some_iff.mp hti
        rw [← h2, List.getElem_cons_drop]
      rw [hdrop] at hrun2
      unfold runX at hrun2
      obtain ⟨dx2, hp2⟩ := R2.ob
      refine ⟨t, _, rfl, SqT.of ht, rfl, _, _, rfl, _, _, rfl, _, _, rfl, rfl, ?_⟩
      refine ⟨_, rfl, p, dx2, _, rfl, hp2, fl_no (by decide +kernel), _, rfl, p, n, o, b, us, r1, sg, rfl, R2, fun H3 s3 => ⟨_, rfl, ?_⟩⟩
      have R3 := R2.same s3
      obtain ⟨dx3, hp3⟩ := R3.ob
      cases hf : r1.fits sg with
      | false =>
        dsimp only at hrun2
        rw [hf, if_neg (by decide)] at hrun2
        injection hrun2 with hrun2
        refine iteTc rfl ⟨_, rfl, mk_read (.int (at_ : Nat)) (by simp [sz]) fun H' dx u sm hdx hx' hu => ?_⟩
        cases hu
        exact kE at_ hrun2.symm H' dx (el2.trans ((ElseR.same s3).trans (ElseR.same sm))) (fr2 _ (s3.free hdx)) hx'
      | true =>
        dsimp only at hrun2
        rw [hf, if_pos rfl] at hrun2
        obtain ⟨q, hq, hrun3⟩ := Option.bind_eq_some_iff.mp hrun2
        refine iteFc rfl ⟨_, rfl, p, dx3, _, rfl, hp3, fl_no (by decide +kernel), _, rfl, _, rfl, .ref p, sg, wo, rfl, fw, p, n, o, b, us, r1, q, rfl, R3, ⟨?_, ?_, ?_⟩, hf, hq, fun H4 us4 R4 el4 => ?_⟩
        · exact Nat.le_trans few2.nd (by omega)
        · exact Nat.le_trans few2.op (by omega)
        · exact Nat.le_trans few2.br (by omega)
        · refine ⟨some (.str sg), some wo, some (.int at_), us4, q, rfl, R4, few2.take hq, hrun3, el2.trans ((ElseR.same s3).trans el4), tok_else R3 el4 (htk2.same s3), el4 l _ (s3 _ _ hl2) lp ln lo lb, fun a ha => ?_⟩
          refine fr2 a (s3.free ?_)
          cases e : H3 a with
          | none => rfl
          | some y =>
            obtain ⟨dx4, hp4⟩ := R4.ob
            by_cases e1 : a = p
            · rw [e1, hp4] at ha; cases ha
            by_cases e2 : a = n
            · rw [e2, R4.nd] at ha; cases ha
            by_cases e3 : a = o
            · rw [e3, R4.op] at ha; cases ha
            by_cases e4 : a = b
            · rw [e4, R4.br] at ha; cases ha
            rw [el4 a y e e1 e2 e3 e4] at ha
            cases ha
    · rintro σ H2 ⟨x2, x3, x4, us, r1, rfl, R2, few2, hrun2, el2, htk2, hl2, fr2⟩
      rw [htk.len, List.drop_length] at hrun2
      simp only [runX, Option.some.injEq] at hrun2
      obtain ⟨d, hnd, k⟩ := kQ r1 hrun2.symm
      obtain ⟨dx2, hp2⟩ := R2.ob
      have hD := R2.dp
      have hN := R2.nl
      have hn2 := R2.nd
      rw [hnd] at hD hN
      cases hD with
      | cons hv ht =>
        rename_i v vt
        cases ht with
        | nil => exact ⟨_, rfl, p, C, dx2, _, _, rfl, hp2, T.cl, T.nNodes, fl_nodes, n, _, _, v, rfl, rfl, SqL.of hn2, rfl, k H2 v hv (by simpa [noListAll] using hN) el2⟩
end
end XE

set_option Elab.async false
set_option linter.all false
set_option maxRecDepth 100000
set_option maxHeartbeats 4000000
namespace XE
open PySem PySem.Spec PyProof.Rows L2 Rx SX
abbrev sParseE : Stmt := topS 23
section
variable {P : Program} {w : World} {K : PySem.W.Frag} {mg : Str → Option Value} {base : Heap} {C CB : Addr}
theorem scPE : FnScope ["text"] ["text"] (defScope sParseE) := ⟨rfl, rfl, rfl, by decide +kernel, rfl, by decide +kernel, by decide +kernel⟩
theorem ok_parseEX {f fI fP : Addr} {fd fdI fdP : FuncData} (F : Fun K "parse_expression" "parse_expression" sParseE f fd) (M : Mk K C fI) (mgC : mg "Reader" = some (.ref C)) (GI : FnOk P w K mg base CX0 1 fI fdI ["self", "of_condition"] (spRInit K C)) (bI : Binds K fdI ["self", "of_condition"] [])
    (CP : CalX P w K mg base 5 "parsed" fP fdP ["text", "reader"] (spParsedX K C CB)) : FnOk P w K mg base (L2.CX P w) 6 f fd ["text"] (spParseX K CB false) := by
  refine F.okX scPE (fun vs H Q E h => ?_) (fun cdv A outer s H vs Q E hr h => ?_)
  · obtain ⟨z, due, rfl, _⟩ := h
    rfl
  · obtain ⟨z, due, rfl, hz, hc, kQ, kE⟩ := h
    have hr2 : Room 2 _ := hr.mono (by decide)
    refine ⟨_, pss_one (ps_ret (pe_call CP.ok hr rfl CP.mg CP.kp CP.bi .nil (passes_call (takes_of (E := E) rfl rfl rfl rfl) (fun _ _ _ _ h => h)) (pa_cons (pv 0) (pa_cons (pe_make M GI hr2 rfl mgC bI .nil pass0 (pa_cons pe_bl pa_nil)) pa_nil)))), ?_⟩
    refine ⟨_, rfl, fun x dx nx ndx nex => ⟨x, dx, false, rfl, upd_same, fun n o b H1 hn ho hb R1 el1 => ⟨rfl, ?_⟩⟩⟩
    have s0 : Same H (upd (upd H dx (.own x)) x (.ins C dx [])) := fun c y e => by
      rw [upd_ne (ne_of_none e nx), upd_ne (ne_of_none e ndx)]
      exact e
    have s1 : Same H H1 := fun c y e => el1 c y (s0 c y e) (ne_of_none e nx)
    have sm : ∀ H', ElseR x n o b H1 H' → Same H H' := fun H' el c y e => el c y (s1 c y e) (ne_of_none e nx) (ne_of_none e (s0.free hn)) (ne_of_none e (s0.free ho)) (ne_of_none e (s0.free hb))
    cases due with
    | some p =>
      exact ⟨z, x, n, o, b, RS.start false, .inl p, rfl, hz, R1, ⟨Nat.le_refl _, Nat.le_refl _, Nat.le_refl _⟩, hc, (fun r' h => by cases h), fun q h H' dx' el hd hx => by
        injection h with h
        subst h
        exact kE p rfl H' dx' (sm H' el) (s1.free hd) hx⟩
    | none =>
      obtain ⟨q, d, h1, h2, h3⟩ := hc
      exact ⟨z, x, n, o, b, RS.start false, .inr q, rfl, hz, R1, ⟨Nat.le_refl _, Nat.le_refl _, Nat.le_refl _⟩, h1, (fun r' h => by
        injection h with h
        subst h
        exact ⟨d, h2, fun H' v hv hl el => kQ rfl q d h1 h2 h3 H' v (sm H' el) hv hl⟩), fun q h => by cases h⟩
end
end XE

set_option Elab.async false
set_option linter.all false
set_option maxRecDepth 100000
set_option maxHeartbeats 4000000
namespace XE
open PySem PySem.Spec PyProof.Rows L2 Rx SX
abbrev sParseC : Stmt := topS 24
section
variable {P : Program} {w : World} {K : PySem.W.Frag} {mg : Str → Option Value} {base : Heap} {C CB : Addr}
theorem scPC : FnScope ["text"] ["text"] (defScope sParseC) := ⟨rfl, rfl, rfl, by decide +kernel, rfl, by decide +kernel, by decide +kernel⟩
theorem ok_parseCX {f fI fP : Addr} {fd fdI fdP : FuncData} (F : Fun K "parse_condition" "parse_condition" sParseC f fd) (M : Mk K C fI) (mgC : mg "Reader" = some (.ref C)) (GI : FnOk P w K mg base CX0 1 fI fdI ["self", "of_condition"] (spRInit K C)) (bI : Binds K fdI ["self", "of_condition"] [])
    (CP : CalX P w K mg base 5 "parsed" fP fdP ["text", "reader"] (spParsedX K C CB)) : FnOk P w K mg base (L2.CX P w) 6 f fd ["text"] (spParseX K CB true) := by
  refine F.okX scPC (fun vs H Q E h => ?_) (fun cdv A outer s H vs Q E hr h => ?_)
  · obtain ⟨z, due, rfl, _⟩ := h
    rfl
  · obtain ⟨z, due, rfl, hz, hc, kQ, kE⟩ := h
    have hr2 : Room 2 _ := hr.mono (by decide)
    refine ⟨_, pss_one (ps_ret (pe_call CP.ok hr rfl CP.mg CP.kp CP.bi .nil (passes_call (takes_of (E := E) rfl rfl rfl rfl) (fun _ _ _ _ h => h)) (pa_cons (pv 0) (pa_cons (pe_make M GI hr2 rfl mgC bI .nil pass0 (pa_cons pe_bl pa_nil)) pa_nil)))), ?_⟩
    refine ⟨_, rfl, fun x dx nx ndx nex => ⟨x, dx, true, rfl, upd_same, fun n o b H1 hn ho hb R1 el1 => ⟨rfl, ?_⟩⟩⟩
    have s0 : Same H (upd (upd H dx (.own x)) x (.ins C dx [])) := fun c y e => by
      rw [upd_ne (ne_of_none e nx), upd_ne (ne_of_none e ndx)]
      exact e
    have s1 : Same H H1 := fun c y e => el1 c y (s0 c y e) (ne_of_none e nx)
    have sm : ∀ H', ElseR x n o b H1 H' → Same H H' := fun H' el c y e => el c y (s1 c y e) (ne_of_none e nx) (ne_of_none e (s0.free hn)) (ne_of_none e (s0.free ho)) (ne_of_none e (s0.free hb))
    cases due with
    | some p =>
      exact ⟨z, x, n, o, b, RS.start true, .inl p, rfl, hz, R1, ⟨Nat.le_refl _, Nat.le_refl _, Nat.le_refl _⟩, hc, (fun r' h => by cases h), fun q h H' dx' el hd hx => by
        injection h with h
        subst h
        exact kE p rfl H' dx' (sm H' el) (s1.free hd) hx⟩
    | none =>
      obtain ⟨q, d, h1, h2, h3⟩ := hc
      exact ⟨z, x, n, o, b, RS.start true, .inr q, rfl, hz, R1, ⟨Nat.le_refl _, Nat.le_refl _, Nat.le_refl _⟩, h1, (fun r' h => by
        injection h with h
        subst h
        exact ⟨d, h2, fun H' v hv hl el => kQ rfl q d h1 h2 h3 H' v (sm H' el) hv hl⟩), fun q h => by cases h⟩
end
end XE

set_option Elab.async false
set_option linter.all false
set_option maxRecDepth 100000
set_option maxHeartbeats 4000000
namespace Rx
open PySem PySem.Spec PyProof.Rows L2 SX
theorem endL_le (c : Nat) (r : List Nat) : endL (c :: r) ≤ (c :: r).length := by
  unfold endL
  split
  · rename_i h
    have := two_mem.mp h
    cases r with
    | nil => simp at this
    | cons d r => simp
  · dsimp only
    split
    · exact (List.takeWhile_sublist isLet).length_le
    · split
      · exact (List.takeWhile_sublist isDig).length_le
      · simp
theorem scanF_fuel : ∀ (n m : Nat) (a : Nat) (cs : List Nat), cs.length ≤ n → cs.length ≤ m → scanF n a cs = scanF m a cs
  | 0, 0, _, _, _, _ => rfl
  | 0, m + 1, a, [], _, _ => rfl
  | 0, m + 1, a, c :: r, h, _ => by simp at h
  | n + 1, 0, a, [], _, _ => rfl
  | n + 1, 0, a, c :: r, _, h => by simp at h
  | n + 1, m + 1, a, [], _, _ => rfl
  | n + 1, m + 1, a, c :: r, h1, h2 => by
    simp only [List.length_cons] at h1 h2
    have hp := endL_pos c r
    unfold scanF
    rw [scanF_fuel n m _ ((c :: r).drop (endL (c :: r))) (by rw [List.length_drop, List.length_cons]; omega) (by rw [List.length_drop, List.length_cons]; omega)]
def scanG (a : Nat) (cs : List Nat) : List (Sy × Nat) := scanF cs.length a cs
theorem scanG_cons (a c : Nat) (r : List Nat) : scanG a (c :: r) = (if c = 32 then [] else [(keyW ((c :: r).take (endL (c :: r))), a)]) ++ scanG (a + endL (c :: r)) ((c :: r).drop (endL (c :: r))) := by
  have hp := endL_pos c r
  have e : scanF r.length (a + endL (c :: r)) ((c :: r).drop (endL (c :: r))) = scanG (a + endL (c :: r)) ((c :: r).drop (endL (c :: r))) :=
    scanF_fuel _ _ _ _ (by rw [List.length_drop, List.length_cons]; omega) (Nat.le_refl _)
  show scanF (r.length + 1) a (c :: r) = _
  rw [scanF, e]
  split <;> rfl
theorem cut_nat (z : Str) (a b : Nat) (h : a ≤ z.length) : cutS z (some (a : Int)) (some (b : Int)) = S (((cod z).drop a).take (b - a)) := by
  unfold cutS
  rw [HT.sIx_nat, HT.sIx_nat, Nat.min_eq_left h]
  have hl : (cod z).length = z.length := by simp [Str.length]
  by_cases hb : b ≤ z.length
  · rw [Nat.min_eq_left hb]
  · rw [Nat.min_eq_right (by omega), List.take_of_length_le (i := z.length - a) (by rw [List.length_drop, hl]; omega), List.take_of_length_le (i := b - a) (by rw [List.length_drop, hl]; omega)]
/-! the other machine's table, row by row -/
def tabL : List (Sy × Sy × List Sy) := [(.G, .not_, [.not_, .G]), (.G, .lb, [.lb, .C, .rb]), (.G, .integer, [.E, .K]), (.G, .name, [.E, .K]), (.G, .minus, [.E, .K]), (.G, .lp, [.E, .K]),
  (.K, .eq, [.eq, .E]), (.K, .ne, [.ne, .E]), (.K, .lt, [.lt, .E]), (.K, .le, [.le, .E]), (.K, .gt, [.gt, .E]), (.K, .ge, [.ge, .E]),
  (.Es, .plus, [.plus, .T, .Es]), (.Es, .minus, [.minus, .T, .Es]), (.Fs, .star, [.star, .F, .Fs]), (.Fs, .slash, [.slash, .F, .Fs]), (.Fs, .mod_, [.mod_, .F, .Fs]),
  (.F, .integer, [.integer]), (.F, .name, [.name]), (.F, .minus, [.minus, .F]), (.F, .lp, [.lp, .E, .rp]), (.Cs, .or_, [.or_, .J, .Cs]), (.Js, .and_, [.and_, .G, .Js])]
def alwL : List (Sy × List Sy) := [(.C, [.J, .Cs]), (.J, [.G, .Js]), (.E, [.T, .Es]), (.T, [.F, .Fs])]
def tabOf (t k : Sy) : Option (List Sy) := (tabL.find? fun r => decide (r.1 = t ∧ r.2.1 = k)).map (·.2.2)
def alwOf (t : Sy) : Option (List Sy) := (alwL.find? fun r => decide (r.1 = t)).map (·.2)
theorem more_tab (t k : Sy) : more t k = (tabOf t k).getD ((alwOf t).getD []) := by
  have h : ∀ t ∈ Sy.all, ∀ k ∈ Sy.all, more t k = (tabOf t k).getD ((alwOf t).getD []) := by decide +kernel
  exact h t t.mem_all k k.mem_all
/-- rows and where their lists stand -/
inductive TabAt (H : Hp) : List (Sy × Sy × List Sy) → List Addr → Prop where
  | nil : TabAt H [] []
  | cons {t k : Sy} {l : List Sy} {rs : List (Sy × Sy × List Sy)} {a : Addr} {as : List Addr} : H a = some (.lst ((l.map Sy.str).map V.str)) → TabAt H rs as → TabAt H ((t, k, l) :: rs) (a :: as)
def tKey (t k : Sy) : List Key := [Sum.inr t.str, Sum.inr k.str]
def tabK (rs : List (Sy × Sy × List Sy)) (as : List Addr) : List (List Key × V) := List.zipWith (fun r a => (tKey r.1 r.2.1, V.ref a)) rs as
theorem tKey_inj {t k t' k' : Sy} (h : tKey t k = tKey t' k') : t = t' ∧ k = k' := by
  unfold tKey at h
  injection h with h1 h2
  injection h2 with h2
  injection h1 with h1
  injection h2 with h2
  exact ⟨Sy.str_inj h1, Sy.str_inj h2⟩
theorem TabAt.keep {H H' : Hp} (k : ∀ a xs, H a = some (.lst xs) → a ∉ ([] : List Addr) → H' a = some (.lst xs)) {rs : List (Sy × Sy × List Sy)} {as : List Addr} (h : TabAt H rs as) : TabAt H' rs as := by
  induction h with
  | nil => exact .nil
  | cons h1 _ ih => exact .cons (k _ _ h1 (by simp)) ih
theorem TabAt.same {H H' : Hp} (e : Same H H') {rs : List (Sy × Sy × List Sy)} {as : List Addr} (h : TabAt H rs as) : TabAt H' rs as := h.keep fun a xs h _ => e a _ h
theorem TabAt.snoc {H : Hp} {t k : Sy} {l : List Sy} {a : Addr} (ha : H a = some (.lst ((l.map Sy.str).map V.str))) {rs : List (Sy × Sy × List Sy)} {as : List Addr} (h : TabAt H rs as) : TabAt H (rs ++ [(t, k, l)]) (as ++ [a]) := by
  induction h with
  | nil => exact .cons ha .nil
  | cons h1 _ ih => exact .cons h1 ih
theorem TabAt.len {H : Hp} {rs : List (Sy × Sy × List Sy)} {as : List Addr} (h : TabAt H rs as) : rs.length = as.length := by
  induction h with
  | nil => rfl
  | cons _ _ ih => simp [ih]
theorem tabK_snoc {t k : Sy} {l : List Sy} {a : Addr} : ∀ {rs : List (Sy × Sy × List Sy)} {as : List Addr}, rs.length = as.length → tabK (rs ++ [(t, k, l)]) (as ++ [a]) = tabK rs as ++ [(tKey t k, .ref a)]
  | [], [], _ => rfl
  | r :: rs, b :: as, h => by
    have := tabK_snoc (t := t) (k := k) (l := l) (a := a) (rs := rs) (as := as) (by simpa using h)
    unfold tabK at this ⊢
    simp only [List.cons_append, List.zipWith_cons_cons, this]
  | [], _ :: _, h => by simp at h
  | _ :: _, [], h => by simp at h
theorem tabK_val {H : Hp} {t k : Sy} {rs : List (Sy × Sy × List Sy)} {as : List Addr} (h : TabAt H rs as) :
    match (rs.find? fun r => decide (r.1 = t ∧ r.2.1 = k)).map (·.2.2) with
    | some l => ∃ a, valV (tabK rs as) (tKey t k) = some (.ref a) ∧ H a = some (.lst ((l.map Sy.str).map V.str))
    | none => valV (tabK rs as) (tKey t k) = none := by
  induction h with
  | nil => rfl
  | @cons t' k' l rs a as h1 h2 ih =>
    by_cases e : t' = t ∧ k' = k
    · obtain ⟨rfl, rfl⟩ := e
      rw [List.find?_cons, decide_eq_true (by exact ⟨rfl, rfl⟩)]
      refine ⟨a, ?_, h1⟩
      unfold valV tabK
      rw [List.zipWith_cons_cons, List.find?_cons, decide_eq_true (by rfl)]
      rfl
    · rw [List.find?_cons, decide_eq_false (by exact e)]
      have ev : valV (tabK ((t', k', l) :: rs) (a :: as)) (tKey t k) = valV (tabK rs as) (tKey t k) := by
        unfold valV tabK
        rw [List.zipWith_cons_cons, List.find?_cons, decide_eq_false (fun z => e (tKey_inj z))]
      rw [ev]
      exact ih
theorem tabK_keys : ∀ {rs : List (Sy × Sy × List Sy)} {as : List Addr}, rs.length = as.length → (tabK rs as).map (·.1) = rs.map fun r => tKey r.1 r.2.1
  | [], [], _ => rfl
  | r :: rs, b :: as, h => by
    have := tabK_keys (rs := rs) (as := as) (by simpa using h)
    unfold tabK at this ⊢
    simp only [List.zipWith_cons_cons, List.map_cons, this]
  | [], _ :: _, h => by simp at h
  | _ :: _, [], h => by simp at h
theorem putK_newT {kvs : List (List Key × V)} {k : List Key} {v : V} (h : k ∉ kvs.map (·.1)) : putK kvs k v = kvs ++ [(k, v)] := by
  unfold putK
  rw [if_neg]
  intro z
  simp only [List.any_eq_true, decide_eq_true_eq] at z
  obtain ⟨x, hx, e⟩ := z
  exact h (e ▸ List.mem_map_of_mem hx)
end Rx

set_option Elab.async false
set_option linter.all false
set_option maxRecDepth 100000
set_option maxHeartbeats 4000000
namespace Rx
open PySem PySem.Spec PyProof.Rows L2 SX
/-- the machine comes to an end at every key -/
def runsL : List Sy → List (Sy × Nat) → Prop
  | _, [] => True
  | pl, (k, _) :: ks => downL 12 pl k ≠ .out ∧ ∀ t q, downL 12 pl k = .at_ (t :: q) → runsL q ks
theorem stops_runs {ts : List (Str × V × Nat)} {ks : List (Sy × Nat)} (h : Keys ts ks) : ∀ {g : Stg} {m n : Nat} {r : RS} {pl : List Sy}, Sound g m n r → Like (specP g r.cond r.cmp m n) pl → runsL pl ks := by
  have out : ∀ {l : List Sy} {x : List Sy} {k : Sy}, downL 8 l k = .at_ x → downL 8 l k ≠ .out := fun e z => by rw [e] at z; cases z
  have outb : ∀ {l : List Sy} {k : Sy}, downL 8 l k = .bad → downL 8 l k ≠ .out := fun e z => by rw [e] at z; cases z
  induction h with
  | @end_ v p =>
    intro g m n r pl S L
    have hk : Sy.end_ ∈ Sy.terms := by decide
    refine ⟨?_, fun t q _ => trivial⟩
    cases hf : r.fits "end" with
    | true =>
      rcases fit_goes S hk hf v with ⟨z, _⟩ | ⟨_, q, d, h1, h2, h3, h4⟩
      · exact absurd rfl z
      · rw [L _ hk (out h4), h4]
        intro z; cases z
    | false =>
      rcases no_fit hk ((S.fits hk).symm.trans hf) with e | ⟨e, _⟩
      · rw [L _ hk (outb e), e]
        intro z; cases z
      · rw [L _ hk (out e), e]
        intro z; cases z
  | @cons k v p ts ks hk hne _ ih =>
    intro g m n r pl S L
    cases hf : r.fits k.sign with
    | true =>
      rcases fit_goes S hk hf v with ⟨_, q, hq, g', m', n', pl', S', e, L'⟩ | ⟨z, _⟩
      · refine ⟨(by rw [L _ hk (out e), e]; intro z; cases z), fun t x hx => ?_⟩
        rw [L _ hk (out e), e] at hx
        injection hx with hx
        injection hx with _ hx
        subst hx
        exact ih S' L'
      · exact absurd z hne
    | false =>
      rcases no_fit hk ((S.fits hk).symm.trans hf) with e | ⟨e, _⟩
      · rw [runsL, L _ hk (outb e), e]
        exact ⟨(fun z => by cases z), fun t q z => by cases z⟩
      · rw [runsL, L _ hk (out e), e]
        exact ⟨(fun z => by cases z), fun t q z => by cases z⟩
theorem runs_start {ts : List (Str × V × Nat)} {ks : List (Sy × Nat)} (h : Keys ts ks) (c : Bool) : runsL [if c = true then .C else .E] ks := by
  cases c with
  | true => exact stops_runs h (r := RS.start true) (g := .cond) (m := 0) (n := 0) ⟨rfl, rfl, rfl, rfl, (fun _ z => by cases z), (fun _ z => by cases z), (fun z => by cases z), (fun _ => ⟨rfl, rfl⟩), fun _ => rfl⟩ (like_C [])
  | false => exact stops_runs h (r := RS.start false) (g := .fac) (m := 0) (n := 0) ⟨rfl, rfl, rfl, rfl, (fun _ z => by cases z), (fun _ z => by cases z), (fun _ => ⟨rfl, .inl rfl⟩), (fun z => by cases z), fun _ => rfl⟩ (like_E [])
theorem Keys.terms {ts : List (Str × V × Nat)} {ks : List (Sy × Nat)} (h : Keys ts ks) : ∀ x ∈ ks, x.1 ∈ Sy.terms := by
  induction h with
  | end_ =>
    intro x hx
    rw [List.mem_singleton.mp hx]
    show Sy.end_ ∈ Sy.terms
    decide
  | cons hk _ _ ih =>
    intro x hx
    rcases List.mem_cons.mp hx with e | hx
    · rw [e]; exact hk
    · exact ih x hx
theorem more_len (t k : Sy) : (more t k).length ≤ 3 := by
  have h : ∀ t ∈ Sy.all, ∀ k ∈ Sy.all, (more t k).length ≤ 3 := by decide +kernel
  exact h t t.mem_all k k.mem_all
theorem sy_ok (k : Sy) : PyData.strOk k.str = true := by
  have h : ∀ k ∈ Sy.all, PyData.strOk k.str = true := by decide +kernel
  exact h k k.mem_all
def nulS : List Str := ["Cs", "Js", "Es", "Fs"]
theorem nul_in (t : Sy) : nulS.contains t.str = nul t := by
  have h : ∀ k ∈ Sy.all, nulS.contains k.str = nul k := by decide +kernel
  exact h t t.mem_all
/-- the pile as a list, its top last -/
def pileV (pl : List Sy) : List V := ((pl.map Sy.str).reverse).map V.str
theorem pileV_cons (t : Sy) (pl : List Sy) : pileV (t :: pl) = pileV pl ++ [.str t.str] := by unfold pileV; simp
theorem pileV_app (l pl : List Sy) : pileV (l ++ pl) = pileV pl ++ ((l.map Sy.str).map V.str).reverse := by unfold pileV; simp
theorem pileV_len (pl : List Sy) : (pileV pl).length = pl.length := by unfold pileV; simp
def alwK (a1 a2 a3 a4 : Addr) : List (Key × V) := [(Sum.inr "C", .ref a1), (Sum.inr "J", .ref a2), (Sum.inr "E", .ref a3), (Sum.inr "T", .ref a4)]
def symL (H : Hp) (a : Addr) (l : List Sy) : Prop := H a = some (.lst ((l.map Sy.str).map V.str))
structure AlwAt (H : Hp) (d a1 a2 a3 a4 : Addr) : Prop where
  at_ : H d = some (.dK (alwK a1 a2 a3 a4))
  h1 : symL H a1 [.J, .Cs]
  h2 : symL H a2 [.G, .Js]
  h3 : symL H a3 [.T, .Es]
  h4 : symL H a4 [.F, .Fs]
theorem AlwAt.same {H H' : Hp} {d a1 a2 a3 a4 : Addr} (h : AlwAt H d a1 a2 a3 a4) (e : Same H H') : AlwAt H' d a1 a2 a3 a4 := ⟨e _ _ h.at_, e _ _ h.h1, e _ _ h.h2, e _ _ h.h3, e _ _ h.h4⟩
theorem alw_val {H : Hp} {d a1 a2 a3 a4 : Addr} (h : AlwAt H d a1 a2 a3 a4) (t : Sy) : match alwOf t with
    | some l => ∃ a, valV (alwK a1 a2 a3 a4) (Sum.inr t.str) = some (.ref a) ∧ symL H a l
    | none => valV (alwK a1 a2 a3 a4) (Sum.inr t.str) = none := by
  have hc : ∀ t ∈ Sy.all, (t.str = Sy.C.str ↔ t = .C) ∧ (t.str = Sy.J.str ↔ t = .J) ∧ (t.str = Sy.E.str ↔ t = .E) ∧ (t.str = Sy.T.str ↔ t = .T) := fun t _ =>
    ⟨⟨Sy.str_inj, fun e => by rw [e]⟩, ⟨Sy.str_inj, fun e => by rw [e]⟩, ⟨Sy.str_inj, fun e => by rw [e]⟩, ⟨Sy.str_inj, fun e => by rw [e]⟩⟩
  have step : ∀ (s : Sy) (v : V) (kvs : List (Key × V)), valV ((Sum.inr s.str, v) :: kvs) (Sum.inr t.str) = if s = t then some v else valV kvs (Sum.inr t.str) := fun s v kvs => by
    unfold valV
    rw [List.find?_cons]
    by_cases e : s = t
    · subst e
      rw [decide_eq_true (by rfl), if_pos rfl]
      rfl
    · rw [decide_eq_false (fun z => e (by injection z with z; exact Sy.str_inj z)), if_neg e]
  have e1 : valV (alwK a1 a2 a3 a4) (Sum.inr t.str) = if Sy.C = t then some (.ref a1) else if Sy.J = t then some (.ref a2) else if Sy.E = t then some (.ref a3) else if Sy.T = t then some (.ref a4) else none := by
    have := step .C (.ref a1) [(Sum.inr Sy.J.str, .ref a2), (Sum.inr Sy.E.str, .ref a3), (Sum.inr Sy.T.str, .ref a4)]
    rw [step .J, step .E, step .T] at this
    exact this
  cases t <;> simp only [alwOf, alwL, List.find?] <;> simp [e1] <;> first | exact h.h1 | exact h.h2 | exact h.h3 | exact h.h4
/-- what the table and the other dict give -/
theorem more_at {H : Hp} {d a1 a2 a3 a4 e : Addr} {as : List Addr} (T : TabAt H tabL as) (A : AlwAt H d a1 a2 a3 a4) (he : H e = some (.lst [])) (t k : Sy) :
    ∃ x, (valV (tabK tabL as) (tKey t k)).getD ((valV (alwK a1 a2 a3 a4) (Sum.inr t.str)).getD (.ref e)) = .ref x ∧ symL H x (more t k) := by
  have h1 := tabK_val (t := t) (k := k) T
  have h2 := alw_val A t
  rw [more_tab]
  unfold tabOf
  cases e1 : (tabL.find? fun r => decide (r.1 = t ∧ r.2.1 = k)).map (·.2.2) with
  | some l =>
    rw [e1] at h1
    obtain ⟨a, h3, h4⟩ := h1
    exact ⟨a, by rw [h3]; rfl, h4⟩
  | none =>
    rw [e1] at h1
    rw [h1]
    cases e2 : alwOf t with
    | some l =>
      rw [e2] at h2
      obtain ⟨a, h3, h4⟩ := h2
      exact ⟨a, by rw [h3]; rfl, h4⟩
    | none =>
      rw [e2] at h2
      rw [h2]
      exact ⟨e, rfl, he⟩
end Rx

set_option Elab.async false
set_option linter.all false
set_option maxRecDepth 100000
set_option maxHeartbeats 4000000
namespace Rx
open PySem PySem.Spec PyProof.Rows L2 SX
/-! ### the keys of a laid out text -/
theorem cls_key {s : Str} (h : GoodT s) : (cls s).1 = (keyW (cod s)).sign := by
  obtain ⟨h1, c, r, e, _⟩ := tok_app h (rest := []) (fun c h => by cases h)
  rw [List.append_nil] at h1
  obtain ⟨v, h2⟩ := tok_key (c := c) (r := r)
  rw [← e] at h2
  rw [h1] at h2
  have h3 := congrArg (fun x => x.2.2) h2
  have h4 := congrArg (fun x => x.1) h2
  dsimp only at h3 h4
  rw [h4, ← h3, List.take_of_length_le (by rw [cod_len]; exact Nat.le_refl _)]
def keysOf : Nat → List (Nat × Str) → List (Sy × Nat)
  | _, [] => []
  | a, (k, s) :: ps => (keyW (cod s), a + k) :: keysOf (a + k + s.length) ps
theorem keys_lay : ∀ (ps : List (Nat × Str)) (a t : Nat), LayI ps → Keys (toksG a (flat ps ++ sp t)) (keysOf a ps ++ [(.end_, a + (flat ps).length + t)])
  | [], a, t, _ => by
    have := toksG_sp t a []
    rw [List.append_nil] at this
    show Keys (toksG a (sp t)) _
    rw [this]
    have e : a + (flat []).length + t = a + t := by simp [flat]
    rw [e]
    exact .end_
  | (k, s) :: ps, a, t, h => by
    have e : flat ((k, s) :: ps) ++ sp t = sp k ++ (cod s ++ (flat ps ++ sp t)) := by
      unfold flat sp
      rw [List.flatMap_cons, List.append_assoc, List.append_assoc]
    have el : (flat ((k, s) :: ps)).length = k + s.length + (flat ps).length := by
      have : flat ((k, s) :: ps) = (sp k ++ cod s) ++ flat ps := by unfold flat sp; rw [List.flatMap_cons]
      rw [this, List.length_append, List.length_append, cod_len]
      unfold sp
      rw [List.length_replicate]
    rw [e, toksG_sp, toksG_tok (h.good _ List.mem_cons_self) (head_glue h t), keysOf, List.cons_append, cls_key (h.good _ List.mem_cons_self), el, show a + (k + s.length + (flat ps).length) + t = a + k + s.length + (flat ps).length + t by omega]
    have kt := keyW_term (cod s)
    exact .cons kt.1 kt.2 (keys_lay ps _ t h.tail)
theorem keysOf_zip : ∀ (ps : List (Nat × Str)) (a : Nat), keysOf a ps = ((ps.map (·.2)).map fun s => keyW (cod s)).zip (begs a ps)
  | [], _ => rfl
  | (k, s) :: ps, a => by
    rw [keysOf, keysOf_zip ps, List.map_cons, List.map_cons, begs, List.zip_cons_cons]
theorem keys_text {ps : List (Nat × Str)} (h : LayI ps) (a t : Nat) {z : Str} (hz : cod z = sp a ++ (flat ps ++ sp t)) : Keys (toks (cod z)) (((ps.map (·.2)).map fun s => keyW (cod s)).zip (begs a ps) ++ [(.end_, z.length)]) := by
  have h1 := toksG_sp a 0 (flat ps ++ sp t)
  have hl : z.length = 0 + a + (flat ps).length + t := by
    rw [← cod_len, hz]
    simp [sp]
    omega
  rw [hz, ← keysOf_zip, hl]
  show Keys (toksG 0 _) _
  rw [h1]
  have := keys_lay ps (0 + a) t h
  rw [Nat.zero_add] at this ⊢
  exact this
theorem begs_len : ∀ (ps : List (Nat × Str)) (a : Nat), (begs a ps).length = ps.length
  | [], _ => rfl
  | (k, s) :: ps, a => by rw [begs, List.length_cons, List.length_cons, begs_len ps]
end Rx

set_option Elab.async false
set_option linter.all false
set_option maxRecDepth 100000
set_option maxHeartbeats 4000000
namespace Rx
open PySem PySem.Spec PyProof.Rows L2 SX
/-! ### trees, and their texts -/
inductive Tr where
  | num (n : Int) | var (x : Str) | pre (w : Str) (a : Tr) | bin (w : Str) (a b : Tr)
def Tr.word : Tr → Str
  | .num _ => "number" | .var _ => "variable" | .pre w _ => w | .bin w _ _ => w
def Tr.bnd (t : Tr) : Int := bindOf t.word
def Tr.data : Tr → PyData
  | .num n => nNum n | .var x => nVar x | .pre w a => .tuple [.str w, a.data] | .bin w a b => nBin w a.data b.data
def encl (b l : Int) (x : List Nat) : List Nat := if l ≤ b then x else if b < 5 then 91 :: (x ++ [93]) else 40 :: (x ++ [41])
def preC (w : Str) : List Nat := if w = "negate" then [45] else [110, 111, 116, 32]
def Tr.txt : Tr → List Nat
  | .num n => cod (numS n)
  | .var x => cod x
  | .pre w a => preC w ++ encl a.bnd (bindOf w) a.txt
  | .bin w a b => encl a.bnd (bindOf w) a.txt ++ ((32 :: cod w ++ [32]) ++ encl b.bnd (bindOf w + 1) b.txt)
inductive Ty : Bool → Nat → Tr → Prop where
  | num {k : Nat} {n : Int} (h : n ∈ numL) : Ty false k (.num n)
  | var {k : Nat} {x : Str} (h : isName (cod x) = true) : Ty false k (.var x)
  | neg {k : Nat} {a : Tr} : Ty false k a → Ty false (k + 1) (.pre "negate" a)
  | bin {k : Nat} {w : Str} {a b : Tr} : w ∈ arithL → Ty false k a → Ty false k b → Ty false (k + 1) (.bin w a b)
  | cmp {k : Nat} {w : Str} {a b : Tr} : w ∈ compL → Ty false k a → Ty false k b → Ty true (k + 1) (.bin w a b)
  | not_ {k : Nat} {a : Tr} : Ty true k a → Ty true (k + 1) (.pre "not" a)
  | log {k : Nat} {w : Str} {a b : Tr} : w ∈ logL → Ty true k a → Ty true k b → Ty true (k + 1) (.bin w a b)
theorem TR.tr {b : Bool} {n : Nat} {d : PyData} (h : TR b n d) : ∃ t, d = t.data ∧ Ty b n t := by
  induction h with
  | @num k n h => exact ⟨.num n, rfl, .num h⟩
  | @var k x h => exact ⟨.var x, rfl, .var h⟩
  | neg _ ih => obtain ⟨t, rfl, h⟩ := ih; exact ⟨.pre "negate" t, rfl, .neg h⟩
  | @bin k w _ _ hw _ _ i1 i2 => obtain ⟨t, rfl, h⟩ := i1; obtain ⟨u, rfl, g⟩ := i2; exact ⟨.bin w t u, rfl, .bin hw h g⟩
  | @cmp k w _ _ hw _ _ i1 i2 => obtain ⟨t, rfl, h⟩ := i1; obtain ⟨u, rfl, g⟩ := i2; exact ⟨.bin w t u, rfl, .cmp hw h g⟩
  | not_ _ ih => obtain ⟨t, rfl, h⟩ := ih; exact ⟨.pre "not" t, rfl, .not_ h⟩
  | @log k w _ _ hw _ _ i1 i2 => obtain ⟨t, rfl, h⟩ := i1; obtain ⟨u, rfl, g⟩ := i2; exact ⟨.bin w t u, rfl, .log hw h g⟩
theorem Ty.tr {b : Bool} {n : Nat} {t : Tr} (h : Ty b n t) : TR b n t.data := by
  induction h with
  | num h => exact .num h
  | var h => exact .var h
  | neg _ ih => exact .neg ih
  | bin hw _ _ i1 i2 => exact .bin hw i1 i2
  | cmp hw _ _ i1 i2 => exact .cmp hw i1 i2
  | not_ _ ih => exact .not_ ih
  | log hw _ _ i1 i2 => exact .log hw i1 i2
/-! the other writing -/
def Tr.rk (t : Tr) : Nat := Rx.rk t.word
def barL (w : Str) : Nat := if logL.contains w = true then 91 else 40
def barR (w : Str) : Nat := if logL.contains w = true then 93 else 41
def wrap (w : Str) (l : Nat) (x : List Nat) : List Nat := if Rx.rk w < l then barL w :: (x ++ [barR w]) else x
def Tr.can : Tr → Nat → List Nat
  | .num n, l => wrap "number" l (cod (numS n))
  | .var x, l => wrap "variable" l (cod x)
  | .pre w a, l => wrap w l (preC w ++ a.can 3)
  | .bin w a b, l => wrap w l (if compL.contains w = true then a.can 1 ++ ((32 :: cod w ++ [32]) ++ b.can 1) else a.can (Rx.rk w) ++ ((32 :: cod w ++ [32]) ++ b.can (Rx.rk w + 1)))
def lv (b : Bool) (l : Nat) : Int := if b = true then (l : Int) else (l : Int) + 4
theorem wordsF : bindOf "number" = 8 ∧ bindOf "variable" = 8 ∧ bindOf "negate" = 7 ∧ bindOf "not" = 3 ∧ Rx.rk "number" = 3 ∧ Rx.rk "variable" = 3 ∧ Rx.rk "negate" = 3 ∧ Rx.rk "not" = 3 := by decide +kernel
theorem arithF : ∀ w ∈ arithL, bindOf w = (Rx.rk w : Int) + 4 ∧ 1 ≤ Rx.rk w ∧ Rx.rk w ≤ 2 ∧ logL.contains w = false ∧ compL.contains w = false := by decide +kernel
theorem compF : ∀ w ∈ compL, bindOf w = 4 ∧ Rx.rk w = 3 ∧ logL.contains w = false := by decide +kernel
theorem logF : ∀ w ∈ logL, bindOf w = (Rx.rk w : Int) ∧ 1 ≤ Rx.rk w ∧ Rx.rk w ≤ 2 ∧ compL.contains w = false := by decide +kernel
theorem Ty.bnd {b : Bool} {n : Nat} {t : Tr} (h : Ty b n t) : (b = false → 5 ≤ t.bnd) ∧ (b = true → 1 ≤ t.bnd ∧ t.bnd < 5) := by
  obtain ⟨w1, w2, w3, w4, _⟩ := wordsF
  cases h with
  | num _ => exact ⟨(fun _ => by show 5 ≤ bindOf "number"; rw [w1]; decide), fun z => by cases z⟩
  | var _ => exact ⟨(fun _ => by show 5 ≤ bindOf "variable"; rw [w2]; decide), fun z => by cases z⟩
  | neg _ => exact ⟨(fun _ => by show 5 ≤ bindOf "negate"; rw [w3]; decide), fun z => by cases z⟩
  | @bin k w _ _ hw _ _ => obtain ⟨a1, a2, _⟩ := arithF w hw; exact ⟨(fun _ => by show 5 ≤ bindOf w; omega), fun z => by cases z⟩
  | @cmp k w _ _ hw _ _ => obtain ⟨a1, _⟩ := compF w hw; exact ⟨(fun z => by cases z), fun _ => by show 1 ≤ bindOf w ∧ bindOf w < 5; omega⟩
  | not_ _ => exact ⟨(fun z => by cases z), fun _ => by show 1 ≤ bindOf "not" ∧ bindOf "not" < 5; rw [w4]; decide⟩
  | @log k w _ _ hw _ _ => obtain ⟨a1, a2, a3, _⟩ := logF w hw; exact ⟨(fun z => by cases z), fun _ => by show 1 ≤ bindOf w ∧ bindOf w < 5; omega⟩
/-- both are the same -/
theorem can_eq {b : Bool} {n : Nat} {t : Tr} (h : Ty b n t) : ∀ l, 1 ≤ l → l ≤ 3 → t.can l = encl t.bnd (lv b l) t.txt := by
  obtain ⟨w1, w2, w3, w4, v1, v2, v3, v4⟩ := wordsF
  have noE : ∀ {bb l : Int} {x : List Nat}, l ≤ bb → encl bb l x = x := fun h => by unfold encl; rw [if_pos h]
  induction h with
  | @num k n h =>
    intro l h1 h3
    rw [noE (by show lv false l ≤ bindOf "number"; rw [w1]; unfold lv; simp; omega)]
    show wrap _ _ _ = _
    unfold wrap
    rw [if_neg (by omega)]
    rfl
  | @var k x h =>
    intro l h1 h3
    rw [noE (by show lv false l ≤ bindOf "variable"; rw [w2]; unfold lv; simp; omega)]
    show wrap _ _ _ = _
    unfold wrap
    rw [if_neg (by omega)]
    rfl
  | @neg k a ha ih =>
    intro l h1 h3
    rw [noE (by show lv false l ≤ bindOf "negate"; rw [w3]; unfold lv; simp; omega)]
    show wrap _ _ _ = preC "negate" ++ encl a.bnd (bindOf "negate") a.txt
    unfold wrap
    rw [if_neg (by omega), ih 3 (by decide) (by decide), w3]
    rfl
  | @bin k w a b hw ha hb i1 i2 =>
    intro l h1 h3
    obtain ⟨a1, a2, a3, a4, a5⟩ := arithF w hw
    have body : (if compL.contains w = true then a.can 1 ++ ((32 :: cod w ++ [32]) ++ b.can 1) else a.can (Rx.rk w) ++ ((32 :: cod w ++ [32]) ++ b.can (Rx.rk w + 1))) = (Tr.bin w a b).txt := by
      rw [a5, if_neg (by decide), i1 _ a2 (by omega), i2 _ (by omega) (by omega)]
      show _ = encl a.bnd (bindOf w) a.txt ++ ((32 :: cod w ++ [32]) ++ encl b.bnd (bindOf w + 1) b.txt)
      rw [a1, show lv false (Rx.rk w) = (Rx.rk w : Int) + 4 from rfl, show lv false (Rx.rk w + 1) = ((Rx.rk w + 1 : Nat) : Int) + 4 from rfl, show (((Rx.rk w + 1 : Nat) : Int) + 4) = (Rx.rk w : Int) + 4 + 1 by omega]
    show wrap w l _ = encl (bindOf w) (lv false l) _
    rw [body]
    unfold wrap encl
    rw [a1, show lv false l = (l : Int) + 4 from rfl]
    by_cases hl : Rx.rk w < l
    · rw [if_pos hl, if_neg (by omega), if_neg (by omega)]
      unfold barL barR
      rw [a4]
      rfl
    · rw [if_neg hl, if_pos (by omega)]
  | @cmp k w a b hw ha hb i1 i2 =>
    intro l h1 h3
    obtain ⟨a1, a2, a3⟩ := compF w hw
    have body : (if compL.contains w = true then a.can 1 ++ ((32 :: cod w ++ [32]) ++ b.can 1) else a.can (Rx.rk w) ++ ((32 :: cod w ++ [32]) ++ b.can (Rx.rk w + 1))) = (Tr.bin w a b).txt := by
      rw [List.contains_iff_mem.mpr hw, if_pos rfl, i1 1 (by decide) (by decide), i2 1 (by decide) (by decide)]
      show _ = encl a.bnd (bindOf w) a.txt ++ ((32 :: cod w ++ [32]) ++ encl b.bnd (bindOf w + 1) b.txt)
      have ba := ha.bnd.1 rfl
      have bb := hb.bnd.1 rfl
      rw [a1, noE (show lv false 1 ≤ a.bnd from ba), noE (show lv false 1 ≤ b.bnd from bb), noE (show (4 : Int) ≤ a.bnd by omega), noE (show (4 : Int) + 1 ≤ b.bnd by omega)]
    show wrap w l _ = encl (bindOf w) (lv true l) _
    rw [body]
    unfold wrap
    rw [if_neg (by omega), noE (by rw [a1]; show (l : Int) ≤ 4; omega)]
  | @not_ k a ha ih =>
    intro l h1 h3
    rw [noE (by show lv true l ≤ bindOf "not"; rw [w4]; show (l : Int) ≤ 3; omega)]
    show wrap _ _ _ = preC "not" ++ encl a.bnd (bindOf "not") a.txt
    unfold wrap
    rw [if_neg (by omega), ih 3 (by decide) (by decide), w4]
    rfl
  | @log k w a b hw ha hb i1 i2 =>
    intro l h1 h3
    obtain ⟨a1, a2, a3, a5⟩ := logF w hw
    have body : (if compL.contains w = true then a.can 1 ++ ((32 :: cod w ++ [32]) ++ b.can 1) else a.can (Rx.rk w) ++ ((32 :: cod w ++ [32]) ++ b.can (Rx.rk w + 1))) = (Tr.bin w a b).txt := by
      rw [a5, if_neg (by decide), i1 _ a2 (by omega), i2 _ (by omega) (by omega)]
      show _ = encl a.bnd (bindOf w) a.txt ++ ((32 :: cod w ++ [32]) ++ encl b.bnd (bindOf w + 1) b.txt)
      rw [a1, show lv true (Rx.rk w) = (Rx.rk w : Int) from rfl, show lv true (Rx.rk w + 1) = ((Rx.rk w + 1 : Nat) : Int) from rfl, show ((Rx.rk w + 1 : Nat) : Int) = (Rx.rk w : Int) + 1 by omega]
    show wrap w l _ = encl (bindOf w) (lv true l) _
    rw [body]
    unfold wrap encl
    rw [a1, show lv true l = (l : Int) from rfl]
    by_cases hl : Rx.rk w < l
    · rw [if_pos hl, if_neg (by omega), if_pos (by omega)]
      unfold barL barR
      rw [List.contains_iff_mem.mpr hw]
      rfl
    · rw [if_neg hl, if_pos (by omega)]
theorem can_one {b : Bool} {n : Nat} {t : Tr} (h : Ty b n t) : t.can 1 = t.txt := by
  rw [can_eq h 1 (by decide) (by decide)]
  unfold encl
  rw [if_pos]
  cases b with
  | false => exact h.bnd.1 rfl
  | true => exact (h.bnd.2 rfl).1
/-! the text, token by token -/
def layE (b l : Int) (k : Nat) (f : Nat → List (Nat × Str)) : List (Nat × Str) := if l ≤ b then f k else if b < 5 then (k, ("[" : Str)) :: (f 0 ++ [(0, ("]" : Str))]) else (k, ("(" : Str)) :: (f 0 ++ [(0, (")" : Str))])
def Tr.lay : Tr → Nat → List (Nat × Str)
  | .num n, k => [(k, numS n)]
  | .var x, k => [(k, x)]
  | .pre w a, k => if w = "negate" then (k, "-") :: layE a.bnd (bindOf w) 0 a.lay else (k, "not") :: layE a.bnd (bindOf w) 1 a.lay
  | .bin w a b, k => layE a.bnd (bindOf w) k a.lay ++ (1, w) :: layE b.bnd (bindOf w + 1) 1 b.lay
theorem flat_app (xs ys : List (Nat × Str)) : flat (xs ++ ys) = flat xs ++ flat ys := by unfold flat; rw [List.flatMap_append]
theorem flat_cons (k : Nat) (s : Str) (ys : List (Nat × Str)) : flat ((k, s) :: ys) = (sp k ++ cod s) ++ flat ys := by unfold flat sp; rw [List.flatMap_cons]
theorem flat_one (k : Nat) (s : Str) : flat [(k, s)] = sp k ++ cod s := by rw [flat_cons]; simp [flat]
theorem layE_flat {b l : Int} {k : Nat} {f : Nat → List (Nat × Str)} {x : List Nat} (h : ∀ k, flat (f k) = sp k ++ x) : flat (layE b l k f) = sp k ++ encl b l x := by
  have c1 : cod "[" = [91] := by decide +kernel
  have c2 : cod "]" = [93] := by decide +kernel
  have c3 : cod "(" = [40] := by decide +kernel
  have c4 : cod ")" = [41] := by decide +kernel
  unfold layE encl
  split
  · exact h k
  · split
    · rw [flat_cons, flat_app, h 0, flat_one, c1, c2]; simp [sp]
    · rw [flat_cons, flat_app, h 0, flat_one, c3, c4]; simp [sp]
theorem lay_flat : ∀ (t : Tr) (k : Nat), flat (t.lay k) = sp k ++ t.txt
  | .num n, k => flat_one _ _
  | .var x, k => flat_one _ _
  | .pre w a, k => by
    unfold Tr.lay Tr.txt preC
    have c1 : cod "-" = [45] := by decide +kernel
    have c2 : cod "not" = [110, 111, 116] := by decide +kernel
    split
    · rw [flat_cons, layE_flat (lay_flat a), c1]; simp [sp]
    · rw [flat_cons, layE_flat (lay_flat a), c2]; simp [sp]
  | .bin w a b, k => by
    unfold Tr.lay Tr.txt
    rw [flat_app, flat_cons, layE_flat (lay_flat a), layE_flat (lay_flat b)]
    simp [sp]
/-- what the tokens are the tokens of -/
theorem layE_toks {b : Bool} {n : Nat} {t : Tr} (h : Ty b n t) : (∀ l, 1 ≤ l → l ≤ 3 → lv b l ≤ t.bnd → ∀ k, TT b l t.data ((t.lay k).map (·.2))) ∧ ∀ l, 1 ≤ l → l ≤ 3 → ∀ k, TT b l t.data ((layE t.bnd (lv b l) k t.lay).map (·.2)) := by
  obtain ⟨w1, w2, w3, w4, _⟩ := wordsF
  have wr : ∀ {b : Bool} {n : Nat} {t : Tr}, Ty b n t → (∀ l, 1 ≤ l → l ≤ 3 → lv b l ≤ t.bnd → ∀ k, TT b l t.data ((t.lay k).map (·.2))) → ∀ l, 1 ≤ l → l ≤ 3 → ∀ k, TT b l t.data ((layE t.bnd (lv b l) k t.lay).map (·.2)) := by
    intro b n t h g l h1 h3 k
    unfold layE
    by_cases hl : lv b l ≤ t.bnd
    · rw [if_pos hl]; exact g l h1 h3 hl k
    · rw [if_neg hl]
      cases b with
      | true =>
        have hb := h.bnd.2 rfl
        rw [if_pos hb.2, List.map_cons, List.map_append]
        exact CT.br (g 1 (by decide) (by decide) hb.1 0)
      | false =>
        have hb := h.bnd.1 rfl
        rw [if_neg (by omega), List.map_cons, List.map_append]
        exact ET.par (g 1 (by decide) (by decide) hb 0)
  have fin : ∀ {b : Bool} {n : Nat} {t : Tr}, Ty b n t → (∀ l, 1 ≤ l → l ≤ 3 → lv b l ≤ t.bnd → ∀ k, TT b l t.data ((t.lay k).map (·.2))) → (∀ l, 1 ≤ l → l ≤ 3 → lv b l ≤ t.bnd → ∀ k, TT b l t.data ((t.lay k).map (·.2))) ∧ ∀ l, 1 ≤ l → l ≤ 3 → ∀ k, TT b l t.data ((layE t.bnd (lv b l) k t.lay).map (·.2)) := fun h g => ⟨g, wr h g⟩
  induction h with
  | @num k n h => exact fin (.num (k := k) h) fun l _ _ _ _ => ET.num h
  | @var k x h => exact fin (.var (k := k) h) fun l _ _ _ _ => ET.var h
  | @neg k a ha ih =>
    refine fin (.neg ha) fun l h1 h3 _ k => ?_
    have := ih.2 3 (by decide) (by decide) 0
    show ET l _ ((if ("negate" : Str) = "negate" then _ else _ : List (Nat × Str)).map (·.2))
    rw [if_pos rfl, w3, List.map_cons]
    exact ET.neg this
  | @bin k w a b hw ha hb i1 i2 =>
    refine fin (.bin hw ha hb) fun l h1 h3 hl k => ?_
    obtain ⟨a1, a2, a3, _⟩ := arithF w hw
    have hl' : (l : Int) + 4 ≤ bindOf w := hl
    have t1 := i1.2 (Rx.rk w) a2 (by omega) k
    have t2 := i2.2 (Rx.rk w + 1) (by omega) (by omega) 1
    rw [show lv false (Rx.rk w) = bindOf w from a1.symm] at t1
    rw [show lv false (Rx.rk w + 1) = bindOf w + 1 by unfold lv; simp; omega] at t2
    show ET l _ ((layE a.bnd (bindOf w) k a.lay ++ (1, w) :: layE b.bnd (bindOf w + 1) 1 b.lay).map (·.2))
    rw [List.map_append, List.map_cons]
    have cl : (w ∈ addL ∧ Rx.rk w = 1) ∨ (w ∈ mulL ∧ Rx.rk w = 2) := by
      have : ∀ w ∈ arithL, (w ∈ addL ∧ Rx.rk w = 1) ∨ (w ∈ mulL ∧ Rx.rk w = 2) := by decide +kernel
      exact this w hw
    rcases cl with ⟨c1, c2⟩ | ⟨c1, c2⟩
    · rw [c2] at t1 t2
      exact ET.add c1 (by omega) t1 t2
    · rw [c2] at t1 t2
      exact ET.mul c1 (by omega) t1 t2
  | @cmp k w a b hw ha hb i1 i2 =>
    refine fin (.cmp hw ha hb) fun l h1 h3 hl k => ?_
    obtain ⟨a1, a2, _⟩ := compF w hw
    have ba := ha.bnd.1 rfl
    have bb := hb.bnd.1 rfl
    have t1 := i1.1 1 (by decide) (by decide) ba k
    have t2 := i2.1 1 (by decide) (by decide) bb 1
    show CT l _ ((layE a.bnd (bindOf w) k a.lay ++ (1, w) :: layE b.bnd (bindOf w + 1) 1 b.lay).map (·.2))
    unfold layE
    rw [a1, if_pos (by omega), if_pos (by omega), List.map_append, List.map_cons]
    exact CT.cmp hw t1 t2
  | @not_ k a ha ih =>
    refine fin (.not_ ha) fun l h1 h3 _ k => ?_
    have := ih.2 3 (by decide) (by decide) 1
    show CT l _ ((if ("not" : Str) = "negate" then _ else _ : List (Nat × Str)).map (·.2))
    rw [if_neg (by decide +kernel), w4, List.map_cons]
    exact CT.not_ this
  | @log k w a b hw ha hb i1 i2 =>
    refine fin (.log hw ha hb) fun l h1 h3 hl k => ?_
    obtain ⟨a1, a2, a3, _⟩ := logF w hw
    have hl' : (l : Int) ≤ bindOf w := hl
    have t1 := i1.2 (Rx.rk w) a2 (by omega) k
    have t2 := i2.2 (Rx.rk w + 1) (by omega) (by omega) 1
    rw [show lv true (Rx.rk w) = bindOf w from a1.symm] at t1
    rw [show lv true (Rx.rk w + 1) = bindOf w + 1 by unfold lv; simp; omega] at t2
    show CT l _ ((layE a.bnd (bindOf w) k a.lay ++ (1, w) :: layE b.bnd (bindOf w + 1) 1 b.lay).map (·.2))
    rw [List.map_append, List.map_cons]
    have cl : (w = "or" ∧ Rx.rk w = 1) ∨ (w = "and" ∧ Rx.rk w = 2) := by
      have : ∀ w ∈ logL, (w = "or" ∧ Rx.rk w = 1) ∨ (w = "and" ∧ Rx.rk w = 2) := by decide +kernel
      exact this w hw
    rcases cl with ⟨c1, c2⟩ | ⟨c1, c2⟩
    · rw [c2] at t1 t2
      subst c1
      exact CT.or_ (by omega) t1 t2
    · rw [c2] at t1 t2
      subst c1
      exact CT.and_ (by omega) t1 t2
/-! no two tokens grow together -/
def openL : List Str := ["-", "(", "["]
def closeL : List Str := [")", "]"]
def Ch : Option Str → List (Nat × Str) → Prop
  | _, [] => True
  | p, (k, s) :: ps => (k = 0 → ∀ x, p = some x → x ∈ openL ∨ s ∈ closeL) ∧ Ch (some s) ps
theorem Ch.app {ys : List (Nat × Str)} (h : ∀ q, Ch q ys) : ∀ {xs : List (Nat × Str)} {p : Option Str}, Ch p xs → Ch p (xs ++ ys)
  | [], p, _ => h p
  | (k, s) :: xs, p, hx => ⟨hx.1, Ch.app h hx.2⟩
def Free (p : Option Str) (k : Nat) : Prop := k = 0 → ∀ x, p = some x → x ∈ openL
theorem layE_ch {b l : Int} {f : Nat → List (Nat × Str)} (h : ∀ p k, Free p k → Ch p (f k)) (p : Option Str) (k : Nat) (hp : Free p k) : Ch p (layE b l k f) := by
  unfold layE
  split
  · exact h p k hp
  · split
    · exact ⟨fun hk x e => .inl (hp hk x e), Ch.app (ys := [(0, ("]" : Str))]) (fun q => ⟨fun _ x _ => .inr (by decide +kernel), trivial⟩) (h _ 0 (fun _ x e => by injection e with e; rw [← e]; decide +kernel))⟩
    · exact ⟨fun hk x e => .inl (hp hk x e), Ch.app (ys := [(0, (")" : Str))]) (fun q => ⟨fun _ x _ => .inr (by decide +kernel), trivial⟩) (h _ 0 (fun _ x e => by injection e with e; rw [← e]; decide +kernel))⟩
theorem lay_ch : ∀ (t : Tr) (p : Option Str) (k : Nat), Free p k → Ch p (t.lay k)
  | .num n, p, k, h => ⟨fun hk x e => .inl (h hk x e), trivial⟩
  | .var x, p, k, h => ⟨fun hk x e => .inl (h hk x e), trivial⟩
  | .pre w a, p, k, h => by
    unfold Tr.lay
    split
    · exact ⟨fun hk x e => .inl (h hk x e), layE_ch (lay_ch a) _ 0 (fun _ x e => by injection e with e; rw [← e]; decide +kernel)⟩
    · exact ⟨fun hk x e => .inl (h hk x e), layE_ch (lay_ch a) _ 1 (fun z => by cases z)⟩
  | .bin w a b, p, k, h => by
    unfold Tr.lay
    exact Ch.app (ys := (1, w) :: layE b.bnd (bindOf w + 1) 1 b.lay) (fun q => ⟨(fun z => by cases z), layE_ch (lay_ch b) _ 1 (fun z => by cases z)⟩) (layE_ch (lay_ch a) p k h)
theorem glue_open : ∀ x ∈ openL, ∀ t : Str, glueS x t = false := by
  have h : ∀ x ∈ openL, (cod x).getLast?.any isLet = false ∧ (cod x).getLast?.any isDig = false ∧ (["<", ">", "!"] : List Str).contains x = false ∧ decide (x = ("/" : Str)) = false := by decide +kernel
  intro x hx t
  obtain ⟨a, b, c, d⟩ := h x hx
  unfold glueS
  cases (cod t).head? with
  | none => rfl
  | some e =>
    show glue x e = false
    unfold glue
    rw [a, b, c, d]
    rfl
theorem glue_close : ∀ t ∈ closeL, ∀ x : Str, glueS x t = false := by
  have h : ∀ t ∈ closeL, ∃ c, (cod t).head? = some c ∧ isLet c = false ∧ isDig c = false ∧ decide (c = 61) = false ∧ decide (c = 47) = false := by
    intro t ht
    simp only [closeL, List.mem_cons, List.not_mem_nil, or_false] at ht
    rcases ht with rfl | rfl
    · exact ⟨41, by decide +kernel, by decide, by decide, by decide, by decide⟩
    · exact ⟨93, by decide +kernel, by decide, by decide, by decide, by decide⟩
  intro t ht x
  obtain ⟨c, e, a, b, d, f⟩ := h t ht
  unfold glueS
  rw [e]
  show glue x c = false
  unfold glue
  rw [a, b, d, f]
  simp
theorem Ch.apart : ∀ {ps : List (Nat × Str)} {o : Option Str}, Ch o ps → ∀ (i : Nat) (p q : Nat × Str), ps[i]? = some p → ps[i + 1]? = some q → q.1 = 0 → glueS p.2 q.2 = false
  | [], _, _, _, _, _, h, _, _ => by simp at h
  | (k, s) :: ps, o, hc, 0, p, q, h1, h2, h3 => by
    simp at h1
    subst h1
    match ps, hc.2, h2 with
    | (k', s') :: ps', hc2, h2 =>
      simp at h2
      subst h2
      rcases hc2.1 h3 s rfl with h | h
      · exact glue_open s h s'
      · exact glue_close s' h s
    | [], _, h2 => simp at h2
  | (k, s) :: ps, o, hc, i + 1, p, q, h1, h2, h3 => by
    simp only [List.getElem?_cons_succ] at h1 h2
    exact Ch.apart hc.2 i p q h1 h2 h3
theorem lay_ok {b : Bool} {n : Nat} {t : Tr} (h : Ty b n t) : LayI (t.lay 0) := by
  refine ⟨fun p hp => ?_, (lay_ch t none 0 (fun _ x e => by cases e)).apart⟩
  have hb : lv b 1 ≤ t.bnd := by
    cases b with
    | false => exact h.bnd.1 rfl
    | true => exact (h.bnd.2 rfl).1
  exact (TT.tok ((layE_toks h).1 1 (by decide) (by decide) hb 0) p.2 (List.mem_map_of_mem hp)).1
/-- the canonical text is read as the tree -/
theorem txt_reads {b : Bool} {n : Nat} {t : Tr} (h : Ty b n t) : ∃ r, runR (RS.start b) (toks t.txt) = some r ∧ r.nodes = [t.data] := by
  have hb : lv b 1 ≤ t.bnd := by
    cases b with
    | false => exact h.bnd.1 rfl
    | true => exact (h.bnd.2 rfl).1
  have := parse_layT (lay_ok h) 0 0 ((layE_toks h).1 1 (by decide) (by decide) hb 0)
  rw [lay_flat] at this
  simpa [sp] using this
/-! how long -/
def txB : Nat → Nat
  | 0 => 40
  | n + 1 => 2 * txB n + 20
theorem txB_ge (n : Nat) : 40 ≤ txB n := by
  induction n with
  | zero => simp [txB]
  | succ n ih => simp only [txB]; omega
theorem encl_len (b l : Int) (x : List Nat) : (encl b l x).length ≤ x.length + 2 := by
  unfold encl
  split
  · omega
  · split <;> simp
theorem txt_len {b : Bool} {n : Nat} {t : Tr} (h : Ty b n t) : t.txt.length ≤ txB n := by
  have ws : ∀ w ∈ arithL ++ compL ++ logL, (cod w).length ≤ 3 := by decide +kernel
  induction h with
  | @num k n h =>
    have := txB_ge k
    have h2 := (num_good n h).2.2
    show (cod (numS n)).length ≤ _
    rw [cod_len]
    omega
  | @var k x h =>
    have := txB_ge k
    obtain ⟨_, _, h3, _⟩ := name_parts h
    show (cod x).length ≤ _
    omega
  | @neg k a _ ih =>
    have := encl_len a.bnd (bindOf "negate") a.txt
    have hp : (preC "negate").length ≤ 4 := by decide +kernel
    show (preC "negate" ++ encl a.bnd (bindOf "negate") a.txt).length ≤ _
    rw [List.length_append]
    simp only [txB]
    omega
  | @not_ k a _ ih =>
    have := encl_len a.bnd (bindOf "not") a.txt
    have hp : (preC "not").length ≤ 4 := by decide +kernel
    show (preC "not" ++ encl a.bnd (bindOf "not") a.txt).length ≤ _
    rw [List.length_append]
    simp only [txB]
    omega
  | @bin k w a b hw _ _ i1 i2 =>
    have e1 := encl_len a.bnd (bindOf w) a.txt
    have e2 := encl_len b.bnd (bindOf w + 1) b.txt
    have hp := ws w (by simp [hw])
    show (encl a.bnd (bindOf w) a.txt ++ ((32 :: cod w ++ [32]) ++ encl b.bnd (bindOf w + 1) b.txt)).length ≤ _
    simp only [List.length_append, List.length_cons, List.length_nil, txB]
    omega
  | @cmp k w a b hw _ _ i1 i2 =>
    have e1 := encl_len a.bnd (bindOf w) a.txt
    have e2 := encl_len b.bnd (bindOf w + 1) b.txt
    have hp := ws w (by simp [hw])
    show (encl a.bnd (bindOf w) a.txt ++ ((32 :: cod w ++ [32]) ++ encl b.bnd (bindOf w + 1) b.txt)).length ≤ _
    simp only [List.length_append, List.length_cons, List.length_nil, txB]
    omega
  | @log k w a b hw _ _ i1 i2 =>
    have e1 := encl_len a.bnd (bindOf w) a.txt
    have e2 := encl_len b.bnd (bindOf w + 1) b.txt
    have hp := ws w (by simp [hw])
    show (encl a.bnd (bindOf w) a.txt ++ ((32 :: cod w ++ [32]) ++ encl b.bnd (bindOf w + 1) b.txt)).length ≤ _
    simp only [List.length_append, List.length_cons, List.length_nil, txB]
    omega
end Rx

set_option Elab.async false
set_option linter.all false
set_option maxRecDepth 100000
set_option maxHeartbeats 1000000
namespace Rx
open PySem PySem.Spec PyProof.Rows L2 SX
/-! ### a text that is read as a tree has as many brackets as the tree needs -/
inductive Nd : PyData → Nat → Int → Prop where
  | leaf {s : Str} {v : V} : s ∈ leafL → Nd (.tuple [.str s, dOf v]) 0 8
  | pre {w : Str} {a : PyData} {n : Nat} {k : Int} : prefL.contains w = true → Nd a n k → Nd (.tuple [.str w, a]) (n + (if k < bindOf w then 1 else 0)) (bindOf w)
  | bin {w : Str} {a b : PyData} {n n' : Nat} {k k' : Int} : Nd a n k → Nd b n' k' → Nd (.tuple [.str w, a, b]) (n + (if k < bindOf w then 1 else 0) + (n' + (if k' < bindOf w + 1 then 1 else 0))) (bindOf w)
def lvO : List Str → Int
  | [] => 0
  | w :: _ => if prefL.contains w = true then bindOf w else bindOf w + 1
theorem lvO_p {w : Str} {os : List Str} (h : prefL.contains w = true) : lvO (w :: os) = bindOf w := if_pos h
theorem lvO_b {w : Str} {os : List Str} (h : prefL.contains w = false) : lvO (w :: os) = bindOf w + 1 := if_neg (by rw [h]; decide)
theorem lvO_le (w : Str) (os : List Str) : lvO (w :: os) ≤ bindOf w + 1 := by
  show (if prefL.contains w = true then bindOf w else bindOf w + 1) ≤ _
  split <;> omega
/-- the credit c pays for a node where l is wanted -/
def Gd (c n : Nat) (k l : Int) : Prop := n + (if k < l then 1 else 0) ≤ c
theorem Gd.mono {c n : Nat} {k l l' : Int} (h : Gd c n k l) (e : l' ≤ l) : Gd c n k l' := by
  unfold Gd at *
  split at h <;> split <;> omega
inductive Pile : List Str → List PyData → Nat → Prop where
  | nil : Pile [] [] 0
  | br {x : Str} {os : List Str} {ns : List PyData} {m : Nat} : x = "(" ∨ x = "[" → Pile os ns m → Pile (x :: os) ns (m + 1)
  | pre {x : Str} {os : List Str} {ns : List PyData} {m : Nat} : prefL.contains x = true → 0 ≤ bindOf x → bindOf x ≤ 7 → lvO os ≤ bindOf x → Pile os ns m → Pile (x :: os) ns m
  | bin {x : Str} {os : List Str} {ns : List PyData} {m n c : Nat} {a : PyData} {k : Int} : prefL.contains x = false → 0 ≤ bindOf x → bindOf x ≤ 6 → lvO os ≤ bindOf x → Pile os ns m → Nd a n k → Gd c n k (bindOf x) → Pile (x :: os) (a :: ns) (m + c)
theorem br_bind {x : Str} (h : x = "(" ∨ x = "[") : bindOf x = -1 ∧ prefL.contains x = false := by
  rcases h with rfl | rfl <;> decide +kernel
theorem Pile.lv {os : List Str} {ns : List PyData} {m : Nat} (h : Pile os ns m) : lvO os ≤ 7 := by
  cases h with
  | nil => exact (by decide : (0 : Int) ≤ 7)
  | br h _ => obtain ⟨h1, h2⟩ := br_bind h; rw [lvO_b h2, h1]; decide
  | pre h _ h2 _ _ => rw [lvO_p h]; exact h2
  | bin h _ h2 _ _ _ _ => rw [lvO_b h]; omega
/-- an operand stands on top, good where l is wanted -/
def Done (os : List Str) (ns : List PyData) (m : Nat) (l : Int) : Prop := ∃ (a : PyData) (ns' : List PyData) (m1 c n : Nat) (k : Int), ns = a :: ns' ∧ m = m1 + c ∧ Pile os ns' m1 ∧ Nd a n k ∧ Gd c n k l ∧ Gd c n k (lvO os)
def Full (os : List Str) (ns : List PyData) (m : Nat) : Prop := ∃ (a : PyData) (ns' : List PyData) (m1 c n : Nat) (k : Int), ns = a :: ns' ∧ m = m1 + c ∧ Pile os ns' m1 ∧ Nd a n k ∧ ∀ l, l ≤ 8 → Gd c n k l
theorem Full.done {os : List Str} {ns : List PyData} {m : Nat} {l : Int} (h : Full os ns m) (hl : l ≤ 8) : Done os ns m l := by
  obtain ⟨a, ns', m1, c, n, k, h1, h2, h3, h4, h5⟩ := h
  exact ⟨a, ns', m1, c, n, k, h1, h2, h3, h4, h5 l hl, h5 _ (by have := h3.lv; omega)⟩
theorem down_done {b : Int} (hb : 0 ≤ b) : ∀ {os : List Str} {ns : List PyData} {m : Nat} {x : List Str × List PyData}, Done os ns m b → joinDown b os ns = some x → Done x.1 x.2 m b ∧ (x.1 = [] ∨ ∃ o t, x.1 = o :: t ∧ bindOf o < b)
  | [], ns, m, x, h, e => by
    simp only [joinDown, Option.some.injEq] at e
    subst e
    exact ⟨h, .inl rfl⟩
  | o :: os, ns, m, x, h, e => by
    unfold joinDown at e
    split at e
    · rename_i hbo
      split at e
      · rename_i ns2 hj
        obtain ⟨a, ns', m1, c, n, k, rfl, rfl, hp, hn, g1, g2⟩ := h
        refine down_done hb ?_ e
        cases hp with
        | br hx _ => have := (br_bind hx).1; omega
        | pre hx h0 h7 hl hp =>
          unfold joinOp at hj
          rw [if_pos hx] at hj
          injection hj with hj
          subst hj
          rw [lvO_p hx] at g2
          refine ⟨_, ns', m1, c, _, _, rfl, rfl, hp, .pre hx hn, ?_, ?_⟩
          · unfold Gd at *; rw [if_neg (show ¬ bindOf o < b by omega)]; exact g2
          · unfold Gd at *; rw [if_neg (show ¬ bindOf o < lvO os by omega)]; exact g2
        | @bin _ _ ns3 m3 n3 c3 a3 k3 hx h0 h7 hl hp hn3 g3 =>
          unfold joinOp at hj
          rw [if_neg (by rw [hx]; decide)] at hj
          injection hj with hj
          subst hj
          rw [lvO_b hx] at g2
          refine ⟨_, ns3, m3, c3 + c, _, _, rfl, by omega, hp, .bin hn3 hn, ?_, ?_⟩
          · unfold Gd at *; rw [if_neg (show ¬ bindOf o < b by omega)]; omega
          · unfold Gd at *; rw [if_neg (show ¬ bindOf o < lvO os by omega)]; omega
      · cases e
    · rename_i hbo
      injection e with e
      subst e
      exact ⟨h, .inr ⟨o, os, rfl, by omega⟩⟩
def StI (r : RS) (m : Nat) : Prop := if r.starts = true then Pile r.ops r.nodes m ∧ (r.stage = "condition" → lvO r.ops ≤ 3) else Full r.ops r.nodes m
theorem st_start (c : Bool) : StI (RS.start c) 0 := by
  unfold StI
  rw [if_pos (by cases c <;> rfl)]
  exact ⟨.nil, fun _ => (by decide : (0 : Int) ≤ 3)⟩
def isBr (s : Str) : Nat := if s = "(" ∨ s = "[" then 1 else 0
theorem beg_in {r : RS} {s : Str} (h : r.mayBegin s = true) : s = "number" ∨ s = "variable" ∨ s = "-" ∨ s = "(" ∨ (r.stage = "condition" ∧ (s = "not" ∨ s = "[")) := by
  unfold RS.mayBegin at h
  rw [Bool.or_eq_true, Bool.and_eq_true, decide_eq_true_eq] at h
  rcases h with h | ⟨h1, h2⟩
  · have : s ∈ begL := List.contains_iff_mem.mp h
    simp only [begL, List.mem_cons, List.not_mem_nil, or_false] at this
    rcases this with h | h | h | h
    · exact .inl h
    · exact .inr (.inl h)
    · exact .inr (.inr (.inl h))
    · exact .inr (.inr (.inr (.inl h)))
  · have : s ∈ notL := List.contains_iff_mem.mp h2
    simp only [notL, List.mem_cons, List.not_mem_nil, or_false] at this
    exact .inr (.inr (.inr (.inr ⟨h1, this⟩)))
def midL : List Str := ["+", "-", "*", "//", "mod", "=", "!=", "<", "<=", ">", ">=", "and", "or"]
theorem follow_in {r : RS} {s : Str} (h : r.mayFollow s = true) : s ∈ midL ∨ s = ")" ∨ s = "]" ∨ s = "end" := by
  have ha : ∀ x ∈ arithL, x ∈ midL := by decide +kernel
  have hc : ∀ x ∈ compL, x ∈ midL := by decide +kernel
  have hb : ∀ x ∈ (["and", "or", "]"] : List Str), x ∈ midL ∨ x = ")" ∨ x = "]" ∨ x = "end" := by decide +kernel
  have he : ∀ x ∈ (["and", "or", "end"] : List Str), x ∈ midL ∨ x = ")" ∨ x = "]" ∨ x = "end" := by decide +kernel
  unfold RS.mayFollow at h
  split at h
  · rename_i h1
    rw [Bool.and_eq_true] at h1
    exact .inl (ha s (List.contains_iff_mem.mp h1.2))
  · split at h
    · exact .inr (.inl (of_decide_eq_true h))
    · split at h
      · exact .inr (.inr (.inr (of_decide_eq_true h)))
      · split at h
        · exact .inl (hc s (List.contains_iff_mem.mp h))
        · split at h
          · exact hb s (List.contains_iff_mem.mp h)
          · exact he s (List.contains_iff_mem.mp h)
theorem mid_bind : ∀ s ∈ midL, prefL.contains s = false ∧ 1 ≤ bindOf s ∧ bindOf s ≤ 6 ∧ isBr s = 0 ∧ s ≠ ")" ∧ s ≠ "]" ∧ s ≠ "end" ∧ (s = "and" ∨ s = "or" → bindOf s ≤ 2) := by decide +kernel
theorem full_of_pile {os : List Str} {ns : List PyData} {m : Nat} {s : Str} {v : V} (h : Pile os ns m) (hs : s ∈ leafL) : Full os (.tuple [.str s, dOf v] :: ns) m :=
  ⟨_, ns, m, 0, 0, 8, rfl, rfl, h, .leaf hs, fun l hl => by unfold Gd; rw [if_neg (by omega)]; exact Nat.le_refl _⟩
theorem step_min {r q : RS} {s : Str} {v : V} {m : Nat} (h : StI r m) (hf : r.fits s = true) (ht : r.takeIn s v = some q) (he : s ≠ "end") : StI q (m + isBr s) := by
  unfold StI at h
  unfold RS.fits at hf
  unfold RS.takeIn at ht
  split at h
  · rename_i hst
    rw [if_pos hst] at hf ht
    injection ht with ht
    subst ht
    obtain ⟨hp, hc⟩ := h
    have hlv := hp.lv
    rcases beg_in hf with rfl | rfl | rfl | rfl | ⟨h1, rfl | rfl⟩
    · exact full_of_pile hp (by decide +kernel)
    · exact full_of_pile hp (by decide +kernel)
    · refine ⟨.pre (by decide +kernel) (by decide +kernel) (by decide +kernel) (by rw [show bindOf "negate" = 7 by decide +kernel]; exact hlv) hp, fun e => ?_⟩
      exact absurd e (by show ¬ ("factor" : Str) = "condition"; decide +kernel)
    · refine ⟨.br (.inl rfl) hp, fun e => ?_⟩
      exact absurd e (by show ¬ ("factor" : Str) = "condition"; decide +kernel)
    · show StI { r with ops := "not" :: r.ops } m
      unfold StI
      rw [if_pos (show RS.starts { r with ops := "not" :: r.ops } = true from hst)]
      exact ⟨.pre (by decide +kernel) (by decide +kernel) (by decide +kernel) (by rw [show bindOf "not" = 3 by decide +kernel]; exact hc h1) hp, fun _ => by show lvO ("not" :: r.ops) ≤ 3; rw [lvO_p (by decide +kernel)]; decide +kernel⟩
    · show StI { r with ops := "[" :: r.ops, brs := "[" :: r.brs } (m + 1)
      unfold StI
      rw [if_pos (show RS.starts { r with ops := "[" :: r.ops, brs := "[" :: r.brs } = true from hst)]
      exact ⟨.br (.inr rfl) hp, fun _ => by show lvO ("[" :: r.ops) ≤ 3; rw [lvO_b (by decide +kernel)]; decide +kernel⟩
  · rename_i hst
    rw [if_neg hst] at hf ht
    split at ht
    · rename_i hs
      have h0 : isBr s = 0 := by rcases hs with rfl | rfl <;> decide +kernel
      rw [h0, Nat.add_zero]
      unfold RS.close_ at ht
      obtain ⟨x, hx, ht⟩ := Option.bind_eq_some_iff.mp ht
      unfold RS.down at hx
      obtain ⟨y, hy, rfl⟩ := Option.map_eq_some_iff.mp hx
      obtain ⟨hd, ho⟩ := down_done (by decide) (h.done (l := 0) (by decide)) hy
      dsimp only at ht
      split at ht
      · rename_i o os b bs e1 e2
        injection ht with ht
        subst ht
        rcases ho with ho | ⟨o2, t2, ho, hlt⟩
        · rw [ho] at e1; cases e1
        rw [ho] at e1
        injection e1 with e1 e3
        subst e1 e3
        obtain ⟨a, ns', m1, c, n, k, h1, rfl, hp, hn, g1, g2⟩ := hd
        rw [ho] at hp
        have full : Full t2 y.2 (m1 + c) := by
          rw [h1]
          cases hp with
          | @br _ _ _ m2 hx hp => exact ⟨a, ns', m2, c + 1, n, k, rfl, by omega, hp, hn, fun l _ => by unfold Gd at *; split at g1 <;> split <;> omega⟩
          | pre _ h0 _ _ _ => omega
          | bin _ h0 _ _ _ _ _ => omega
        unfold StI
        rw [if_neg (by
          show ¬ ((decide ((if s = "]" then ("bracket" : Str) else "expression") = "condition")) || decide ((if s = "]" then ("bracket" : Str) else "expression") = "factor")) = true
          split <;> decide +kernel)]
        exact full
      · cases ht
    · rename_i hs
      have hm : s ∈ midL := by
        rcases follow_in hf with h | h | h | h
        · exact h
        · exact absurd (.inl h) hs
        · exact absurd (.inr h) hs
        · exact absurd h he
      obtain ⟨b1, b2, b3, b4, _, _, _, b5⟩ := mid_bind s hm
      rw [b4, Nat.add_zero]
      unfold RS.between at ht
      obtain ⟨x, hx, ht⟩ := Option.map_eq_some_iff.mp ht
      unfold RS.down at hx
      obtain ⟨y, hy, rfl⟩ := Option.map_eq_some_iff.mp hx
      obtain ⟨hd, ho⟩ := down_done (by omega) (h.done (l := bindOf s) (by omega)) hy
      obtain ⟨a, ns', m1, c, n, k, h1, rfl, hp, hn, g1, g2⟩ := hd
      have hlo : lvO y.1 ≤ bindOf s := by
        rcases ho with ho | ⟨o2, t2, ho, hlt⟩
        · rw [ho]; show (0 : Int) ≤ _; omega
        · rw [ho]; have := lvO_le o2 t2; omega
      have pile : Pile (s :: y.1) y.2 (m1 + c) := by
        rw [h1]
        exact .bin b1 (by omega) b3 hlo hp hn g1
      have hlv : lvO (s :: y.1) = bindOf s + 1 := lvO_b b1
      subst ht
      unfold StI
      split
      · rename_i hao
        rw [if_pos (by rfl)]
        refine ⟨pile, fun _ => ?_⟩
        show lvO (s :: y.1) ≤ 3
        have := b5 hao
        omega
      · rw [if_pos (by rfl)]
        refine ⟨pile, fun e => ?_⟩
        exact absurd e (by show ¬ ("factor" : Str) = "condition"; decide +kernel)
end Rx

set_option Elab.async false
set_option linter.all false
set_option maxRecDepth 100000
set_option maxHeartbeats 1000000
namespace Rx
open PySem PySem.Spec PyProof.Rows L2 SX
def isOp (c : Nat) : Nat := if c = 40 ∨ c = 91 then 1 else 0
def opens : List Nat → Nat
  | [] => 0
  | c :: r => isOp c + opens r
theorem opens_app : ∀ (x y : List Nat), opens (x ++ y) = opens x + opens y
  | [], y => by simp [opens]
  | c :: r, y => by rw [List.cons_append, opens, opens, opens_app r y]; omega
theorem opens_let : ∀ {cs : List Nat}, cs.all isLet = true → opens cs = 0
  | [], _ => rfl
  | c :: r, h => by
    rw [List.all_cons, Bool.and_eq_true] at h
    have h1 : isOp c = 0 := by
      have := h.1
      unfold isLet at this
      rw [Bool.and_eq_true, decide_eq_true_eq, decide_eq_true_eq] at this
      unfold isOp
      rw [if_neg (by omega)]
    rw [opens, h1, opens_let h.2]
theorem sign_br : ∀ s ∈ signsL, isBr s = opens s.cps.toList ∧ s ≠ "end" ∧ s.cps.toList.length = s.length := by decide +kernel
theorem words_br : ∀ s ∈ wordsL, isBr s = 0 ∧ s ≠ "end" := by decide +kernel
theorem tok_br (c : Nat) (r : List Nat) : isBr (tokAt (c :: r)).1 ≤ opens ((c :: r).take (tokAt (c :: r)).2.2) ∧ (tokAt (c :: r)).1 ≠ "end" := by
  have hv : isBr "variable" = 0 ∧ ("variable" : Str) ≠ "end" := by decide +kernel
  have hb : isBr "bad" = 0 ∧ ("bad" : Str) ≠ "end" := by decide +kernel
  have hn : isBr "number" = 0 ∧ ("number" : Str) ≠ "end" := by decide +kernel
  unfold tokAt
  dsimp only
  split
  · unfold wordTok
    split
    · rename_i h
      obtain ⟨h1, h2⟩ := words_br _ (List.contains_iff_mem.mp h)
      exact ⟨by rw [h1]; exact Nat.zero_le _, h2⟩
    · split
      · exact ⟨by rw [hv.1]; exact Nat.zero_le _, hv.2⟩
      · exact ⟨by rw [hb.1]; exact Nat.zero_le _, hb.2⟩
  · split
    · unfold numTok
      split
      · exact ⟨by rw [hn.1]; exact Nat.zero_le _, hn.2⟩
      · exact ⟨by rw [hb.1]; exact Nat.zero_le _, hb.2⟩
    · unfold signTok
      split
      · rename_i s h
        have hm := List.mem_of_find?_eq_some h
        have hp := List.find?_some h
        obtain ⟨h1, h2, h3⟩ := sign_br s hm
        refine ⟨?_, h2⟩
        have h4 : s.cps.toList <+: (c :: r) := List.isPrefixOf_iff_prefix.mp hp
        have h5 : (c :: r).take s.length = s.cps.toList := by
          obtain ⟨t, ht⟩ := h4
          rw [← ht, ← h3, List.take_left]
        show isBr s ≤ opens ((c :: r).take s.length)
        rw [h5, h1]
        exact Nat.le_refl _
      · exact ⟨by rw [hb.1]; exact Nat.zero_le _, hb.2⟩
/-- a tree that was read has no more need of brackets than the text has -/
theorem run_min : ∀ (n at_ : Nat) (cs : List Nat) (r q : RS) (m : Nat), cs.length ≤ n → StI r m → runX r (toksF n at_ cs) = some (.inr q) → ∃ m', m' ≤ m + opens cs ∧ Done q.ops q.nodes m' 0 := by
  have fin : ∀ (at_ : Nat) (cs : List Nat) (r q : RS) (m : Nat), StI r m → runX r [("end", .non, at_)] = some (.inr q) → ∃ m', m' ≤ m + opens cs ∧ Done q.ops q.nodes m' 0 := by
    intro at_ cs r q m h e
    unfold runX at e
    split at e
    · rename_i hf
      obtain ⟨x, hx, e⟩ := Option.bind_eq_some_iff.mp e
      unfold runX at e
      injection e with e
      injection e with e
      subst e
      unfold StI at h
      unfold RS.fits at hf
      unfold RS.takeIn at hx
      split at h
      · rename_i hst
        rw [if_pos hst] at hf
        have hn : ¬ (("end" : Str) = "number" ∨ ("end" : Str) = "variable" ∨ ("end" : Str) = "-" ∨ ("end" : Str) = "(" ∨ ("end" : Str) = "not" ∨ ("end" : Str) = "[") := by decide +kernel
        rcases beg_in hf with h | h | h | h | ⟨_, h | h⟩
        · exact absurd (.inl h) hn
        · exact absurd (.inr (.inl h)) hn
        · exact absurd (.inr (.inr (.inl h))) hn
        · exact absurd (.inr (.inr (.inr (.inl h)))) hn
        · exact absurd (.inr (.inr (.inr (.inr (.inl h))))) hn
        · exact absurd (.inr (.inr (.inr (.inr (.inr h))))) hn
      · rename_i hst
        have hne : ¬ (("end" : Str) = ")" ∨ ("end" : Str) = "]") := by decide +kernel
        rw [if_neg hst, if_neg hne, if_pos rfl] at hx
        unfold RS.down at hx
        obtain ⟨y, hy, rfl⟩ := Option.map_eq_some_iff.mp hx
        obtain ⟨hd, _⟩ := down_done (by decide) (h.done (l := 0) (by decide)) hy
        exact ⟨m, by omega, hd⟩
    · cases e
  intro n
  induction n with
  | zero => intro at_ cs r q m _ h e; exact fin at_ cs r q m h e
  | succ n ih =>
    intro at_ cs r q m hl h e
    cases cs with
    | nil => exact fin at_ [] r q m h e
    | cons c cs =>
      unfold toksF at e
      rw [List.length_cons] at hl
      split at e
      · rename_i hc
        obtain ⟨m', h1, h2⟩ := ih _ _ _ _ _ (by omega) h e
        refine ⟨m', ?_, h2⟩
        rw [opens]
        omega
      · have hp := tokAt_pos (c :: cs)
        obtain ⟨t1, t2⟩ := tok_br c cs
        unfold runX at e
        split at e
        · rename_i hf
          obtain ⟨x, hx, e⟩ := Option.bind_eq_some_iff.mp e
          obtain ⟨m', h1, h2⟩ := ih _ _ _ _ _ (by rw [List.length_drop, List.length_cons]; omega) (show StI x (m + isBr (tokAt (c :: cs)).1) from step_min h hf hx t2) e
          refine ⟨m', ?_, h2⟩
          have h3 := opens_app ((c :: cs).take (tokAt (c :: cs)).2.2) ((c :: cs).drop (tokAt (c :: cs)).2.2)
          rw [List.take_append_drop] at h3
          omega
        · cases e
theorem read_min {c : Bool} {cs : List Nat} {q : RS} {d : PyData} (h : runX (RS.start c) (toks cs) = some (.inr q)) (hn : q.nodes = [d]) : ∃ n k, Nd d n k ∧ n ≤ opens cs := by
  obtain ⟨m', h1, a, ns', m1, c1, n, k, h2, h3, h4, h5, h6, h7⟩ := run_min _ _ _ _ _ 0 (Nat.le_refl _) (st_start c) h
  rw [hn] at h2
  injection h2 with h2 _
  subst h2
  refine ⟨n, k, h5, ?_⟩
  unfold Gd at h6
  omega
def nbT : Tr → Nat
  | .num _ => 0
  | .var _ => 0
  | .pre w a => nbT a + (if a.bnd < bindOf w then 1 else 0)
  | .bin w a b => nbT a + (if a.bnd < bindOf w then 1 else 0) + (nbT b + (if b.bnd < bindOf w + 1 then 1 else 0))
theorem opens_encl (b l : Int) (x : List Nat) : opens (encl b l x) = opens x + (if b < l then 1 else 0) := by
  have e1 : isOp 91 = 1 ∧ isOp 40 = 1 ∧ opens [93] = 0 ∧ opens [41] = 0 := by decide
  unfold encl
  by_cases h1 : l ≤ b
  · rw [if_pos h1, if_neg (by omega)]; rfl
  · rw [if_neg h1, if_pos (show b < l by omega)]
    split
    · rw [opens, opens_app, e1.1, e1.2.2.1]; omega
    · rw [opens, opens_app, e1.2.1, e1.2.2.2]; omega
theorem opens_num : ∀ n ∈ numL, opens (cod (numS n)) = 0 := by decide +kernel
theorem opens_mid : ∀ w ∈ arithL ++ compL ++ logL, opens (32 :: cod w ++ [32]) = 0 := by decide +kernel
theorem name_let {x : Str} (h : isName (cod x) = true) : (cod x).all isLet = true := (name_parts h).2.2.2
/-- the canonical text has as many as are needed -/
theorem txt_opens {b : Bool} {n : Nat} {t : Tr} (h : Ty b n t) : opens t.txt = nbT t := by
  have pn : opens (preC "negate") = 0 ∧ opens (preC "not") = 0 := by decide +kernel
  induction h with
  | num h => exact opens_num _ h
  | var h => exact opens_let (name_let h)
  | neg _ ih => show opens (preC "negate" ++ encl _ _ _) = _; rw [opens_app, pn.1, opens_encl, ih, Nat.zero_add]; rfl
  | not_ _ ih => show opens (preC "not" ++ encl _ _ _) = _; rw [opens_app, pn.2, opens_encl, ih, Nat.zero_add]; rfl
  | @bin k w _ _ hw _ _ i1 i2 => show opens (encl _ _ _ ++ ((32 :: cod w ++ [32]) ++ encl _ _ _)) = _; rw [opens_app, opens_app, opens_mid w (by simp [hw]), opens_encl, opens_encl, i1, i2, Nat.zero_add]; rfl
  | @cmp k w _ _ hw _ _ i1 i2 => show opens (encl _ _ _ ++ ((32 :: cod w ++ [32]) ++ encl _ _ _)) = _; rw [opens_app, opens_app, opens_mid w (by simp [hw]), opens_encl, opens_encl, i1, i2, Nat.zero_add]; rfl
  | @log k w _ _ hw _ _ i1 i2 => show opens (encl _ _ _ ++ ((32 :: cod w ++ [32]) ++ encl _ _ _)) = _; rw [opens_app, opens_app, opens_mid w (by simp [hw]), opens_encl, opens_encl, i1, i2, Nat.zero_add]; rfl
theorem nd_inv {d : PyData} {m : Nat} {k : Int} (g : Nd d m k) : (∃ s v, s ∈ leafL ∧ d = .tuple [.str s, dOf v] ∧ m = 0 ∧ k = 8) ∨
    (∃ w a n k', prefL.contains w = true ∧ Nd a n k' ∧ d = .tuple [.str w, a] ∧ m = n + (if k' < bindOf w then 1 else 0) ∧ k = bindOf w) ∨
    (∃ w a b n n' k1 k2, Nd a n k1 ∧ Nd b n' k2 ∧ d = .tuple [.str w, a, b] ∧ m = n + (if k1 < bindOf w then 1 else 0) + (n' + (if k2 < bindOf w + 1 then 1 else 0)) ∧ k = bindOf w) := by
  cases g with
  | leaf h => exact .inl ⟨_, _, h, rfl, rfl, rfl⟩
  | pre h1 h2 => exact .inr (.inl ⟨_, _, _, _, h1, h2, rfl, rfl, rfl⟩)
  | bin h1 h2 => exact .inr (.inr ⟨_, _, _, _, _, _, _, h1, h2, rfl, rfl, rfl⟩)
theorem eqv2 {s w : Str} {a b : PyData} (h : PyData.eqv (.tuple [.str s, a]) (.tuple [.str w, b]) = true) : s = w ∧ PyData.eqv a b = true := by
  simp only [PyData.eqv, PyData.eqvAll, Bool.and_eq_true, Bool.and_true, beq_iff_eq, decide_eq_true_eq] at h
  exact ⟨h.1, h.2⟩
theorem eqv3 {s w : Str} {a b a' b' : PyData} (h : PyData.eqv (.tuple [.str s, a, a']) (.tuple [.str w, b, b']) = true) : s = w ∧ PyData.eqv a b = true ∧ PyData.eqv a' b' = true := by
  simp only [PyData.eqv, PyData.eqvAll, Bool.and_eq_true, Bool.and_true, beq_iff_eq, decide_eq_true_eq] at h
  exact ⟨h.1, h.2.1, h.2.2⟩
theorem eqv23 {s w : Str} {a b b' : PyData} : PyData.eqv (.tuple [.str s, a]) (.tuple [.str w, b, b']) = false := by
  simp only [PyData.eqv, PyData.eqvAll, Bool.and_false]
theorem eqv32 {s w : Str} {a a' b : PyData} : PyData.eqv (.tuple [.str s, a, a']) (.tuple [.str w, b]) = false := by
  simp only [PyData.eqv, PyData.eqvAll, Bool.and_false]
theorem leaf_bind : ∀ w ∈ leafL, bindOf w = 8 ∧ prefL.contains w = false := by decide +kernel
/-- the need of what equals a tree -/
theorem nd_tr {b : Bool} {n : Nat} {t : Tr} (h : Ty b n t) : ∀ {d : PyData} {m : Nat} {k : Int}, Nd d m k → PyData.eqv d t.data = true → m = nbT t ∧ k = t.bnd := by
  have leafC : ∀ {w : Str} {e : PyData} {d : PyData} {m : Nat} {k : Int}, w ∈ leafL → Nd d m k → PyData.eqv d (.tuple [.str w, e]) = true → m = 0 ∧ k = bindOf w := by
    intro w e d m k hw g he
    obtain ⟨l1, l2⟩ := leaf_bind w hw
    rcases nd_inv g with ⟨s, v, hs, rfl, rfl, rfl⟩ | ⟨w', a, n1, k1, hp, hn, rfl, rfl, rfl⟩ | ⟨w', a, b', n1, n2, k1, k2, h1, h2, rfl, rfl, rfl⟩
    · exact ⟨rfl, l1.symm⟩
    · obtain ⟨rfl, _⟩ := eqv2 he
      rw [l2] at hp; cases hp
    · rw [eqv32] at he; cases he
  have preC : ∀ {w : Str} {a : Tr} {d : PyData} {m : Nat} {k : Int}, prefL.contains w = true → (∀ {d : PyData} {m : Nat} {k : Int}, Nd d m k → PyData.eqv d a.data = true → m = nbT a ∧ k = a.bnd) → Nd d m k → PyData.eqv d (.tuple [.str w, a.data]) = true → m = nbT (.pre w a) ∧ k = bindOf w := by
    intro w a d m k hw ih g he
    rcases nd_inv g with ⟨s, v, hs, rfl, rfl, rfl⟩ | ⟨w', a', n1, k1, hp, hn, rfl, rfl, rfl⟩ | ⟨w', a', b', n1, n2, k1, k2, h1, h2, rfl, rfl, rfl⟩
    · obtain ⟨rfl, _⟩ := eqv2 he
      rw [(leaf_bind s hs).2] at hw; cases hw
    · obtain ⟨rfl, h2⟩ := eqv2 he
      obtain ⟨rfl, rfl⟩ := ih hn h2
      exact ⟨rfl, rfl⟩
    · rw [eqv32] at he; cases he
  have binC : ∀ {w : Str} {a b : Tr} {d : PyData} {m : Nat} {k : Int}, (∀ {d : PyData} {m : Nat} {k : Int}, Nd d m k → PyData.eqv d a.data = true → m = nbT a ∧ k = a.bnd) → (∀ {d : PyData} {m : Nat} {k : Int}, Nd d m k → PyData.eqv d b.data = true → m = nbT b ∧ k = b.bnd) → Nd d m k → PyData.eqv d (.tuple [.str w, a.data, b.data]) = true → m = nbT (.bin w a b) ∧ k = bindOf w := by
    intro w a b d m k i1 i2 g he
    rcases nd_inv g with ⟨s, v, hs, rfl, rfl, rfl⟩ | ⟨w', a', n1, k1, hp, hn, rfl, rfl, rfl⟩ | ⟨w', a', b', n1, n2, k1, k2, h1, h2, rfl, rfl, rfl⟩
    · rw [eqv23] at he; cases he
    · rw [eqv23] at he; cases he
    · obtain ⟨rfl, e1, e2⟩ := eqv3 he
      obtain ⟨rfl, rfl⟩ := i1 h1 e1
      obtain ⟨rfl, rfl⟩ := i2 h2 e2
      exact ⟨rfl, rfl⟩
  induction h with
  | num h => intro d m k g he; exact leafC (w := "number") (by decide +kernel) g he
  | var h => intro d m k g he; exact leafC (w := "variable") (by decide +kernel) g he
  | neg _ ih => intro d m k g he; exact preC (by decide +kernel) ih g he
  | not_ _ ih => intro d m k g he; exact preC (by decide +kernel) ih g he
  | bin hw _ _ i1 i2 => intro d m k g he; exact binC i1 i2 g he
  | cmp hw _ _ i1 i2 => intro d m k g he; exact binC i1 i2 g he
  | log hw _ _ i1 i2 => intro d m k g he; exact binC i1 i2 g he
/-- with fewer brackets the text is not read as the tree -/
theorem bare_no {b c : Bool} {n : Nat} {t : Tr} (h : Ty b n t) {cs : List Nat} {q : RS} {d : PyData} (hr : runX (RS.start c) (toks cs) = some (.inr q)) (hn : q.nodes = [d]) (hl : opens cs < opens t.txt) : PyData.eqv d t.data = false := by
  cases e : PyData.eqv d t.data with
  | false => rfl
  | true =>
    obtain ⟨m, k, g, hm⟩ := read_min hr hn
    have := (nd_tr h g e).1
    rw [txt_opens h] at hl
    omega
end Rx

set_option Elab.async false
set_option linter.all false
set_option maxRecDepth 100000
set_option maxHeartbeats 1000000
namespace Rx
open PySem PySem.Spec PyProof.Rows L2 SX
def isCl (c : Nat) : Nat := if c = 41 ∨ c = 93 then 1 else 0
/-- how deep after a text that begins so deep -/
def bal : Nat → List Nat → Option Nat
  | d, [] => some d
  | d, c :: r => if isOp c = 1 then bal (d + 1) r else if isCl c = 1 then (match d with
    | 0 => none
    | d + 1 => bal d r) else bal d r
theorem bal_cons (d c : Nat) (r : List Nat) : bal d (c :: r) = if isOp c = 1 then bal (d + 1) r else if isCl c = 1 then (match d with
    | 0 => none
    | d + 1 => bal d r) else bal d r := rfl
theorem bal_app : ∀ (x : List Nat) (d e : Nat) (y : List Nat), bal d x = some e → bal d (x ++ y) = bal e y
  | [], d, e, y, h => by injection h with h; rw [h]; rfl
  | c :: r, d, e, y, h => by
    rw [List.cons_append]
    rw [bal_cons] at h ⊢
    split
    · rename_i h1
      rw [if_pos h1] at h
      exact bal_app r _ _ y h
    · rename_i h1
      rw [if_neg h1] at h
      split
      · rename_i h2
        rw [if_pos h2] at h
        cases d with
        | zero => cases h
        | succ d => exact bal_app r _ _ y h
      · rename_i h2
        rw [if_neg h2] at h
        exact bal_app r _ _ y h
def noBr (cs : List Nat) : Bool := cs.all fun c => isOp c == 0 && isCl c == 0
theorem bal_no : ∀ {cs : List Nat} (d : Nat), noBr cs = true → bal d cs = some d
  | [], d, _ => rfl
  | c :: r, d, h => by
    unfold noBr at h
    rw [List.all_cons, Bool.and_eq_true, Bool.and_eq_true, beq_iff_eq, beq_iff_eq] at h
    unfold bal
    rw [if_neg (by omega), if_neg (by omega)]
    exact bal_no d h.2
theorem noBr_num : ∀ n ∈ numL, noBr (cod (numS n)) = true := by decide +kernel
theorem noBr_mid : ∀ w ∈ arithL ++ compL ++ logL, noBr (32 :: cod w ++ [32]) = true := by decide +kernel
theorem noBr_let {cs : List Nat} (h : cs.all isLet = true) : noBr cs = true := by
  unfold noBr
  rw [List.all_eq_true] at h ⊢
  intro c hc
  have := h c hc
  unfold isLet at this
  rw [Bool.and_eq_true, decide_eq_true_eq, decide_eq_true_eq] at this
  rw [Bool.and_eq_true, beq_iff_eq, beq_iff_eq]
  unfold isOp isCl
  rw [if_neg (by omega), if_neg (by omega)]
  exact ⟨rfl, rfl⟩
theorem bal_encl {b l : Int} {x : List Nat} (h : ∀ d, bal d x = some d) (d : Nat) : bal d (encl b l x) = some d := by
  unfold encl
  split
  · exact h d
  · split
    · show bal d (91 :: (x ++ [93])) = _
      unfold bal
      rw [if_pos (by decide), bal_app x (d + 1) (d + 1) [93] (h _)]
      rfl
    · show bal d (40 :: (x ++ [41])) = _
      unfold bal
      rw [if_pos (by decide), bal_app x (d + 1) (d + 1) [41] (h _)]
      rfl
theorem txt_bal {b : Bool} {n : Nat} {t : Tr} (h : Ty b n t) : ∀ d, bal d t.txt = some d := by
  have pn : noBr (preC "negate") = true ∧ noBr (preC "not") = true := by decide +kernel
  induction h with
  | num h => intro d; exact bal_no d (noBr_num _ h)
  | var h => intro d; exact bal_no d (noBr_let (name_let h))
  | neg _ ih => intro d; show bal d (preC "negate" ++ encl _ _ _) = _; rw [bal_app _ d d _ (bal_no d pn.1)]; exact bal_encl ih d
  | not_ _ ih => intro d; show bal d (preC "not" ++ encl _ _ _) = _; rw [bal_app _ d d _ (bal_no d pn.2)]; exact bal_encl ih d
  | @bin k w _ _ hw _ _ i1 i2 => intro d; show bal d (encl _ _ _ ++ ((32 :: cod w ++ [32]) ++ encl _ _ _)) = _; rw [bal_app _ d d _ (bal_encl i1 d), bal_app _ d d _ (bal_no d (noBr_mid w (by simp [hw])))]; exact bal_encl i2 d
  | @cmp k w _ _ hw _ _ i1 i2 => intro d; show bal d (encl _ _ _ ++ ((32 :: cod w ++ [32]) ++ encl _ _ _)) = _; rw [bal_app _ d d _ (bal_encl i1 d), bal_app _ d d _ (bal_no d (noBr_mid w (by simp [hw])))]; exact bal_encl i2 d
  | @log k w _ _ hw _ _ i1 i2 => intro d; show bal d (encl _ _ _ ++ ((32 :: cod w ++ [32]) ++ encl _ _ _)) = _; rw [bal_app _ d d _ (bal_encl i1 d), bal_app _ d d _ (bal_no d (noBr_mid w (by simp [hw])))]; exact bal_encl i2 d
/-- a pair of brackets taken away -/
theorem opens_bare {cs : List Nat} {i j : Nat} {ci cj : Nat} (hi : cs[i]? = some ci) (hj : cs[j]? = some cj) (hij : i < j) (ho : isOp ci = 1) (hc : isCl cj = 1) : opens (cs.take i ++ (32 :: ((cs.drop (i + 1)).take (j - (i + 1)) ++ [32])) ++ cs.drop (j + 1)) < opens cs := by
  have hc0 : isOp cj = 0 := by
    unfold isCl at hc
    unfold isOp
    split at hc
    · rw [if_neg (by omega)]
    · cases hc
  have e1 : cs = cs.take i ++ cs.drop i := (List.take_append_drop i cs).symm
  have hi' := (List.getElem?_eq_some_iff.mp hi)
  have hj' := (List.getElem?_eq_some_iff.mp hj)
  have e2 : cs.drop i = ci :: cs.drop (i + 1) := by rw [List.drop_eq_getElem_cons hi'.1, hi'.2]
  have e3 : cs.drop (i + 1) = (cs.drop (i + 1)).take (j - (i + 1)) ++ (cs.drop (i + 1)).drop (j - (i + 1)) := (List.take_append_drop _ _).symm
  have e4 : (cs.drop (i + 1)).drop (j - (i + 1)) = cj :: cs.drop (j + 1) := by
    rw [List.drop_drop, show i + 1 + (j - (i + 1)) = j by omega, List.drop_eq_getElem_cons hj'.1, hj'.2]
  have h1 : opens cs = opens (cs.take i) + (isOp ci + (opens ((cs.drop (i + 1)).take (j - (i + 1))) + (isOp cj + opens (cs.drop (j + 1))))) := by
    have := congrArg opens e1
    rw [opens_app, e2, opens, e3, opens_app, e4, opens] at this
    exact this
  have h2 : isOp 32 = 0 := by decide
  rw [opens_app, opens_app, opens, opens_app, opens, h2, h1, ho, hc0]
  show _ + (0 + (_ + (0 + 0))) + _ < _
  omega
end Rx

set_option Elab.async false
set_option linter.all false
set_option maxRecDepth 100000
set_option maxHeartbeats 1000000
namespace L2
open PySem PySem.Spec PyProof.Rows
/-- == of data, the second side shallow -/
def rEqM (K : PySem.W.Frag) : R2 := fun x y H Q => ∃ d e, Dp K H x d ∧ Dp K H y e ∧ d.canLay0 = true ∧ SeqAt.shaped e = true ∧ Q (.bl (PyData.eqv d e)) H
theorem op_eqM {X : Cx} (hu : X.A.units + 64 < cLine) : OpR X (compareOp .Eq) (rEqM X.K) := by
  intro pins s σ H x y v u Q I rx ry h
  obtain ⟨d, e, hd, he, sd, se, q⟩ := h
  obtain ⟨as, r1⟩ := Dp.reads I d x v hd rx
  obtain ⟨bs, r2⟩ := Dp.reads I e y u he ry
  exact SeqAt.compareEq_reads r1 r2 sd (SeqAt.canLay_of_shaped se) (by have := SeqAt.depth_of_shaped se; have := Nat.min_le_right d.depth e.depth; omega) ⟨.bl _, H, I, rfl, q⟩
end L2
namespace Rx
open PySem PySem.Spec PyProof.Rows L2 SX
def NL (ns : List PyData) : Prop := ∀ d ∈ ns, d.canLay0 = true
def OL (os : List Str) : Prop := ∀ o ∈ os, PyData.strOk o = true
theorem lay2 {w : Str} {a : PyData} (h : PyData.strOk w = true) (ha : a.canLay0 = true) : (PyData.tuple [.str w, a]).canLay0 = true := by simp [PyData.canLay0, PyData.canLayAll0, h, ha]
theorem lay3 {w : Str} {a b : PyData} (h : PyData.strOk w = true) (ha : a.canLay0 = true) (hb : b.canLay0 = true) : (PyData.tuple [.str w, a, b]).canLay0 = true := by simp [PyData.canLay0, PyData.canLayAll0, h, ha, hb]
theorem join_lay {o : Str} {ns ms : List PyData} (ho : PyData.strOk o = true) (h : NL ns) (e : joinOp o ns = some ms) : NL ms := by
  unfold joinOp at e
  split at e
  · split at e
    · injection e with e
      subst e
      intro d hd
      rcases List.mem_cons.mp hd with rfl | hd
      · exact lay2 ho (h _ (by simp))
      · exact h d (List.mem_cons_of_mem _ hd)
    · cases e
  · split at e
    · injection e with e
      subst e
      intro d hd
      rcases List.mem_cons.mp hd with rfl | hd
      · exact lay3 ho (h _ (by simp)) (h _ (by simp))
      · exact h d (by simp [hd])
    · cases e
theorem down_lay {b : Int} : ∀ {os : List Str} {ns : List PyData} {x : List Str × List PyData}, OL os → NL ns → joinDown b os ns = some x → OL x.1 ∧ NL x.2
  | [], ns, x, ho, hn, e => by
    simp only [joinDown, Option.some.injEq] at e
    subst e
    exact ⟨ho, hn⟩
  | o :: os, ns, x, ho, hn, e => by
    unfold joinDown at e
    split at e
    · split at e
      · rename_i ms hm
        exact down_lay (fun y hy => ho y (List.mem_cons_of_mem _ hy)) (join_lay (ho o (by simp)) hn hm) e
      · cases e
    · injection e with e
      subst e
      exact ⟨ho, hn⟩
theorem mid_ok : ∀ s ∈ midL, PyData.strOk s = true := by decide +kernel
theorem beg_ok : PyData.strOk "number" = true ∧ PyData.strOk "variable" = true ∧ PyData.strOk "negate" = true ∧ PyData.strOk "not" = true ∧ PyData.strOk "(" = true ∧ PyData.strOk "[" = true := by decide +kernel
theorem OL.cons {s : Str} {os : List Str} (h : OL os) (hs : PyData.strOk s = true) : OL (s :: os) := fun o ho => by
  rcases List.mem_cons.mp ho with rfl | ho
  · exact hs
  · exact h o ho
theorem step_lay {r q : RS} {s : Str} {v : V} (ho : OL r.ops) (hn : NL r.nodes) (hv : (dOf v).canLay0 = true) (hf : r.fits s = true) (ht : r.takeIn s v = some q) : OL q.ops ∧ NL q.nodes := by
  unfold RS.fits at hf
  unfold RS.takeIn at ht
  split at ht
  · rename_i hst
    rw [if_pos hst] at hf
    injection ht with ht
    subst ht
    obtain ⟨b1, b2, b3, b4, b5, b6⟩ := beg_ok
    rcases beg_in hf with rfl | rfl | rfl | rfl | ⟨_, rfl | rfl⟩
    · exact ⟨ho, fun d hd => by
        rcases List.mem_cons.mp hd with rfl | hd
        · exact lay2 b1 hv
        · exact hn d hd⟩
    · exact ⟨ho, fun d hd => by
        rcases List.mem_cons.mp hd with rfl | hd
        · exact lay2 b2 hv
        · exact hn d hd⟩
    · exact ⟨ho.cons b3, hn⟩
    · exact ⟨ho.cons b5, hn⟩
    · exact ⟨ho.cons b4, hn⟩
    · exact ⟨ho.cons b6, hn⟩
  · rename_i hst
    rw [if_neg hst] at hf
    split at ht
    · unfold RS.close_ at ht
      obtain ⟨x, hx, ht⟩ := Option.bind_eq_some_iff.mp ht
      unfold RS.down at hx
      obtain ⟨y, hy, rfl⟩ := Option.map_eq_some_iff.mp hx
      obtain ⟨h1, h2⟩ := down_lay ho hn hy
      dsimp only at ht
      split at ht
      · rename_i o os b bs e1 e2
        injection ht with ht
        subst ht
        exact ⟨fun z hz => h1 z (by rw [e1]; exact List.mem_cons_of_mem _ hz), h2⟩
      · cases ht
    · split at ht
      · unfold RS.down at ht
        obtain ⟨y, hy, rfl⟩ := Option.map_eq_some_iff.mp ht
        exact down_lay ho hn hy
      · rename_i hs he
        have hm : s ∈ midL := by
          rcases follow_in hf with h | h | h | h
          · exact h
          · exact absurd (.inl h) hs
          · exact absurd (.inr h) hs
          · exact absurd h he
        unfold RS.between at ht
        obtain ⟨x, hx, ht⟩ := Option.map_eq_some_iff.mp ht
        unfold RS.down at hx
        obtain ⟨y, hy, rfl⟩ := Option.map_eq_some_iff.mp hx
        obtain ⟨h1, h2⟩ := down_lay ho hn hy
        subst ht
        split
        · exact ⟨h1.cons (mid_ok s hm), h2⟩
        · exact ⟨h1.cons (mid_ok s hm), h2⟩
theorem name_ok {w : List Nat} (h : isName w = true) : (dOf (.str (S w))).canLay0 = true := by
  show PyData.strOk (S w) = true
  refine str_ok fun c hc => ?_
  have e : cod (S w) = w := by simp [S]
  rw [e] at hc
  have h1 : w.all isLet = true := by
    have h2 := h
    rw [← e] at h2
    have := (name_parts h2).2.2.2
    rwa [e] at this
  have := (List.all_eq_true.mp h1) c hc
  unfold isLet at this
  rw [Bool.and_eq_true, decide_eq_true_eq, decide_eq_true_eq] at this
  omega
theorem tok_lay (c : Nat) (r : List Nat) : (dOf (tokAt (c :: r)).2.1).canLay0 = true := by
  unfold tokAt
  dsimp only
  split
  · unfold wordTok
    split
    · rfl
    · split
      · rename_i h
        exact name_ok h
      · rfl
  · split
    · unfold numTok
      split <;> rfl
    · unfold signTok
      split <;> rfl
theorem run_lay : ∀ (n at_ : Nat) (cs : List Nat) (r q : RS), OL r.ops → NL r.nodes → runX r (toksF n at_ cs) = some (.inr q) → NL q.nodes := by
  have fin : ∀ (at_ : Nat) (r q : RS), OL r.ops → NL r.nodes → runX r [("end", .non, at_)] = some (.inr q) → NL q.nodes := by
    intro at_ r q ho hn e
    unfold runX at e
    split at e
    · rename_i hf
      obtain ⟨x, hx, e⟩ := Option.bind_eq_some_iff.mp e
      unfold runX at e
      injection e with e
      injection e with e
      subst e
      exact (step_lay ho hn rfl hf hx).2
    · cases e
  intro n
  induction n with
  | zero => intro at_ cs r q ho hn e; exact fin at_ r q ho hn e
  | succ n ih =>
    intro at_ cs r q ho hn e
    cases cs with
    | nil => exact fin at_ r q ho hn e
    | cons c cs =>
      unfold toksF at e
      split at e
      · exact ih _ _ _ _ ho hn e
      · unfold runX at e
        split at e
        · rename_i hf
          obtain ⟨x, hx, e⟩ := Option.bind_eq_some_iff.mp e
          obtain ⟨h1, h2⟩ := step_lay ho hn (tok_lay c cs) hf hx
          exact ih _ _ _ _ h1 h2 e
        · cases e
theorem read_lay {c : Bool} {cs : List Nat} {q : RS} {d : PyData} (h : runX (RS.start c) (toks cs) = some (.inr q)) (hn : q.nodes = [d]) : d.canLay0 = true :=
  run_lay _ _ _ _ _ (fun _ h => by cases h) (fun _ h => by cases h) h d (by rw [hn]; simp)
end Rx

set_option Elab.async false
set_option linter.all false
set_option maxRecDepth 100000
set_option maxHeartbeats 400000
namespace Rx
open PySem PySem.Spec PyProof.Rows L2 SX
/-! ### trees in a heap, of tuples or lists -/
inductive Rep : PyData → Tr → Prop where
  | num {d : PyData} {n : Int} : kids d = some [.str "number", .int n] → Rep d (.num n)
  | var {d : PyData} {x : Str} : kids d = some [.str "variable", .str x] → Rep d (.var x)
  | pre {d da : PyData} {w : Str} {a : Tr} : kids d = some [.str w, da] → Rep da a → Rep d (.pre w a)
  | bin {d da db : PyData} {w : Str} {a b : Tr} : kids d = some [.str w, da, db] → Rep da a → Rep db b → Rep d (.bin w a b)
theorem rep_data : ∀ t : Tr, Rep t.data t
  | .num n => .num rfl
  | .var x => .var rfl
  | .pre w a => .pre rfl (rep_data a)
  | .bin w a b => .bin rfl (rep_data a) (rep_data b)
def Tr.ldata : Tr → PyData
  | .num n => .list [.str "number", .int n] | .var x => .list [.str "variable", .str x] | .pre w a => .list [.str w, a.ldata] | .bin w a b => .list [.str w, a.ldata, b.ldata]
theorem rep_ldata : ∀ t : Tr, Rep t.ldata t
  | .num n => .num rfl
  | .var x => .var rfl
  | .pre w a => .pre rfl (rep_ldata a)
  | .bin w a b => .bin rfl (rep_ldata a) (rep_ldata b)
def Tr.wf : Tr → Prop
  | .num n => n.natAbs.log2 < 1920
  | .var _ => True
  | .pre w a => w ∈ prefL ∧ a.wf
  | .bin w a b => w ∈ binL ∧ a.wf ∧ b.wf
def Tr.sz : Tr → Nat
  | .num _ => 3 | .var _ => 3 | .pre _ a => 6 + a.sz | .bin _ a b => 10 + (a.sz + b.sz)
theorem Ty.wf {b : Bool} {n : Nat} {t : Tr} (h : Ty b n t) : t.wf := by
  have hn : ∀ n ∈ numL, n.natAbs.log2 < 1920 := by decide +kernel
  have h1 : ∀ w ∈ arithL ++ compL ++ logL, w ∈ binL := by decide +kernel
  induction h with
  | num h => exact hn _ h
  | var _ => exact trivial
  | neg _ ih => exact ⟨by decide +kernel, ih⟩
  | not_ _ ih => exact ⟨by decide +kernel, ih⟩
  | bin hw _ _ i1 i2 => exact ⟨h1 _ (by simp [hw]), i1, i2⟩
  | cmp hw _ _ i1 i2 => exact ⟨h1 _ (by simp [hw]), i1, i2⟩
  | log hw _ _ i1 i2 => exact ⟨h1 _ (by simp [hw]), i1, i2⟩
def szB : Nat → Nat
  | 0 => 3
  | n + 1 => 2 * szB n + 10
theorem szB_ge (n : Nat) : 3 ≤ szB n := by
  induction n with
  | zero => simp [szB]
  | succ n ih => simp only [szB]; omega
theorem Ty.size {b : Bool} {n : Nat} {t : Tr} (h : Ty b n t) : t.sz ≤ szB n := by
  induction h with
  | @num k n h => exact szB_ge k
  | @var k x h => exact szB_ge k
  | neg _ ih => simp only [Tr.sz, szB]; omega
  | not_ _ ih => simp only [Tr.sz, szB]; omega
  | bin hw _ _ i1 i2 => simp only [Tr.sz, szB]; omega
  | cmp hw _ _ i1 i2 => simp only [Tr.sz, szB]; omega
  | log hw _ _ i1 i2 => simp only [Tr.sz, szB]; omega
/-! parts of a text -/
abbrev Part := Str ⊕ Tr
def enclT (t : Tr) (l : Int) : List Part := if l ≤ t.bnd then [.inr t] else if t.bnd < 5 then [.inl "[", .inr t, .inl "]"] else [.inl "(", .inr t, .inl ")"]
def midS (w : Str) : Str := ((Str.empty ++ (" " : Str)) ++ w) ++ (" " : Str)
def partsT : Tr → List Part
  | .num n => [.inl (numS n)]
  | .var x => [.inl x]
  | .pre w a => .inl (if w = "negate" then "-" else "not ") :: enclT a (bindOf w)
  | .bin w a b => (enclT a (bindOf w) ++ [.inl (midS w)]) ++ enclT b (bindOf w + 1)
def txtP : Part → List Nat
  | .inl s => cod s
  | .inr t => t.txt
theorem enclT_txt (t : Tr) (l : Int) : (enclT t l).flatMap txtP = encl t.bnd l t.txt := by
  have c1 : cod "[" = [91] := by decide +kernel
  have c2 : cod "]" = [93] := by decide +kernel
  have c3 : cod "(" = [40] := by decide +kernel
  have c4 : cod ")" = [41] := by decide +kernel
  unfold enclT encl
  split
  · simp [txtP]
  · split
    · simp [txtP, c1, c2]
    · simp [txtP, c3, c4]
theorem enclT_len (t : Tr) (l : Int) : (enclT t l).length ≤ 3 := by
  unfold enclT
  split
  · exact (by decide : (1 : Nat) ≤ 3)
  · split
    · exact Nat.le_refl 3
    · exact Nat.le_refl 3
theorem cat_cod (x y : Str) : cod (x ++ y) = cod x ++ cod y := by
  rw [← S_tl x, ← S_tl y, S_cat]
theorem partsT_txt (t : Tr) : (partsT t).flatMap txtP = t.txt := by
  have c1 : cod "-" = [45] := by decide +kernel
  have c2 : cod "not " = [110, 111, 116, 32] := by decide +kernel
  have c3 : cod " " = [32] := by decide +kernel
  have c4 : cod Str.empty = [] := by decide +kernel
  cases t with
  | num n => simp [partsT, txtP, Tr.txt]
  | var x => simp [partsT, txtP, Tr.txt]
  | pre w a =>
    unfold partsT Tr.txt preC
    rw [List.flatMap_cons, enclT_txt]
    congr 1
    show cod (if w = "negate" then "-" else "not ") = _
    split
    · exact c1
    · exact c2
  | bin w a b =>
    unfold partsT Tr.txt
    rw [List.flatMap_append, List.flatMap_append, enclT_txt, enclT_txt, List.append_assoc]
    congr 1
    congr 1
    simp only [List.flatMap_cons, List.flatMap_nil, List.append_nil, txtP, midS]
    rw [cat_cod, cat_cod, cat_cod, c3, c4]
    simp
def msP : Part → Nat
  | .inl _ => 1
  | .inr t => t.sz
def msL (ps : List Part) : Nat := (ps.map msP).sum
theorem msL_app (xs ys : List Part) : msL (xs ++ ys) = msL xs + msL ys := by unfold msL; rw [List.map_append, List.sum_append]
theorem msL_cons (x : Part) (ys : List Part) : msL (x :: ys) = msP x + msL ys := by unfold msL; rw [List.map_cons, List.sum_cons]
theorem enclT_ms (t : Tr) (l : Int) : msL (enclT t l) ≤ t.sz + 2 := by
  unfold enclT
  split
  · simp [msL, msP]
  · split <;> simp [msL, msP] <;> omega
theorem partsT_ms (t : Tr) : msL (partsT t) < t.sz := by
  cases t with
  | num n => simp [partsT, msL, msP, Tr.sz]
  | var x => simp [partsT, msL, msP, Tr.sz]
  | pre w a =>
    have := enclT_ms a (bindOf w)
    unfold partsT
    rw [msL_cons]
    simp only [msP, Tr.sz]
    omega
  | bin w a b =>
    have h1 := enclT_ms a (bindOf w)
    have h2 := enclT_ms b (bindOf w + 1)
    unfold partsT
    rw [msL_app, msL_app, msL_cons]
    simp only [msP, Tr.sz, msL, List.map_nil, List.sum_nil] at *
    omega
theorem ms_len (ps : List Part) : ps.length ≤ msL ps := by
  induction ps with
  | nil => simp
  | cons p ps ih =>
    rw [msL_cons, List.length_cons]
    have : 1 ≤ msP p := by
      cases p with
      | inl s => simp [msP]
      | inr t => cases t <;> simp [msP, Tr.sz] <;> omega
    omega
def wfP : Part → Prop
  | .inl _ => True
  | .inr t => t.wf
theorem enclT_wf {t : Tr} (h : t.wf) (l : Int) : ∀ p ∈ enclT t l, wfP p := by
  intro p hp
  unfold enclT at hp
  split at hp
  · rw [List.mem_singleton.mp hp]; exact h
  · split at hp
    · simp at hp
      rcases hp with rfl | rfl | rfl
      · trivial
      · exact h
      · trivial
    · simp at hp
      rcases hp with rfl | rfl | rfl
      · trivial
      · exact h
      · trivial
theorem partsT_wf {t : Tr} (h : t.wf) : ∀ p ∈ partsT t, wfP p := by
  intro p hp
  cases t with
  | num n => rw [List.mem_singleton.mp hp]; trivial
  | var x => rw [List.mem_singleton.mp hp]; trivial
  | pre w a =>
    rcases List.mem_cons.mp hp with e | hp
    · rw [e]; trivial
    · exact enclT_wf h.2 _ p hp
  | bin w a b =>
    rcases List.mem_append.mp hp with hp | hp
    · rcases List.mem_append.mp hp with hp | hp
      · exact enclT_wf h.2.1 _ p hp
      · rw [List.mem_singleton.mp hp]; trivial
    · exact enclT_wf h.2.2 _ p hp
section
variable {K : PySem.W.Frag} {H : Hp}
/-- what stands at a node -/
def Below (K : PySem.W.Frag) (H : Hp) (xs : List V) : Tr → Prop
  | .num n => xs = [.str "number", .int n]
  | .var x => xs = [.str "variable", .str x]
  | .pre w a => ∃ v d, xs = [.str w, v] ∧ Dp K H v d ∧ Rep d a
  | .bin w a b => ∃ v d u e, xs = [.str w, v, u] ∧ Dp K H v d ∧ Rep d a ∧ Dp K H u e ∧ Rep e b
theorem dpS {v : V} {x : Str} (h : Dp K H v (.str x)) : v = .str x := by cases h; rfl
theorem dpI {v : V} {i : Int} (h : Dp K H v (.int i)) : v = .int i := by cases h; rfl
theorem dpAll2 {xs : List V} {d1 d2 : PyData} (h : DpAll K H xs [d1, d2]) : ∃ v1 v2, xs = [v1, v2] ∧ Dp K H v1 d1 ∧ Dp K H v2 d2 := by
  cases h with
  | cons h1 h => cases h with
    | cons h2 h => cases h; exact ⟨_, _, rfl, h1, h2⟩
theorem dpAll3 {xs : List V} {d1 d2 d3 : PyData} (h : DpAll K H xs [d1, d2, d3]) : ∃ v1 v2 v3, xs = [v1, v2, v3] ∧ Dp K H v1 d1 ∧ Dp K H v2 d2 ∧ Dp K H v3 d3 := by
  cases h with
  | cons h1 h => cases h with
    | cons h2 h => cases h with
      | cons h3 h => cases h; exact ⟨_, _, _, rfl, h1, h2, h3⟩
theorem node_at {v : V} {d : PyData} {t : Tr} (h : Dp K H v d) (r : Rep d t) : ∃ a xs, v = .ref a ∧ (SqL K H a xs ∨ SqT K H a xs) ∧ Below K H xs t := by
  cases r with
  | num k =>
    obtain ⟨a, xs, e, hs, hx⟩ := src_of h k
    obtain ⟨v1, v2, rfl, h1, h2⟩ := dpAll2 hx
    rw [dpS h1, dpI h2] at hs
    exact ⟨a, _, e, hs, rfl⟩
  | var k =>
    obtain ⟨a, xs, e, hs, hx⟩ := src_of h k
    obtain ⟨v1, v2, rfl, h1, h2⟩ := dpAll2 hx
    rw [dpS h1, dpS h2] at hs
    exact ⟨a, _, e, hs, rfl⟩
  | pre k ra =>
    obtain ⟨a, xs, e, hs, hx⟩ := src_of h k
    obtain ⟨v1, v2, rfl, h1, h2⟩ := dpAll2 hx
    rw [dpS h1] at hs
    exact ⟨a, _, e, hs, v2, _, rfl, h2, ra⟩
  | bin k ra rb =>
    obtain ⟨a, xs, e, hs, hx⟩ := src_of h k
    obtain ⟨v1, v2, v3, rfl, h1, h2, h3⟩ := dpAll3 hx
    rw [dpS h1] at hs
    exact ⟨a, _, e, hs, v2, _, v3, _, rfl, h2, ra, h3, rb⟩
theorem below_head {xs : List V} {t : Tr} (h : Below K H xs t) : xs[0]? = some (.str t.word) := by
  cases t with
  | num n => rw [h]; rfl
  | var x => rw [h]; rfl
  | pre w a => obtain ⟨v, d, rfl, _⟩ := h; rfl
  | bin w a b => obtain ⟨v, d, u, e, rfl, _⟩ := h; rfl
def PartAt (K : PySem.W.Frag) (H : Hp) (v : V) : Part → Prop
  | .inl s => v = .str s
  | .inr t => ∃ d, Dp K H v d ∧ Rep d t
inductive PartsAt (K : PySem.W.Frag) (H : Hp) : List V → List Part → Prop where
  | nil : PartsAt K H [] []
  | cons {v : V} {p : Part} {vs : List V} {ps : List Part} : PartAt K H v p → PartsAt K H vs ps → PartsAt K H (v :: vs) (p :: ps)
theorem PartsAt.app {vs us : List V} {ps qs : List Part} (h : PartsAt K H vs ps) (g : PartsAt K H us qs) : PartsAt K H (vs ++ us) (ps ++ qs) := by
  induction h with
  | nil => exact g
  | cons h1 _ ih => exact .cons h1 ih
theorem PartsAt.len {vs : List V} {ps : List Part} (h : PartsAt K H vs ps) : vs.length = ps.length := by
  induction h with
  | nil => rfl
  | cons _ _ ih => simp [ih]
/-- it is no text -/
theorem no_str {v : V} {d : PyData} {t : Tr} (h : Dp K H v d) (r : Rep d t) : ∃ u, TyX K H v u ∧ PySem.W.kitOne K u (.type "str") = some false := by
  have hk : ∃ its, kids d = some its := by cases r <;> exact ⟨_, by assumption⟩
  obtain ⟨its, hk⟩ := hk
  cases h with
  | tup h1 _ =>
    refine ⟨.type "tuple", ?_, kit_ty (by decide +kernel)⟩
    rcases h1 with (h | ⟨o, h⟩) | ⟨o, its, n, h, hc, _⟩
    · exact .base (.tup h)
    · exact .fTuple h
    · exact .kTuple h hc
  | lst h1 _ =>
    refine ⟨.type "list", ?_, kit_ty (by decide +kernel)⟩
    rcases h1 with (h | ⟨o, h⟩) | ⟨o, its, n, h, hc, _⟩
    · exact .base (.lst h)
    · exact .base (.frz h)
    · exact .kList h hc
  | _ => simp [kids] at hk
end
theorem joinL_nil : ∀ l : List (List Nat), TL.joinL [] l = l.flatten
  | [] => rfl
  | [x] => by simp [TL.joinL]
  | x :: y :: l => by
    show x ++ ([] ++ TL.joinL [] (y :: l)) = _
    rw [joinL_nil (y :: l)]
    simp
theorem join_nil (ss : List Str) : Txt.join "" ss = S (ss.flatMap cod) := by
  have h := join_S [] (ss.map cod)
  rw [joinL_nil] at h
  have e : ("" : Str) = S [] := by decide +kernel
  rw [e]
  have e2 : (ss.map cod).map S = ss := by
    rw [List.map_map]
    exact (List.map_congr_left (fun s _ => S_tl s)).trans (List.map_id ss)
  rw [e2] at h
  rw [h, ← List.flatMap_def]
end Rx

set_option Elab.async false
set_option linter.all false
set_option maxRecDepth 100000
set_option maxHeartbeats 1000000
namespace Rx
open PySem PySem.Spec PyProof.Rows L2 SX
/-! ### whatever is read is a good tree, not larger than its text -/
def Tr.gt : Tr → Prop
  | .num n => 0 ≤ n ∧ n.natAbs < 10 ^ 30
  | .var x => isName (cod x) = true
  | .pre w a => w ∈ prefL ∧ a.gt
  | .bin w a b => w ∈ binL ∧ a.gt ∧ b.gt
theorem Tr.gt.wf : ∀ {t : Tr}, t.gt → t.wf
  | .num n, h => by
    have h1 : n.natAbs < 2 ^ 100 := Nat.lt_of_lt_of_le h.2 (by decide)
    show n.natAbs.log2 < 1920
    by_cases h0 : n.natAbs = 0
    · rw [h0]; decide
    · exact Nat.lt_of_lt_of_le ((Nat.log2_lt h0).mpr h1) (by decide)
  | .var _, _ => trivial
  | .pre _ _, h => ⟨h.1, Tr.gt.wf h.2⟩
  | .bin _ _ _, h => ⟨h.1, Tr.gt.wf h.2.1, Tr.gt.wf h.2.2⟩
def GN (ns : List PyData) (ts : List Tr) : Prop := ns = ts.map Tr.data ∧ ∀ t ∈ ts, t.gt
def opsB : List Str := prefL ++ (binL ++ (["(", "["] : List Str))
def GO (os : List Str) : Prop := ∀ o ∈ os, o ∈ opsB
def szs (ts : List Tr) : Nat := (ts.map Tr.sz).sum
theorem bind_ops : ∀ o ∈ opsB, 0 ≤ bindOf o → o ∈ prefL ∨ (prefL.contains o = false ∧ o ∈ binL) := by decide +kernel
theorem pref_con : ∀ o ∈ prefL, prefL.contains o = true := by decide +kernel
theorem mid_bnd : ∀ s ∈ midL, 0 ≤ bindOf s ∧ s ∈ opsB := by decide +kernel
theorem join_gd {o : Str} {ns ms : List PyData} {ts : List Tr} (ho : o ∈ opsB) (hb : 0 ≤ bindOf o) (h : GN ns ts) (e : joinOp o ns = some ms) : ∃ us, GN ms us ∧ szs us ≤ szs ts + 10 := by
  obtain ⟨rfl, hg⟩ := h
  unfold joinOp at e
  rcases bind_ops o ho hb with hp | ⟨hp, hm⟩
  · rw [if_pos (pref_con o hp)] at e
    cases ts with
    | nil => cases e
    | cons t ts =>
      simp only [List.map_cons, Option.some.injEq] at e
      subst e
      refine ⟨.pre o t :: ts, ⟨rfl, fun u hu => ?_⟩, by simp only [szs, List.map_cons, List.sum_cons, Tr.sz]; omega⟩
      rcases List.mem_cons.mp hu with rfl | hu
      · exact ⟨hp, hg _ (by simp)⟩
      · exact hg u (List.mem_cons_of_mem _ hu)
  · rw [if_neg (by rw [hp]; decide)] at e
    match ts, e with
    | [], e => cases e
    | [_], e => cases e
    | t :: l :: ts, e =>
      simp only [List.map_cons, Option.some.injEq] at e
      subst e
      refine ⟨.bin o l t :: ts, ⟨rfl, fun u hu => ?_⟩, by simp only [szs, List.map_cons, List.sum_cons, Tr.sz]; omega⟩
      rcases List.mem_cons.mp hu with rfl | hu
      · exact ⟨hm, hg _ (by simp), hg _ (by simp)⟩
      · exact hg u (by simp [hu])
theorem down_gd {b : Int} (hb : 0 ≤ b) : ∀ {os : List Str} {ns : List PyData} {ts : List Tr} {x : List Str × List PyData}, GO os → GN ns ts → joinDown b os ns = some x → GO x.1 ∧ ∃ us, GN x.2 us ∧ szs us + 10 * x.1.length ≤ szs ts + 10 * os.length
  | [], ns, ts, x, ho, hn, e => by
    simp only [joinDown, Option.some.injEq] at e
    subst e
    exact ⟨ho, ts, hn, Nat.le_refl _⟩
  | o :: os, ns, ts, x, ho, hn, e => by
    unfold joinDown at e
    split at e
    · rename_i hle
      split at e
      · rename_i ms hm
        obtain ⟨us, h1, h2⟩ := join_gd (ho o (by simp)) (by omega) hn hm
        obtain ⟨h3, vs, h4, h5⟩ := down_gd hb (fun y hy => ho y (List.mem_cons_of_mem _ hy)) h1 e
        exact ⟨h3, vs, h4, by simp only [List.length_cons]; omega⟩
      · cases e
    · injection e with e
      subst e
      exact ⟨ho, ts, hn, Nat.le_refl _⟩
theorem GO.cons {s : Str} {os : List Str} (h : GO os) (hs : s ∈ opsB) : GO (s :: os) := fun o ho => by
  rcases List.mem_cons.mp ho with rfl | ho
  · exact hs
  · exact h o ho
def TokG (s : Str) (v : V) : Prop := (s = "number" → ∃ n : Int, v = .int n ∧ 0 ≤ n ∧ n.natAbs < 10 ^ 30) ∧ (s = "variable" → ∃ x : Str, v = .str x ∧ isName (cod x) = true)
theorem beg_ops : ("negate" : Str) ∈ opsB ∧ ("not" : Str) ∈ opsB ∧ ("(" : Str) ∈ opsB ∧ ("[" : Str) ∈ opsB := by decide +kernel
theorem step_gd {r q : RS} {s : Str} {v : V} {ts : List Tr} (ho : GO r.ops) (hn : GN r.nodes ts) (hv : TokG s v) (hf : r.fits s = true) (ht : r.takeIn s v = some q) : GO q.ops ∧ ∃ us, GN q.nodes us ∧ szs us + 10 * q.ops.length ≤ szs ts + 10 * r.ops.length + 10 := by
  unfold RS.fits at hf
  unfold RS.takeIn at ht
  split at ht
  · rename_i hst
    rw [if_pos hst] at hf
    injection ht with ht
    subst ht
    obtain ⟨b3, b4, b5, b6⟩ := beg_ops
    rcases beg_in hf with rfl | rfl | rfl | rfl | ⟨_, rfl | rfl⟩
    · obtain ⟨n, rfl, hl⟩ := hv.1 rfl
      refine ⟨ho, .num n :: ts, ⟨by show PyData.tuple [_, _] :: r.nodes = _; rw [hn.1]; rfl, fun u hu => ?_⟩, ?_⟩
      · rcases List.mem_cons.mp hu with rfl | hu
        · exact hl
        · exact hn.2 u hu
      · show szs (.num n :: ts) + 10 * r.ops.length ≤ _
        simp only [szs, List.map_cons, List.sum_cons, Tr.sz]; omega
    · obtain ⟨x, rfl, hl⟩ := hv.2 rfl
      refine ⟨ho, .var x :: ts, ⟨by show PyData.tuple [_, _] :: r.nodes = _; rw [hn.1]; rfl, fun u hu => ?_⟩, ?_⟩
      · rcases List.mem_cons.mp hu with rfl | hu
        · exact hl
        · exact hn.2 u hu
      · show szs (.var x :: ts) + 10 * r.ops.length ≤ _
        simp only [szs, List.map_cons, List.sum_cons, Tr.sz]; omega
    · exact ⟨ho.cons b3, ts, hn, Nat.le_of_eq (by show szs ts + 10 * (r.ops.length + 1) = _; omega)⟩
    · exact ⟨ho.cons b5, ts, hn, Nat.le_of_eq (by show szs ts + 10 * (r.ops.length + 1) = _; omega)⟩
    · exact ⟨ho.cons b4, ts, hn, Nat.le_of_eq (by show szs ts + 10 * (r.ops.length + 1) = _; omega)⟩
    · exact ⟨ho.cons b6, ts, hn, Nat.le_of_eq (by show szs ts + 10 * (r.ops.length + 1) = _; omega)⟩
  · rename_i hst
    rw [if_neg hst] at hf
    split at ht
    · unfold RS.close_ at ht
      obtain ⟨x, hx, ht⟩ := Option.bind_eq_some_iff.mp ht
      unfold RS.down at hx
      obtain ⟨y, hy, rfl⟩ := Option.map_eq_some_iff.mp hx
      obtain ⟨h1, us, h2, h3⟩ := down_gd (Int.le_refl 0) ho hn hy
      dsimp only at ht
      split at ht
      · rename_i o os b bs e1 e2
        injection ht with ht
        subst ht
        exact ⟨fun z hz => h1 z (by rw [e1]; exact List.mem_cons_of_mem _ hz), us, h2, by rw [e1] at h3; simp only [List.length_cons] at h3; show szs us + 10 * os.length ≤ _; omega⟩
      · cases ht
    · split at ht
      · unfold RS.down at ht
        obtain ⟨y, hy, rfl⟩ := Option.map_eq_some_iff.mp ht
        obtain ⟨h1, us, h2, h3⟩ := down_gd (Int.le_refl 0) ho hn hy
        exact ⟨h1, us, h2, by show szs us + 10 * y.1.length ≤ _; omega⟩
      · rename_i hs he
        have hm : s ∈ midL := by
          rcases follow_in hf with h | h | h | h
          · exact h
          · exact absurd (.inl h) hs
          · exact absurd (.inr h) hs
          · exact absurd h he
        unfold RS.between at ht
        obtain ⟨x, hx, ht⟩ := Option.map_eq_some_iff.mp ht
        unfold RS.down at hx
        obtain ⟨y, hy, rfl⟩ := Option.map_eq_some_iff.mp hx
        obtain ⟨h1, us, h2, h3⟩ := down_gd (mid_bnd s hm).1 ho hn hy
        subst ht
        split
        · exact ⟨h1.cons (mid_bnd s hm).2, us, h2, by show szs us + 10 * (y.1.length + 1) ≤ _; omega⟩
        · exact ⟨h1.cons (mid_bnd s hm).2, us, h2, by show szs us + 10 * (y.1.length + 1) ≤ _; omega⟩
theorem words_no : ∀ w ∈ wordsL, w ≠ "number" ∧ w ≠ "variable" := by decide +kernel
theorem signs_no : ∀ w ∈ signsL, w ≠ "number" ∧ w ≠ "variable" := by decide +kernel
theorem digits_lt {w : List Nat} (h1 : w.length ≤ 30) (h2 : w.all isDig = true) : NumText.digitsVal w < 10 ^ 30 := by
  have : ∀ (l : List Nat) (a : Nat), l.all isDig = true → l.foldl (fun x c => x * 10 + (c - 48)) a < (a + 1) * 10 ^ l.length := by
    intro l
    induction l with
    | nil => intro a _; simp
    | cons c r ih =>
      intro a h
      rw [List.all_cons, Bool.and_eq_true] at h
      have hc : c - 48 ≤ 9 := by
        have := h.1
        unfold isDig at this
        rw [Bool.and_eq_true, decide_eq_true_eq, decide_eq_true_eq] at this
        omega
      refine Nat.lt_of_lt_of_le (ih _ h.2) ?_
      rw [List.length_cons, Nat.pow_succ, ← Nat.mul_assoc, Nat.mul_right_comm]
      refine Nat.mul_le_mul_right _ ?_
      show a * 10 + (c - 48) + 1 ≤ (a + 1) * 10
      omega
  have h := this w 0 h2
  have e : (0 + 1) * 10 ^ w.length ≤ 10 ^ 30 := by
    rw [Nat.zero_add, Nat.one_mul]
    exact Nat.pow_le_pow_right (by decide) h1
  exact Nat.lt_of_lt_of_le h e
theorem tokAt_gd (c : Nat) (r : List Nat) : TokG (tokAt (c :: r)).1 (tokAt (c :: r)).2.1 := by
  unfold tokAt
  dsimp only
  split
  · unfold wordTok
    split
    · rename_i h
      have := words_no _ (List.contains_iff_mem.mp h)
      exact ⟨fun e => absurd e this.1, fun e => absurd e this.2⟩
    · split
      · rename_i h
        refine ⟨fun e => absurd e (by show ("variable" : Str) ≠ "number"; decide +kernel), fun _ => ⟨_, rfl, ?_⟩⟩
        rw [show cod (S ((c :: r).takeWhile isLet)) = (c :: r).takeWhile isLet by simp [S]]
        exact h
      · exact ⟨fun e => absurd e (by show ("bad" : Str) ≠ "number"; decide +kernel), fun e => absurd e (by show ("bad" : Str) ≠ "variable"; decide +kernel)⟩
  · split
    · unfold numTok
      split
      · rename_i h
        unfold isNum at h
        simp only [Bool.and_eq_true, decide_eq_true_eq] at h
        refine ⟨fun _ => ⟨_, rfl, Int.natCast_nonneg _, ?_⟩, fun e => absurd e (by show ("number" : Str) ≠ "variable"; decide +kernel)⟩
        rw [Int.natAbs_natCast]
        exact digits_lt h.2.1 h.2.2.2
      · exact ⟨fun e => absurd e (by show ("bad" : Str) ≠ "number"; decide +kernel), fun e => absurd e (by show ("bad" : Str) ≠ "variable"; decide +kernel)⟩
    · unfold signTok
      split
      · rename_i s h
        have := signs_no _ (List.mem_of_find?_eq_some h)
        exact ⟨fun e => absurd e this.1, fun e => absurd e this.2⟩
      · exact ⟨fun e => absurd e (by show ("bad" : Str) ≠ "number"; decide +kernel), fun e => absurd e (by show ("bad" : Str) ≠ "variable"; decide +kernel)⟩
theorem end_gd : TokG "end" .non := ⟨fun e => absurd e (by decide +kernel), fun e => absurd e (by decide +kernel)⟩
theorem run_gd : ∀ (n at_ : Nat) (cs : List Nat) (r q : RS) (ts : List Tr), GO r.ops → GN r.nodes ts → runX r (toksF n at_ cs) = some (.inr q) → ∃ us, GN q.nodes us ∧ szs us ≤ szs ts + 10 * r.ops.length + 10 * (n + 1) := by
  have fin : ∀ (at_ : Nat) (r q : RS) (ts : List Tr), GO r.ops → GN r.nodes ts → runX r [("end", .non, at_)] = some (.inr q) → ∃ us, GN q.nodes us ∧ szs us ≤ szs ts + 10 * r.ops.length + 10 := by
    intro at_ r q ts ho hn e
    unfold runX at e
    split at e
    · rename_i hf
      obtain ⟨x, hx, e⟩ := Option.bind_eq_some_iff.mp e
      unfold runX at e
      injection e with e
      injection e with e
      subst e
      obtain ⟨_, us, h1, h2⟩ := step_gd ho hn end_gd hf hx
      exact ⟨us, h1, by omega⟩
    · cases e
  intro n
  induction n with
  | zero => intro at_ cs r q ts ho hn e; obtain ⟨us, h1, h2⟩ := fin at_ r q ts ho hn e; exact ⟨us, h1, by omega⟩
  | succ n ih =>
    intro at_ cs r q ts ho hn e
    cases cs with
    | nil => obtain ⟨us, h1, h2⟩ := fin at_ r q ts ho hn e; exact ⟨us, h1, by omega⟩
    | cons c cs =>
      unfold toksF at e
      split at e
      · obtain ⟨us, h1, h2⟩ := ih _ _ _ _ ts ho hn e; exact ⟨us, h1, by omega⟩
      · unfold runX at e
        split at e
        · rename_i hf
          obtain ⟨x, hx, e⟩ := Option.bind_eq_some_iff.mp e
          obtain ⟨h1, us, h2, h3⟩ := step_gd ho hn (tokAt_gd c cs) hf hx
          obtain ⟨vs, h4, h5⟩ := ih _ _ _ _ us h1 h2 e
          exact ⟨vs, h4, by omega⟩
        · cases e
theorem read_gd {c : Bool} {cs : List Nat} {q : RS} {d : PyData} (h : runX (RS.start c) (toks cs) = some (.inr q)) (hn : q.nodes = [d]) : ∃ t : Tr, d = t.data ∧ t.gt ∧ t.sz ≤ 10 * (cs.length + 1) := by
  obtain ⟨us, ⟨h1, h2⟩, h3⟩ := run_gd _ _ _ _ _ [] (fun _ h => by cases h) ⟨rfl, fun _ h => by cases h⟩ h
  rw [hn] at h1
  match us, h1 with
  | [t], h1 =>
    simp only [List.map_cons, List.map_nil, List.cons.injEq, and_true] at h1
    refine ⟨t, h1, h2 t (by simp), ?_⟩
    simpa [szs, RS.start] using h3
theorem gt_len : ∀ {t : Tr}, t.gt → t.txt.length ≤ 11 * t.sz
  | .num n, h => by
    have : (cod (numS n)).length ≤ 30 := by
      obtain ⟨m, rfl⟩ := Int.eq_ofNat_of_zero_le h.1
      have e : toString ((m : Nat) : Int) = Nat.repr m := rfl
      show (numS ((m : Nat) : Int)).cps.toList.length ≤ 30
      unfold numS
      rw [e, PySem.Str.ofString_eq_toList]
      have := (Nat.length_repr_le_iff (n := m) (k := 30) (by decide)).mpr (by simpa using h.2)
      simpa [Nat.repr_eq_ofList_toDigits] using this
    show (cod (numS n)).length ≤ 33
    omega
  | .var x, h => by
    obtain ⟨_, _, h3, _⟩ := name_parts h
    show (cod x).length ≤ 33
    omega
  | .pre w a, h => by
    have h1 := gt_len h.2
    have h2 : (preC w).length ≤ 4 := by unfold preC; split <;> decide
    have h3 := encl_len a.bnd (bindOf w) a.txt
    show (preC w ++ encl a.bnd (bindOf w) a.txt).length ≤ 11 * (6 + a.sz)
    rw [List.length_append]
    omega
  | .bin w a b, h => by
    have h1 := gt_len h.2.1
    have h2 := gt_len h.2.2
    have h3 := encl_len a.bnd (bindOf w) a.txt
    have h4 := encl_len b.bnd (bindOf w + 1) b.txt
    have h5 : ∀ w ∈ binL, (cod w).length ≤ 3 := by decide +kernel
    have h6 := h5 w h.1
    have e : (Tr.bin w a b).txt = encl a.bnd (bindOf w) a.txt ++ ((32 :: cod w ++ [32]) ++ encl b.bnd (bindOf w + 1) b.txt) := rfl
    rw [e]
    simp only [List.length_append, List.length_cons, List.length_nil, Tr.sz]
    omega
end Rx

set_option Elab.async false
set_option linter.all false
set_option maxRecDepth 100000
set_option maxHeartbeats 1000000
namespace Rx
open PySem PySem.Spec PyProof.Rows L2 SX
/-! ### programs: their lines, what stands in them, and what is wrong with them -/
inductive Stp where
  | proc (n : Str) | take (x : Str) | inp (x : Str) | recv (x s : Str) | set (x : Str) (t : Tr) | send (p : Str) (t : Tr) | iff (t : Tr) | whil (t : Tr) | els | fin | chk
def Stp.word : Stp → Str
  | .proc _ => "process" | .take _ => "take" | .inp _ => "input" | .recv _ _ => "receive" | .set _ _ => "set" | .send _ _ => "send" | .iff _ => "if" | .whil _ => "while" | .els => "else" | .fin => "end" | .chk => "checkpoint"
def Stp.rest : Stp → List PyData
  | .proc n => [.str n] | .take x => [.str x] | .inp x => [.str x] | .recv x s => [.str x, .str s] | .set x t => [.str x, t.data] | .send p t => [.str p, t.data] | .iff t => [t.data] | .whil t => [t.data] | _ => []
def Stp.data (s : Stp) : PyData := .tuple (.str s.word :: s.rest)
def Stp.good : Stp → Prop
  | .proc n => isName (cod n) = true | .take x => isName (cod x) = true | .inp x => isName (cod x) = true | .recv x s => isName (cod x) = true ∧ isName (cod s) = true
  | .set x t => isName (cod x) = true ∧ t.gt ∧ t.sz ≤ 9010 | .send x t => isName (cod x) = true ∧ t.gt ∧ t.sz ≤ 9010 | .iff t => t.gt ∧ t.sz ≤ 9010 | .whil t => t.gt ∧ t.sz ≤ 9010 | _ => True
theorem tr_noList : ∀ t : Tr, noList t.data = true
  | .num _ => rfl
  | .var _ => rfl
  | .pre w a => by simp [Tr.data, noList, noListAll, tr_noList a]
  | .bin w a b => by simp [Tr.data, nBin, noList, noListAll, tr_noList a, tr_noList b]
theorem Stp.noList (s : Stp) : noList s.data = true := by
  cases s <;> simp [Stp.data, Stp.rest, Rx.noList, noListAll, tr_noList]
/-! one line -/
def Rd (c : Bool) (z : Str) : Option Tr → Prop
  | some t => ∃ r, runX (RS.start c) (toks (cod z)) = some (.inr r) ∧ r.nodes = [t.data] ∧ t.gt ∧ t.sz ≤ 9010
  | none => ∃ p, runX (RS.start c) (toks (cod z)) = some (.inl p)
abbrev par (z : Str) : Str × Str × Str := Txt.partition z " "
def soloL : List Str := ["checkpoint", "else", "end"]
def soloS (z : Str) : Stp := if z = "checkpoint" then .chk else if z = "else" then .els else .fin
def oneL : List Str := ["process", "take", "input"]
def oneS (w x : Str) : Stp := if w = "process" then .proc x else if w = "take" then .take x else .inp x
/-- what is parsed of a line: is it a condition, and which text -/
def argC (z : Str) : Bool := (par z).1 = "if" || (par z).1 = "while"
def argT (z : Str) : Str := if argC z = true then (par z).2.2 else (par (par z).2.2).2.2
def lineF (z : Str) (T : Option Tr) : Option Stp :=
  if soloL.contains z = true then some (soloS z)
  else if oneL.contains (par z).1 = true then (if isName (cod (par z).2.2) = true then some (oneS (par z).1 (par z).2.2) else none)
  else if (par z).1 = "receive" then (if isName (cod (par (par z).2.2).1) = true ∧ isName (cod (par (par z).2.2).2.2) = true then some (.recv (par (par z).2.2).1 (par (par z).2.2).2.2) else none)
  else if (par z).1 = "set" then (if isName (cod (par (par z).2.2).1) = true then T.map (.set (par (par z).2.2).1) else none)
  else if (par z).1 = "send" then (if isName (cod (par (par z).2.2).1) = true then T.map (.send (par (par z).2.2).1) else none)
  else if (par z).1 = "if" then T.map .iff
  else if (par z).1 = "while" then T.map .whil
  else none
def LineR (z : Str) (o : Option Stp) : Prop := ∃ T, Rd (argC z) (argT z) T ∧ o = lineF z T
theorem rd_ex (c : Bool) (z : Str) (h : z.length ≤ 900) : ∃ T, Rd c z T := by
  have h1 := comes_text c (cod z)
  unfold Comes at h1
  split at h1
  · exact ⟨none, _, h1⟩
  · obtain ⟨q, d, h2, h3, _⟩ := h1
    obtain ⟨t, rfl, h4, h5⟩ := read_gd h2 h3
    have : (cod z).length = z.length := by simp [Str.length]
    exact ⟨some t, q, h2, h3, h4, by omega⟩
theorem occ_sub {x y : Str} {i : Nat} {tl : List Nat} (h : Builtin.Str.occurrences x y 0 x.length 1 = i :: tl) : True := trivial
/-! the blocks of a program -/
def fitsW (w : Str) (bs : List Str) : Bool :=
  if w = "process" then bs.isEmpty else if w = "if" ∨ w = "while" then decide (bs.length < 20) else if w = "else" then decide (bs.head? = some ("if" : Str)) else (decide (w ≠ "end") || decide (0 < bs.length))
def pushB (w : Str) (bs : List Str) : List Str := if w = "if" ∨ w = "while" then w :: bs else if w = "else" then w :: bs.tail else if w = "end" then bs.tail else bs
def blkF : Nat → List Str → List Stp → Option Nat
  | n, bs, [] => if bs.isEmpty = true then none else some n
  | n, bs, s :: r => if (n = 0 ∧ s.word ≠ "process") ∨ fitsW s.word bs = false then some n else blkF (n + 1) (pushB s.word bs) r
def procs : List Stp → List Str
  | [] => []
  | .proc n :: r => n :: procs r
  | _ :: r => procs r
def nmG (names : List Str) : Nat → Nat → List Stp → Option Nat
  | _, _, [] => none
  | n, b, .proc x :: r => if b = 40 ∨ x ∈ names.take b then some n else nmG names (n + 1) (b + 1) r
  | n, b, .send p _ :: r => if p ∉ names ∨ names[b - 1]? = some p then some n else nmG names (n + 1) b r
  | n, b, .recv _ p :: r => if p ∉ names ∨ names[b - 1]? = some p then some n else nmG names (n + 1) b r
  | n, b, _ :: r => nmG names (n + 1) b r
def nmF (ss : List Stp) : Option Nat := if ss.isEmpty = true then some 0 else nmG (procs ss) 0 0 ss
def steps : Nat → List (Option Stp) → Except Nat (List Stp)
  | _, [] => .ok []
  | n, none :: _ => .error n
  | n, some s :: r => (steps (n + 1) r).map (s :: ·)
theorem steps_err : ∀ {ss : List Stp} {os : List (Option Stp)} {n i : Nat}, os.take i = ss.map some → os[i]? = some none → steps n os = .error (n + i)
  | [], os, n, 0, _, h2 => by
    cases os with
    | nil => simp at h2
    | cons o os =>
      simp at h2
      subst h2
      rfl
  | _ :: _, os, n, 0, h1, _ => by simp at h1
  | ss, [], n, i + 1, _, h2 => by simp at h2
  | [], o :: os, n, i + 1, h1, _ => by simp at h1
  | s :: ss, o :: os, n, i + 1, h1, h2 => by
    simp only [List.take_succ_cons, List.map_cons, List.cons.injEq] at h1
    obtain ⟨rfl, h1⟩ := h1
    have := steps_err (n := n + 1) h1 (by simpa using h2)
    unfold steps
    rw [this, show n + 1 + i = n + (i + 1) by omega]
    rfl
theorem steps_ok : ∀ {ss : List Stp} {n : Nat}, steps n (ss.map some) = .ok ss
  | [], _ => rfl
  | s :: ss, n => by
    show (steps (n + 1) (ss.map some)).map (s :: ·) = _
    rw [steps_ok]
    rfl
theorem steps_inv : ∀ {os : List (Option Stp)} {n : Nat} {ss : List Stp}, steps n os = .ok ss → os = ss.map some
  | [], _, ss, h => by
    simp only [steps, Except.ok.injEq] at h
    subst h
    rfl
  | none :: _, _, _, h => by cases h
  | some s :: r, n, ss, h => by
    unfold steps at h
    cases e : steps (n + 1) r with
    | error k => rw [e] at h; cases h
    | ok us =>
      rw [e] at h
      injection h with h
      subst h
      rw [steps_inv e]
      rfl
/-- the outcome for the lines -/
def progR (many : Nat) (os : List (Option Stp)) : Except (Nat × Str) (List Stp) :=
  if 400 < many then .error (400, "limit") else match steps 0 os with
    | .error n => .error (n, "line")
    | .ok ss => match blkF 0 [] ss with
      | some n => .error (n, "block")
      | none => match nmF ss with
        | some n => .error (n, "name")
        | none => .ok ss
/-! ### statements -/
inductive Smt where
  | lf (s : Stp)
  | wh (t : Tr) (b : List Smt)
  | ife (t : Tr) (a b : List Smt)
mutual
def Smt.data : Smt → PyData
  | .lf s => s.data
  | .wh t b => .tuple [.str "while", t.data, .tuple (sdata b)]
  | .ife t a b => .tuple [.str "if", t.data, .tuple (sdata a), .tuple (sdata b)]
def sdata : List Smt → List PyData
  | [] => []
  | s :: r => s.data :: sdata r
end
theorem sdata_map : ∀ l : List Smt, sdata l = l.map Smt.data
  | [] => by simp [sdata]
  | s :: r => by simp [sdata, sdata_map r]
def headT (w : Str) (t : Tr) : Str := S (cod w ++ 32 :: t.txt)
def namT (w x : Str) (y : List Nat) : Str := S (cod w ++ 32 :: (cod x ++ 32 :: y))
def Stp.text : Stp → Str
  | .proc n => S (cod "process" ++ 32 :: cod n) | .take x => S (cod "take" ++ 32 :: cod x) | .inp x => S (cod "input" ++ 32 :: cod x) | .recv x s => namT "receive" x (cod s) | .set x t => namT "set" x t.txt | .send x t => namT "send" x t.txt
  | .iff t => headT "if" t | .whil t => headT "while" t | .els => "else" | .fin => "end" | .chk => "checkpoint"
mutual
def Smt.lines : Smt → List Str
  | .lf s => [s.text]
  | .wh t b => headT "while" t :: (slines b ++ [("end" : Str)])
  | .ife t a b => headT "if" t :: ((slines a ++ (if b.isEmpty = true then [] else ("else" : Str) :: slines b)) ++ [("end" : Str)])
def slines : List Smt → List Str
  | [] => []
  | s :: r => s.lines ++ slines r
end
mutual
def Smt.dep : Smt → Nat
  | .lf _ => 0
  | .wh _ b => sdep b + 1
  | .ife _ a b => max (sdep a) (sdep b) + 1
def sdep : List Smt → Nat
  | [] => 0
  | s :: r => max s.dep (sdep r)
end
def leafS : Stp → Bool
  | .take _ => true | .inp _ => true | .recv _ _ => true | .set _ _ => true | .send _ _ => true | .chk => true | _ => false
mutual
def Smt.ok : Smt → Prop
  | .lf s => leafS s = true ∧ s.good
  | .wh t b => t.gt ∧ t.sz ≤ 9010 ∧ sok b
  | .ife t a b => t.gt ∧ t.sz ≤ 9010 ∧ sok a ∧ sok b
def sok : List Smt → Prop
  | [] => True
  | s :: r => s.ok ∧ sok r
end
theorem sok_iff : ∀ {l : List Smt}, sok l ↔ ∀ s ∈ l, s.ok
  | [] => by simp [sok]
  | s :: r => by simp [sok, sok_iff (l := r)]
theorem sdep_le {n : Nat} : ∀ {l : List Smt}, sdep l ≤ n ↔ ∀ s ∈ l, s.dep ≤ n
  | [] => by simp [sdep]
  | s :: r => by simp [sdep, sdep_le (l := r), Nat.max_le]
theorem slines_app : ∀ (a b : List Smt), slines (a ++ b) = slines a ++ slines b
  | [], b => by simp [slines]
  | s :: r, b => by simp [slines, slines_app r b]
mutual
theorem st_noList : ∀ s : Smt, noList s.data = true
  | .lf s => by simp only [Smt.data]; exact s.noList
  | .wh t b => by simp [Smt.data, noList, noListAll, tr_noList, sts_noList b]
  | .ife t a b => by simp [Smt.data, noList, noListAll, tr_noList, sts_noList a, sts_noList b]
theorem sts_noList : ∀ l : List Smt, noListAll (sdata l) = true
  | [] => by simp [sdata, noListAll]
  | s :: r => by simp [sdata, noListAll, st_noList s, sts_noList r]
end
/-! ### how the rows are built; last come first in heads and parts -/
structure BSt where
  rows : List (Str × List Smt)
  cur : Str
  parts : List (List Smt)
  heads : List Stp
def BSt.add (b : BSt) (x : Smt) : BSt := match b.parts with
  | [] => b
  | p :: ps => { b with parts := (p ++ [x]) :: ps }
def BSt.fin (b : BSt) : List (Str × List Smt) := match b.parts with
  | [p] => b.rows ++ [(b.cur, p)]
  | _ => b.rows
def BSt.close (b : BSt) : BSt := match b.heads, b.parts with
  | .whil t :: hs, p :: ps => BSt.add ⟨b.rows, b.cur, ps, hs⟩ (.wh t p)
  | .iff t :: hs, p :: ps => BSt.add ⟨b.rows, b.cur, ps, hs⟩ (.ife t p [])
  | .els :: .iff t :: hs, q :: p :: ps => BSt.add ⟨b.rows, b.cur, ps, hs⟩ (.ife t p q)
  | _, _ => b
def BSt.step (b : BSt) (s : Stp) : BSt := match s with
  | .proc n => ⟨b.fin, n, [[]], []⟩
  | .iff t => ⟨b.rows, b.cur, [] :: b.parts, .iff t :: b.heads⟩
  | .whil t => ⟨b.rows, b.cur, [] :: b.parts, .whil t :: b.heads⟩
  | .els => ⟨b.rows, b.cur, [] :: b.parts, .els :: b.heads⟩
  | .fin => b.close
  | s => b.add (.lf s)
def BSt.run (b : BSt) (ss : List Stp) : BSt := ss.foldl BSt.step b
def bst0 : BSt := ⟨[], Str.empty, [], []⟩
def rowsOf (ss : List Stp) : List (Str × List Smt) := (BSt.run bst0 ss).fin
def rowD (r : Str × List Smt) : PyData := .tuple [.str r.1, .tuple (sdata r.2)]
def rlines : List (Str × List Smt) → List Str
  | [] => []
  | r :: rs => (Stp.proc r.1).text :: (slines r.2 ++ rlines rs)
end Rx

set_option Elab.async false
set_option linter.all false
set_option maxRecDepth 100000
set_option maxHeartbeats 1000000
namespace Rx
open PySem PySem.Spec PyProof.Rows L2 SX
theorem tl_sp : TL.tl " " = [32] := by decide +kernel
theorem codS (l : List Nat) : cod (S l) = l := by simp [S]
theorem sp_split (z : Str) : (32 ∉ cod z ∧ (cod z).takeWhile (fun c => decide (c ≠ 32)) = cod z) ∨ ∃ a b, cod z = a ++ 32 :: b ∧ 32 ∉ a ∧ (cod z).takeWhile (fun c => decide (c ≠ 32)) = a := by
  by_cases h : 32 ∈ cod z
  · refine .inr ?_
    have : ∀ l : List Nat, 32 ∈ l → ∃ a b, l = a ++ 32 :: b ∧ 32 ∉ a ∧ l.takeWhile (fun c => decide (c ≠ 32)) = a := by
      intro l
      induction l with
      | nil => intro h; cases h
      | cons c r ih =>
        intro h
        by_cases e : c = 32
        · subst e
          exact ⟨[], r, rfl, by simp, by simp⟩
        · rcases List.mem_cons.mp h with h | h
          · exact absurd h.symm e
          · obtain ⟨a, b, h1, h2, h3⟩ := ih h
            refine ⟨c :: a, b, by rw [h1]; rfl, ?_, ?_⟩
            · intro h4
              rcases List.mem_cons.mp h4 with h4 | h4
              · exact e h4.symm
              · exact h2 h4
            · rw [List.takeWhile_cons, if_pos (by simpa using e), h3]
    exact this _ h
  · refine .inl ⟨h, ?_⟩
    have : ∀ l : List Nat, 32 ∉ l → l.takeWhile (fun c => decide (c ≠ 32)) = l := by
      intro l
      induction l with
      | nil => intro _; rfl
      | cons c r ih =>
        intro h
        rw [List.takeWhile_cons, if_pos (by simpa using fun e => h (by simp [e])), ih (fun x => h (by simp [x]))]
    exact this _ h
theorem sp_inj {a b a' b' : List Nat} (h : a ++ 32 :: b = a' ++ 32 :: b') (h1 : 32 ∉ a) (h2 : 32 ∉ a') : a = a' ∧ b = b' := by
  induction a generalizing a' with
  | nil =>
    cases a' with
    | nil => simpa using h
    | cons c r => simp only [List.nil_append, List.cons_append, List.cons.injEq] at h; exact absurd (by rw [← h.1]; simp) h2
  | cons c r ih =>
    cases a' with
    | nil => simp only [List.nil_append, List.cons_append, List.cons.injEq] at h; exact absurd (by rw [h.1]; simp) h1
    | cons c' r' =>
      simp only [List.cons_append, List.cons.injEq] at h
      obtain ⟨h3, h4⟩ := ih h.2 (fun h => h1 (by simp [h])) (fun h => h2 (by simp [h]))
      exact ⟨by rw [h.1, h3], h4⟩
theorem par_none {z : Str} (h : 32 ∉ cod z) : par z = (z, Str.empty, Str.empty) := TL.partition_none tl_sp h
theorem str_cod (z : Str) : S (cod z) = z := by simp [S]
theorem par_some {z : Str} {a b : List Nat} (h : cod z = a ++ 32 :: b) (ha : 32 ∉ a) : par z = (S a, (" " : Str), S b) := by
  have e : z = S a ++ " " ++ S b := by
    refine cod_inj ?_
    show cod z = cod (S a ++ " " ++ S b)
    rw [cat_cod, cat_cod, codS, codS, show cod " " = [32] by decide +kernel]
    exact h.trans (by simp)
  rw [e]
  exact TL.partition_app tl_sp (by show 32 ∉ cod (S a); rw [codS]; exact ha)
theorem par_cut {w : Str} {b : List Nat} (hw : 32 ∉ cod w) : par (S (cod w ++ 32 :: b)) = (w, (" " : Str), S b) := by
  rw [par_some (codS _) hw, str_cod]
theorem par_len (z : Str) : (par z).1.length ≤ z.length ∧ (par z).2.2.length ≤ z.length := by
  have l : ∀ x : Str, x.length = (cod x).length := fun x => by simp [Str.length]
  rcases sp_split z with ⟨h, _⟩ | ⟨a, b, h, ha, _⟩
  · rw [par_none h]
    exact ⟨Nat.le_refl _, by show Str.empty.length ≤ _; exact Nat.zero_le _⟩
  · rw [par_some h ha, l z, h, l, l, codS, codS]
    simp
    omega
end Rx

set_option Elab.async false
set_option linter.all false
set_option maxRecDepth 100000
set_option maxHeartbeats 4000000
namespace XE
open PySem PySem.Spec PyProof.Rows L2 Rx SX
abbrev sDraw : Stmt := topS 53
/-- the stream of numbers at s, its list at a, n draws made -/
def StreamAt (H : Hp) (s a : Addr) (n : Nat) : Prop := ∃ (ns : List Int) (big seed : Int), H s = some (.lst [.ref a, .int big, .int n, .int seed]) ∧ H a = some (.lst (ns.map V.int)) ∧ 0 ≤ seed ∧ seed < 2147483647
def Else2 (s a : Addr) (H H' : Hp) : Prop := ∀ b o, H b = some o → b ≠ s → b ≠ a → H' b = some o
/-- a number from 0 to below m, whichever -/
def spDraw : Sp := fun vs H Q _ => ∃ (s a : Addr) (n : Nat) (m : Int), vs = [.ref s, .int m] ∧ 0 < m ∧ m < 1000000 ∧ StreamAt H s a n ∧ n < 1000000 ∧
  ∀ (k : Int) (H' : Hp), 0 ≤ k → k < m → StreamAt H' s a (n + 1) → Else2 s a H H' → Q (.int k) H'
section
variable {P : Program} {w : World} {K : PySem.W.Frag} {mg : Str → Option Value} {base : Heap}
theorem scD : FnScope ["_law_stream", "_law_many", "_law_digit", "_law_mixed"] ["_law_stream", "_law_many"] (defScope sDraw) := ⟨rfl, rfl, rfl, by decide +kernel, rfl, by decide +kernel, by decide +kernel⟩
theorem ixs {xs : List V} (j : Nat) {v : V} (h : xs[j]? = some v) : atI xs (j : Int) = some v := atI_nat h
theorem dpInts (H : Hp) : ∀ ns : List Int, DpAll K H (ns.map V.int) (ns.map PyData.int)
  | [] => .nil
  | n :: ns => .cons (.int n) (dpInts H ns)
theorem shInts (ns : List Int) : SeqAt.shaped (.list (ns.map PyData.int)) = true := by
  have h1 : ∀ ns : List Int, PyData.canLayAll0 (ns.map PyData.int) = true ∧ PyData.depthAll (ns.map PyData.int) = 0 := by
    intro ns
    induction ns with
    | nil => simp [PyData.canLayAll0, PyData.depthAll]
    | cons n ns ih => simp [PyData.canLayAll0, PyData.depthAll, PyData.canLay0, PyData.depth, ih.1, ih.2]
  simp [SeqAt.shaped, PyData.canLay0, PyData.depth, (h1 ns).1, (h1 ns).2]
theorem ok_draw {f : Addr} {fd : FuncData} (F : Fun K "_law_draw" "_law_draw" sDraw f fd) : FnOk P w K mg base CX0 1 f fd ["_law_stream", "_law_many"] spDraw := by
  refine F.ok scD (fun vs H Q E h => ?_) (fun cdv A outer s H vs Q E hr h => ?_)
  · obtain ⟨s, a, n, m, rfl, _⟩ := h
    rfl
  · obtain ⟨st, a, n, m, rfl, m0, m1, ⟨ns, big, seed, hs, ha, s0, s1⟩, hn, k⟩ := h
    refine ⟨_, pss_cons (ps_asg (pe_op op_add (pe_ix ix_list (pv 0) pe_int (fun _ _ => rfl)) pe_int) (pg_sub (pv 0) pe_int set_list))
      (C8.pss_cut (ps_if (PW.pt (pw_and (pt_cmpR op_eq (pe_ix ix_list (pv 0) pe_int (fun _ _ => rfl)) pe_int (nomark _)) (pw_and1 (pt_cmpR (op_neD hr.units) (pe_ix ix_list (pv 0) pe_int (fun _ _ => rfl)) (pe_lst pa_nil) (nomark _)))))
        (pss_cons (ps_asg (pe_bm PySem.F.plainAttrs_list PySem.F.slot_list_pop PySem.F.type_list_pop mt_popAt (pe_ix ix_list (pv 0) pe_int (fun _ _ => rfl)) (pa_cons pe_int pa_nil)) (pg_sub (pv 0) pe_int set_list))
        (pss_one (ps_if (pt_cmpR op_lt (pe_ix ix_list (pv 0) pe_int (fun _ _ => rfl)) (pe_op op_pow pe_int pe_int) (nomark _))
          (pss_cons (ps_asg (pe_op op_mod (pe_op op_add (pe_op op_add (pe_op op_mul (pe_ix ix_list (pv 0) pe_int (fun _ _ => rfl)) pe_int) (pe_ix ix_list (pv 0) pe_int (fun _ _ => rfl))) pe_int) pe_int) (pg_sub (pv 0) pe_int set_list))
          (pss_one (ps_asg pe_int (pg_sub (pv 0) pe_int set_list)))) pss_nil))) pss_nil)
      (pss_cons (ps_if (pt_cmpR op_gt (pe_ix ix_list (pv 0) pe_int (fun _ _ => rfl)) pe_int (nomark _))
        (pss_cons (ps_set (i := 2) scD.nd rfl (.inl rfl) (pe_op op_mod (pe_ix ix_list (pv 0) pe_int (fun _ _ => rfl)) (pv 1)))
        (pss_cons (ps_asg (pe_op op_fdiv (pe_ix ix_list (pv 0) pe_int (fun _ _ => rfl)) (pv 1)) (pg_sub (pv 0) pe_int set_list))
        (pss_one (ps_ret (pv 2))))) pss_nil)
      (pss_cons (ps_set (i := 3) scD.nd rfl (.inl rfl) (pe_op op_mod (pe_op op_pow (pe_op op_add (pe_op op_add (pe_ix ix_list (pv 0) pe_int (fun _ _ => rfl)) (pe_op op_mul pe_int (pe_ix ix_list (pv 0) pe_int (fun _ _ => rfl)))) pe_int) pe_int) pe_int))
      (pss_one (ps_ret (pe_op op_mod (pe_op op_mod (pe_op op_pow (pe_op op_add (pe_op op_add (pe_op op_mul (pv 3) pe_int) (pe_op op_mul (pe_op op_mul pe_int (pe_ix ix_list (pv 0) pe_int (fun _ _ => rfl))) (pe_ix ix_list (pv 0) pe_int (fun _ _ => rfl)))) pe_int) pe_int) pe_int) (pv 1))))))), ?_⟩
    have nsa : st ≠ a := fun z => by
      rw [z, ha] at hs
      have := Option.some.inj hs
      injection this with this
      cases ns with
      | nil => simp at this
      | cons x xs => simp at this
    refine ⟨_, rfl, st, _, _, _, rfl, rfl, SqL.of hs, ixs 2 rfl, _, _, rfl, rfl, _, rfl, st, _, _, 2, rfl, rfl, hs, rfl, ?_⟩
    refine ⟨fun σ H' => ∃ (ns : List Int) (big seed : Int), σ = [some (.ref st), some (.int m), none, none] ∧ H' st = some (.lst [.ref a, .int big, .int (n + 1 : Nat), .int seed]) ∧ H' a = some (.lst (ns.map V.int)) ∧ 0 ≤ seed ∧ seed < 2147483647 ∧ Else2 st a H H', ?_, ?_⟩
    · have el0 : ∀ o, Else2 st a H (upd H st o) := fun o b u e n1 n2 => by rw [upd_ne n1]; exact e
      have ha1 : ∀ o, upd H st o a = some (.lst (ns.map V.int)) := fun o => by rw [upd_ne nsa.symm]; exact ha
      refine ⟨_, rfl, st, _, _, _, rfl, rfl, SqL.of upd_same, ixs 1 rfl, rfl, _, rfl, ite2 (fun hb => ?_) (fun hb => ?_)⟩
      · refine ⟨_, rfl, st, _, _, _, rfl, rfl, SqL.of upd_same, ixs 0 rfl, (by show 0 ≤ sizeLine; decide), fun e he => ?_⟩
        have nae : a ≠ e := ne_of_none (ha1 _) he
        have nse : st ≠ e := ne_of_none upd_same he
        refine ⟨.list (ns.map .int), .list [], .lst (SqL.of (by rw [upd_ne nae]; exact ha1 _)) (dpInts _ ns), .lst (SqL.of upd_same) .nil, shInts ns, by decide, _, rfl, ?_⟩
        have el1 : ∀ o, Else2 st a H (upd (upd H st o) e (.lst [])) := fun o b u q n1 n2 => by
          by_cases hbe : b = e
          · subst hbe
            rw [upd_ne n1] at he
            rw [q] at he
            cases he
          · rw [upd_ne hbe, upd_ne n1]; exact q
        cases ns with
        | nil =>
          refine iteFc (by simp [PyData.eqv, PyData.eqvAll]) ?_
          exact ⟨[], big, seed, rfl, (by rw [upd_ne nse, upd_same]; rfl), (by rw [upd_ne nae]; exact ha1 _), s0, s1, el1 _⟩
        | cons x xs =>
          refine iteTc (by simp [PyData.eqv, PyData.eqvAll]) ?_
          have qS : ∀ o, upd (upd H st o) e (.lst []) st = some o := fun o => by rw [upd_ne nse, upd_same]
          have qA : ∀ o, upd (upd H st o) e (.lst []) a = some (.lst ((x :: xs).map V.int)) := fun o => by rw [upd_ne nae]; exact ha1 _
          have ix0 : seqIndex? 0 (List.map V.int (x :: xs)).length = some 0 := (ixN_seq (by unfold ixN; simp)).1
          refine ⟨_, rfl, st, _, _, _, rfl, rfl, SqL.of (qS _), ixs 0 rfl, .inl ⟨rfl, _, SqL.of (qA _)⟩, a, _, 0, 0, _, rfl, rfl, qA _, by decide, by decide, ix0, rfl, ?_⟩
          have rS : ∀ o u, upd (upd (upd H st o) e (.lst [])) a u st = some o := fun o u => by rw [upd_ne nsa]; exact qS o
          refine ⟨_, rfl, st, _, _, 1, rfl, rfl, rS _ _, rfl, ?_⟩
          have el2 : ∀ o u z, Else2 st a H (upd (upd (upd (upd H st o) e (.lst [])) a u) st z) := fun o u z b v q n1 n2 => by
            rw [upd_ne n1, upd_ne n2]; exact el1 _ b v q n1 n2
          have tA : ∀ o u z, upd (upd (upd (upd H st o) e (.lst [])) a u) st z a = some u := fun o u z => by rw [upd_ne nsa.symm, upd_same]
          refine ⟨_, rfl, st, _, _, _, rfl, rfl, SqL.of upd_same, ixs 1 rfl, _, _, rfl, rfl, ⟨by decide, by decide, by decide⟩, _, _, rfl, rfl, _, rfl, ite2 (fun hb => ?_) (fun hb => ?_)⟩
          · refine ⟨_, rfl, st, _, _, _, rfl, rfl, SqL.of upd_same, ixs 3 rfl, _, _, rfl, rfl, .inl ⟨by omega, by omega⟩, _, rfl, st, _, _, _, rfl, rfl, SqL.of upd_same, ixs 1 rfl, _, _, rfl, rfl, _, _, rfl, rfl, _, _, rfl, rfl, (by show (0 : Int) < 2147483647; decide), _, rfl, st, _, _, 3, rfl, rfl, upd_same, rfl, ?_⟩
            refine ⟨_, rfl, st, _, _, 1, rfl, rfl, upd_same, rfl, ?_⟩
            rw [upd_upd, upd_upd]
            exact ⟨xs, 0, _, rfl, upd_same, tA _ _ _, Int.emod_nonneg _ (by decide), Int.emod_lt_of_pos _ (by decide), el2 _ _ _⟩
          · exact ⟨xs, x, seed, rfl, upd_same, tA _ _ _, s0, s1, el2 _ _ _⟩
      · refine iteF ⟨ns, big, seed, rfl, upd_same, ha1 _, s0, s1, el0 _⟩
    · rintro σ' H' ⟨ns, big, seed, rfl, hs, ha, s0, s1, el⟩
      have hn' : ((n + 1 : Nat) : Int) ≤ 1000000 := by omega
      have hn0 : (0 : Int) ≤ ((n + 1 : Nat) : Int) := by omega
      generalize hN : ((n + 1 : Nat) : Int) = N at hs hn' hn0
      have nsa' : st ≠ a := nsa
      refine ⟨_, rfl, st, _, _, _, rfl, rfl, SqL.of hs, ixs 1 rfl, _, _, rfl, rfl, _, rfl, ite2 (fun hb => ?_) (fun hb => ?_)⟩
      · refine ⟨_, rfl, st, _, _, _, rfl, rfl, SqL.of hs, ixs 1 rfl, _, rfl, _, _, rfl, rfl, m0, ?_⟩
        refine ⟨_, rfl, st, _, _, _, rfl, rfl, SqL.of hs, ixs 1 rfl, _, rfl, _, _, rfl, rfl, ⟨m0, (by omega)⟩, _, rfl, st, _, _, 1, rfl, rfl, hs, rfl, ?_⟩
        refine ⟨_, rfl, k _ _ (Int.emod_nonneg _ (by omega)) (Int.emod_lt_of_pos _ m0) ⟨ns, _, seed, (by rw [upd_same, ← hN]; rfl), (by rw [upd_ne nsa'.symm]; exact ha), s0, s1⟩ fun b o e n1 n2 => ?_⟩
        rw [upd_ne n1]
        exact el b o e n1 n2
      · have b1 : (0 : Int) ≤ 104729 * N ∧ 104729 * N ≤ 104729000000 := by omega
        refine ⟨_, rfl, st, _, _, _, rfl, rfl, SqL.of hs, ixs 3 rfl, _, rfl, st, _, _, _, rfl, rfl, SqL.of hs, ixs 2 rfl, _, _, rfl, rfl, .inl ⟨by decide, by decide⟩, _, _, rfl, rfl, _, _, rfl, rfl, _, _, rfl, rfl, ⟨by decide, by decide, by omega⟩, _, _, rfl, rfl, (by show (0 : Int) < 2147483629; decide), ?_⟩
        generalize hM : ((seed + 104729 * N + 17) ^ (5 : Int).toNat) % 2147483629 = M
        have c0 : 0 ≤ M := by rw [← hM]; exact Int.emod_nonneg _ (by decide)
        have c1 : M < 2147483629 := by rw [← hM]; exact Int.emod_lt_of_pos _ (by decide)
        have d0 : (0 : Int) ≤ 40503 * N ∧ 40503 * N ≤ 40503000000 := by omega
        have d1 : (0 : Int) ≤ 40503 * N * N := Int.mul_nonneg d0.1 hn0
        have d2 : 40503 * N * N ≤ 40503000000 * 1000000 := Int.mul_le_mul d0.2 hn' hn0 (by decide)
        refine ⟨_, rfl, _, _, rfl, rfl, .inl ⟨by omega, by omega⟩, _, rfl, st, _, _, _, rfl, rfl, SqL.of hs, ixs 2 rfl, _, _, rfl, rfl, .inl ⟨by decide, by decide⟩, _, rfl, st, _, _, _, rfl, rfl, SqL.of hs, ixs 2 rfl, _, _, rfl, rfl, .inl ⟨by omega, by omega⟩, _, _, rfl, rfl, _, _, rfl, rfl, _, _, rfl, rfl, ⟨by decide, by decide, by omega⟩, _, _, rfl, rfl, (by show (0 : Int) < 1000000007; decide), _, rfl, _, _, rfl, rfl, m0, ?_⟩
        exact k _ _ (Int.emod_nonneg _ (by omega)) (Int.emod_lt_of_pos _ m0) ⟨ns, big, seed, (by rw [hs, ← hN]), ha, s0, s1⟩ el
theorem fn_none {f : Addr} {fd : FuncData} {ps : List Str} {k : Nat} : FnOk P w K mg base CX0 k f fd ps (fun _ _ _ _ => False) := ⟨fun _ _ _ _ h => h.elim, fun _ _ _ _ _ _ _ _ _ _ _ _ _ h => h.elim⟩
end
def Live (H H' : Hp) : Prop := ∀ b, H b ≠ none → H' b ≠ none
theorem Live.refl (H : Hp) : Live H H := fun _ h => h
theorem Live.trans {H H1 H2 : Hp} (x : Live H H1) (y : Live H1 H2) : Live H H2 := fun b h => y b (x b h)
theorem Live.of_same {H H1 : Hp} (x : Same H H1) : Live H H1 := fun b h => by
  cases q : H b with
  | none => exact absurd q h
  | some o => rw [x b o q]; simp
theorem Live.upd (H : Hp) (a : Addr) (o : HO) : Live H (upd H a o) := fun b h => by
  by_cases e : b = a
  · rw [e, upd_same]; simp
  · rw [upd_ne e]; exact h
theorem Live.none {H H1 : Hp} (x : Live H H1) {b : Addr} (h : H1 b = Option.none) : H b = Option.none := Classical.byContradiction fun z => x b z h
theorem Else2.refl {s a : Addr} (H : Hp) : Else2 s a H H := fun _ _ e _ _ => e
theorem Else2.trans {s a : Addr} {H H1 H2 : Hp} (x : Else2 s a H H1) (y : Else2 s a H1 H2) : Else2 s a H H2 := fun b o e n1 n2 => y b o (x b o e n1 n2) n1 n2
theorem Else2.of_same {s a : Addr} {H H1 : Hp} (x : Same H H1) : Else2 s a H H1 := fun b o e _ _ => x b o e
theorem StreamAt.ne {H : Hp} {s a : Addr} {n : Nat} (h : StreamAt H s a n) : s ≠ a := fun z => by
  obtain ⟨ns, big, seed, h1, h2, _⟩ := h
  rw [z, h2] at h1
  have := Option.some.inj h1
  injection this with this
  cases ns <;> simp at this
theorem StreamAt.same {H H' : Hp} {s a : Addr} {n : Nat} (h : StreamAt H s a n) (e : Same H H') : StreamAt H' s a n := by
  obtain ⟨ns, big, seed, h1, h2, h3⟩ := h
  exact ⟨ns, big, seed, e _ _ h1, e _ _ h2, h3⟩
theorem StreamAt.live {H H' : Hp} {s a : Addr} {n : Nat} (h : StreamAt H' s a n) (e : Else2 s a H H') : Live H H' := fun b hb => by
  obtain ⟨ns, big, seed, h1, h2, _⟩ := h
  by_cases e1 : b = s
  · rw [e1, h1]; simp
  by_cases e2 : b = a
  · rw [e2, h2]; simp
  cases q : H b with
  | none => exact absurd q hb
  | some o => rw [e b o q e1 e2]; simp
theorem StreamAt.tr {H : Hp} {s a : Addr} {n : Nat} (h : StreamAt H s a n) : H s ≠ none ∧ H a ≠ none := by
  obtain ⟨ns, big, seed, h1, h2, _⟩ := h
  rw [h1, h2]
  simp
theorem StreamAt.upd {H : Hp} {s a b : Addr} {n : Nat} {o : HO} (h : StreamAt H s a n) (h1 : b ≠ s) (h2 : b ≠ a) : StreamAt (upd H b o) s a n := by
  obtain ⟨ns, big, seed, e1, e2, e3⟩ := h
  exact ⟨ns, big, seed, by rw [upd_ne h1.symm]; exact e1, by rw [upd_ne h2.symm]; exact e2, e3⟩
end XE

set_option Elab.async false
set_option linter.all false
set_option maxRecDepth 100000
set_option maxHeartbeats 4000000
namespace XE
open PySem PySem.Spec PyProof.Rows L2 Rx SX
abbrev sRes : Stmt := topS 54
structure TxtL (mg : Str → Option Value) : Prop where
  range : mg "range" = none
  max_ : mg "max" = none
  repr_ : mg "repr" = none
  list_ : mg "list" = none
theorem atI_lt {xs : List V} {k : Int} (h0 : 0 ≤ k) (h1 : k < xs.length) : ∃ v, atI xs k = some v ∧ v ∈ xs := by
  obtain ⟨j, rfl⟩ := Int.eq_ofNat_of_zero_le h0
  have hj : j < xs.length := by omega
  exact ⟨xs[j], atI_nat (List.getElem?_eq_getElem hj), List.getElem_mem hj⟩
theorem let_at {k : Int} (h0 : 0 ≤ k) (h1 : k < 26) : ∃ c, atI lettersS.cps.toList k = some c ∧ isLet c = true := by
  obtain ⟨j, rfl⟩ := Int.eq_ofNat_of_zero_le h0
  have e : lettersS.cps.toList = List.range' 97 26 := by decide +kernel
  have hj : j < (List.range' 97 26).length := by simp; omega
  rw [e]
  refine ⟨(List.range' 97 26)[j], atI_nat (List.getElem?_eq_getElem hj), ?_⟩
  simp [isLet]
  omega
/-! _law_reserved -/
def spRes : Sp := fun vs H Q _ => vs = [] ∧ ∀ p, H p = none → Q (.ref p) (upd H p (.lst (reservedL.map V.str)))
section
variable {P : Program} {w : World} {K : PySem.W.Frag} {mg : Str → Option Value} {base : Heap}
theorem scRs : FnScope [] [] (defScope sRes) := ⟨rfl, rfl, rfl, by decide +kernel, rfl, by decide +kernel, by decide +kernel⟩
theorem ok_res {f : Addr} {fd : FuncData} (F : Fun K "_law_reserved" "_law_reserved" sRes f fd) : FnOk P w K mg base CX0 1 f fd [] spRes := by
  refine F.ok scRs (fun vs H Q E h => ?_) (fun cdv A outer s H vs Q E hr h => ?_)
  · obtain ⟨rfl, _⟩ := h
    rfl
  · obtain ⟨rfl, k⟩ := h
    refine ⟨_, pss_one (ps_ret (pe_split pe_str pe_str)), ?_⟩
    refine ⟨⟨_, rfl⟩, _, _, rfl, rfl, by decide +kernel, by decide +kernel, fun p hp => ?_⟩
    have e : Txt.split "and checkpoint else end if input mod not or process receive send set take while" " " = reservedL := by decide +kernel
    rw [e]
    exact k p hp
end
end XE

set_option Elab.async false
set_option linter.all false
set_option maxRecDepth 100000
set_option maxHeartbeats 4000000
namespace XE
open PySem PySem.Spec PyProof.Rows L2 Rx SX
abbrev sLawKey : Stmt := topS 55
def self18 : List Str := selfK.map Sy.str
theorem key18_in (z : Str) : self18.contains z = (key18 z).isSome := by
  cases e : key18 z with
  | some k =>
    obtain ⟨h1, h2⟩ := key18_some e
    have : z ∈ self18 := List.mem_map.mpr ⟨k, h1, h2⟩
    rw [List.contains_iff_mem.mpr this]
    rfl
  | none =>
    cases e2 : self18.contains z with
    | false => rfl
    | true =>
      obtain ⟨k, h1, h2⟩ := List.mem_map.mp (List.contains_iff_mem.mp e2)
      exact absurd h2 (key18_none e k h1)
theorem sgn0 (c : Nat) {n : Nat} {x : Str} (hx : cod x = [n]) : decide (V.str ⟨#[c]⟩ = V.str x) = decide (c = n) := by
  rw [decide_eq_decide]
  constructor
  · intro h
    injection h with h
    rw [← h] at hx
    have hx2 : [c] = [n] := hx
    simpa using hx2
  · intro h
    subst h
    have : x = ⟨#[c]⟩ := cod_inj (hx.trans rfl)
    rw [this]
def spKey : Sp := fun vs H Q _ => ∃ z : Str, vs = [.str z] ∧ z.length ≤ 100000 ∧ cod z ≠ [] ∧ ∀ H', Same H H' → Q (.str (keyW (cod z)).str) H'
section
variable {P : Program} {w : World} {K : PySem.W.Frag} {mg : Str → Option Value} {base : Heap}
theorem scKy : FnScope ["_law_word", "_law_letters", "_law_sign"] ["_law_word"] (defScope sLawKey) := ⟨rfl, rfl, rfl, by decide +kernel, rfl, by decide +kernel, by decide +kernel⟩
theorem ok_lawKey {f fR : Addr} {fd fdR : FuncData} (F : Fun K "_law_key" "_law_key" sLawKey f fd) (T : TxtX K mg) (CR : Cal P w K mg base 1 "_law_reserved" fR fdR [] spRes) : FnOk P w K mg base CX0 2 f fd ["_law_word"] spKey := by
  refine F.ok scKy (fun vs H Q E h => ?_) (fun cdv A outer s H vs Q E hr h => ?_)
  · obtain ⟨z, rfl, _⟩ := h
    rfl
  · obtain ⟨z, rfl, hz, hne, k⟩ := h
    have hz' : z.length ≤ sizeLine := Nat.le_trans hz (by decide)
    have hlen := len_tl z
    refine ⟨_, pss_cons (ps_if (pt_cmpR op_in_seq (pv 0) (pe_split pe_str pe_str) (by rfl)) (pss_one (ps_ret (pv 0))) pss_nil)
      (pss_cons (ps_if (pt_val (pe_callB (cr_all rfl) (by rfl) T.all_ (by decide +kernel) (pa_cons (pe_lc (own := [("_law_sign", 2)]) (g := gName 2) (tt := tYes) rfl scKy.nd (pi_str (pv 0))
          (blkOk_by (own := [("_law_sign", 2)]) (N := ["_law_word", "_law_letters", "_law_sign"]) (sc := defScope sLawKey) (by decide +kernel)) (fun _ _ _ _ _ => pg_name (i := 2) scKy.nd rfl (Or.inl rfl)) (fun _ _ _ _ _ => pts_nil)
          (fun _ _ _ _ _ => pe_cmpR op_in_sign (pv 2) pe_str (by rfl))) pa_nil)))
        (pss_one (ps_ret (pe_ifExp (PW.pt (pw_and (pt_cmpR op_lt (pe_callB call_len_str (by rfl) T.len PySem.boot_len (pa_cons (pv 0) pa_nil)) pe_int (nomark _)) (pw_and1 (PW.pt (pw_or (pt_cmpR op_eq (pv 0) pe_str (nomark _)) (pw_or1 (pt_cmpR op_ne (pe_ix ix_str (pv 0) pe_int (fun _ _ => rfl)) pe_str (nomark _)))))))) pe_str pe_str))) pss_nil)
      (pss_cons (ps_set (i := 1) scKy.nd rfl (.inl rfl) (pe_callB (cr_all rfl) (by rfl) T.all_ (by decide +kernel) (pa_cons (pe_lc (own := [("_law_sign", 2)]) (g := gName 2) (tt := tYes) rfl scKy.nd (pi_str (pv 0))
          (blkOk_by (own := [("_law_sign", 2)]) (N := ["_law_word", "_law_letters", "_law_sign"]) (sc := defScope sLawKey) (by decide +kernel)) (fun _ _ _ _ _ => pg_name (i := 2) scKy.nd rfl (Or.inl rfl)) (fun _ _ _ _ _ => pts_nil)
          (fun _ _ _ _ _ => pe_cmpR op_in_sign (pv 2) pe_str (by rfl))) pa_nil)))
      (pss_one (ps_ret (pe_ifExp (PW.pt (pw_and (pt_val (pv 1)) (pw_and (pt_cmpR op_lt (pe_callB call_len_str (by rfl) T.len PySem.boot_len (pa_cons (pv 0) pa_nil)) pe_int (nomark _)) (pw_and1 (pt_cmpR op_notIn_seq (pv 0) (pe_call0 CR.ok hr rfl CR.mg CR.kp CR.bi .nil pass0) (by rfl)))))) pe_str pe_str))))), ?_⟩
    refine ⟨_, rfl, ⟨_, rfl⟩, _, _, rfl, rfl, by decide +kernel, by decide +kernel, fun q hq => ⟨q, _, rfl, .inl (SqL.of upd_same), rfl, flat_strs _, _, rfl, ?_⟩⟩
    have espl : Txt.split "and mod not or + - * // ( ) [ ] = != < <= > >=" " " = self18 := by decide +kernel
    rw [espl]
    show if inV (.str z) (self18.map V.str) = true then _ else _
    rw [inV_strs, key18_in]
    have kw : keyW (cod z) = match key18 z with
      | some k => k
      | none => if (cod z).all isDig = true then (if (cod z).length < 31 ∧ (cod z = [48] ∨ (cod z).head? ≠ some 48) then .integer else .odd)
        else if (cod z).all isLet = true ∧ (cod z).length < 9 ∧ reservedL.contains z = false then .name else .odd := by unfold keyW; rw [S_tl] <;> rfl
    cases hk : key18 z with
    | some ky =>
      rw [hk] at kw
      refine iteTc rfl ⟨_, rfl, ?_⟩
      have := k _ (same_new (o := .lst (self18.map V.str)) hq)
      rw [kw] at this
      dsimp only at this
      rw [(key18_some hk).2] at this
      exact this
    | none =>
      rw [hk] at kw
      dsimp only at kw
      refine iteFc rfl ?_
      have sq : Same H (upd H q (.lst (self18.map V.str))) := same_new hq
      generalize upd H q (.lst (self18.map V.str)) = H1 at sq
      refine ⟨_, rfl, z, rfl, fun D hD => ?_⟩
      refine lc_it walk_str (fun i Hx => Hx D = some (.lst (((z.cps.toList.take i).map isDig).map V.bl)) ∧ Same H1 Hx) ⟨upd_same, same_new hD⟩ (fun _ _ _ _ => trivial) ?_ ?_
      · rintro i x Hx H' hi ⟨h1, h2⟩ ⟨rfl, c, hc, rfl⟩
        refine ⟨rfl, ?_⟩
        dsimp only [tYes]
        rw [if_pos rfl]
        refine ⟨_, rfl, c, digitsS, rfl, rfl, _, h1, ?_, ?_, same_upd h2 hD⟩
        · rw [List.length_map, List.length_map, List.length_take]
          exact Nat.lt_of_le_of_lt (Nat.min_le_right _ _) (Nat.lt_of_le_of_lt (by rw [len_tl]; exact hz) (by decide))
        · rw [upd_same, dig_mem]
          have hc' : z.cps.toList[i]? = some c := by rw [Array.getElem?_toList]; exact hc
          rw [List.take_add_one, hc', List.map_append, List.map_append]
          rfl
      rintro Hx ⟨h1, h2⟩
      have h1' : Hx D = some (.lst (((cod z).map isDig).map V.bl)) := by rw [List.take_of_length_le (by simp)] at h1; exact h1
      have ha : ((cod z).map isDig).all id = (cod z).all isDig := by rw [List.all_map]; rfl
      have k1 : ∀ H', Same Hx H' → Q (.str (keyW (cod z)).str) H' := fun H' e => k H' ((sq.trans h2).trans e)
      refine ⟨D, _, rfl, SqL.of h1', _, rfl, ?_⟩
      clear h1 h2 h1'
      cases hd : (cod z).all isDig with
      | true =>
        rw [hd, if_pos rfl] at kw
        obtain ⟨c0, r, ez⟩ := List.exists_cons_of_ne_nil hne
        have i0 : atI (cod z) 0 = some c0 := by rw [ez]; exact atI_nat (j := 0) rfl
        refine iteTc (ha.trans hd) ⟨_, rfl, z, rfl, hz', _, _, rfl, rfl, _, rfl, ite2 (fun e1 => ?_) (fun e1 => ?_)⟩
        · have e1' : (cod z).length < 31 := by have := of_decide_eq_true e1; rw [hlen]; omega
          refine ⟨_, rfl, rfl, _, rfl, ite2 (fun e2 => ?_) (fun e2 => ?_)⟩
          · have e2' := of_decide_eq_true e2
            injection e2' with e2'
            have e3 : cod z = [48] := by rw [e2']; decide +kernel
            have := k1 _ (Same.refl _)
            rw [kw, if_pos ⟨e1', .inl e3⟩] at this
            exact iteTc rfl this
          · have e3 : cod z ≠ [48] := fun q => e2 (decide_eq_true (by rw [cod_inj (s := z) (t := "0") (q.trans (by decide +kernel))]))
            refine ⟨_, rfl, z, 0, c0, rfl, rfl, hz', i0, rfl, _, rfl, ?_⟩
            have e48 : cod "0" = [48] := by decide +kernel
            have eh : (cod z).head? = some c0 := by rw [ez]; rfl
            have es : (decide (V.str ⟨#[c0]⟩ = V.str "0")) = decide (c0 = 48) := sgn0 c0 e48
            rw [es]
            by_cases hc : c0 = 48
            · refine iteFc (by simp [hc]) ?_
              have := k1 _ (Same.refl _)
              rw [kw, if_neg (by rintro ⟨_, q | q⟩; exact e3 q; exact q (by rw [eh, hc]))] at this
              exact this
            · refine iteTc (by simp [hc]) ?_
              have := k1 _ (Same.refl _)
              rw [kw, if_pos ⟨e1', .inr (by rw [eh]; intro q; injection q with q; exact hc q)⟩] at this
              exact this
        · have e1' : ¬ (cod z).length < 31 := fun q => e1 (decide_eq_true (by rw [hlen] at q; omega))
          have := k1 _ (Same.refl _)
          rw [kw, if_neg (fun q => e1' q.1)] at this
          exact iteFc rfl this
      | false =>
        rw [hd, if_neg (by decide)] at kw
        refine iteFc (ha.trans hd) ?_
        refine ⟨_, rfl, z, rfl, fun D2 hD2 => ?_⟩
        refine lc_it walk_str (fun i Hy => Hy D2 = some (.lst (((z.cps.toList.take i).map isLet).map V.bl)) ∧ Same Hx Hy) ⟨upd_same, same_new hD2⟩ (fun _ _ _ _ => trivial) ?_ ?_
        · rintro i x Hy H' hi ⟨h1, h2⟩ ⟨rfl, c, hc, rfl⟩
          refine ⟨rfl, ?_⟩
          dsimp only [tYes]
          rw [if_pos rfl]
          refine ⟨_, rfl, c, lettersS, rfl, rfl, _, h1, ?_, ?_, same_upd h2 hD2⟩
          · rw [List.length_map, List.length_map, List.length_take]
            exact Nat.lt_of_le_of_lt (Nat.min_le_right _ _) (Nat.lt_of_le_of_lt (by rw [len_tl]; exact hz) (by decide))
          · rw [upd_same, let_mem]
            have hc' : z.cps.toList[i]? = some c := by rw [Array.getElem?_toList]; exact hc
            rw [List.take_add_one, hc', List.map_append, List.map_append]
            rfl
        rintro Hy ⟨h1, h2⟩
        have h1' : Hy D2 = some (.lst (((cod z).map isLet).map V.bl)) := by rw [List.take_of_length_le (by simp)] at h1; exact h1
        have hb : ((cod z).map isLet).all id = (cod z).all isLet := by rw [List.all_map]; rfl
        have k2 : ∀ H', Same Hy H' → Q (.str (keyW (cod z)).str) H' := fun H' e => k1 H' (h2.trans e)
        refine ⟨D2, _, rfl, SqL.of h1', _, rfl, _, rfl, ?_⟩
        clear h1 h2 h1'
        cases hl : (cod z).all isLet with
        | false =>
          have := k2 _ (Same.refl _)
          rw [kw, if_neg (by rw [hl]; rintro ⟨q, _⟩; cases q)] at this
          exact iteFc (hb.trans hl) (iteFc rfl this)
        | true =>
          refine iteTc (hb.trans hl) ⟨_, rfl, z, rfl, hz', _, _, rfl, rfl, _, rfl, ite2 (fun e1 => ?_) (fun e1 => ?_)⟩
          · have e1' : (cod z).length < 9 := by have := of_decide_eq_true e1; rw [hlen]; omega
            refine ⟨_, rfl, rfl, fun p hp => ⟨p, _, rfl, .inl (SqL.of upd_same), rfl, flat_strs _, _, rfl, ?_⟩⟩
            show if (!inV (.str z) (reservedL.map V.str)) = true then _ else _
            rw [inV_strs]
            have := k2 _ (same_new (o := .lst (reservedL.map V.str)) hp)
            cases hres : reservedL.contains z with
            | true =>
              rw [kw, if_neg (by rw [hres]; rintro ⟨_, _, q⟩; cases q)] at this
              exact iteFc rfl this
            | false =>
              rw [kw, if_pos ⟨hl, e1', hres⟩] at this
              exact iteTc rfl this
          · have e1' : ¬ (cod z).length < 9 := fun q => e1 (decide_eq_true (by rw [hlen] at q; omega))
            have := k2 _ (Same.refl _)
            rw [kw, if_neg (fun q => e1' q.2.1)] at this
            exact iteFc rfl this
end
end XE

set_option Elab.async false
set_option linter.all false
set_option maxRecDepth 100000
set_option maxHeartbeats 4000000
namespace XE
open PySem PySem.Spec PyProof.Rows L2 Rx SX
/-- a row of keys with their places, each a tuple -/
def KeyL (H : Hp) : List V → List (Sy × Nat) → Prop
  | [], [] => True
  | v :: vs, x :: xs => (∃ t, v = .ref t ∧ H t = some (.tup [.str x.1.str, .int (x.2 : Nat)])) ∧ KeyL H vs xs
  | _, _ => False
theorem KeyL.keep {H H' : Hp} (k : ∀ a xs, H a = some (.tup xs) → H' a = some (.tup xs)) : ∀ {vs : List V} {ts : List (Sy × Nat)}, KeyL H vs ts → KeyL H' vs ts
  | [], [], _ => trivial
  | _ :: _, _ :: _, ⟨⟨t, e, h⟩, r⟩ => ⟨⟨t, e, k _ _ h⟩, KeyL.keep k r⟩
  | [], _ :: _, h => h.elim
  | _ :: _, [], h => h.elim
theorem KeyL.snoc {H : Hp} {t : Addr} {x : Sy × Nat} (hx : H t = some (.tup [.str x.1.str, .int (x.2 : Nat)])) : ∀ {vs : List V} {ts : List (Sy × Nat)}, KeyL H vs ts → KeyL H (vs ++ [.ref t]) (ts ++ [x])
  | [], [], _ => ⟨⟨t, rfl, hx⟩, trivial⟩
  | _ :: _, _ :: _, ⟨h, r⟩ => ⟨h, KeyL.snoc hx r⟩
  | [], _ :: _, h => h.elim
  | _ :: _, [], h => h.elim
theorem KeyL.same {H H' : Hp} (e : Same H H') {vs : List V} {ts : List (Sy × Nat)} (h : KeyL H vs ts) : KeyL H' vs ts := h.keep fun a xs => e a _
theorem KeyL.len {H : Hp} : ∀ {vs : List V} {ts : List (Sy × Nat)}, KeyL H vs ts → vs.length = ts.length
  | [], [], _ => rfl
  | _ :: _, _ :: _, ⟨_, r⟩ => by rw [List.length_cons, List.length_cons, KeyL.len r]
  | [], _ :: _, h => h.elim
  | _ :: _, [], h => h.elim
theorem KeyL.get {H : Hp} : ∀ {vs : List V} {ts : List (Sy × Nat)} {i : Nat} {v : V}, KeyL H vs ts → vs[i]? = some v → ∃ t x, v = .ref t ∧ ts[i]? = some x ∧ H t = some (.tup [.str x.1.str, .int (x.2 : Nat)])
  | [], [], i, v, _, h => by simp at h
  | _ :: _, _ :: _, 0, v, ⟨⟨t, e, q⟩, _⟩, h => by
    simp at h
    subst h
    exact ⟨t, _, e, rfl, q⟩
  | _ :: _, _ :: _, i + 1, v, ⟨_, r⟩, h => by
    simp only [List.getElem?_cons_succ] at h ⊢
    exact KeyL.get r h
  | [], _ :: _, _, _, h, _ => h.elim
  | _ :: _, [], _, _, h, _ => h.elim
theorem shStrs (ns : List Str) (h : ∀ n ∈ ns, PyData.strOk n = true) : SeqAt.shaped (.list (ns.map PyData.str)) = true := by
  have h1 : ∀ ns : List Str, (∀ n ∈ ns, PyData.strOk n = true) → PyData.canLayAll0 (ns.map PyData.str) = true ∧ PyData.depthAll (ns.map PyData.str) = 0 := by
    intro ns
    induction ns with
    | nil => intro _; simp [PyData.canLayAll0, PyData.depthAll]
    | cons n ns ih =>
      intro h
      obtain ⟨i1, i2⟩ := ih fun x hx => h x (by simp [hx])
      simp [PyData.canLayAll0, PyData.depthAll, PyData.canLay0, PyData.depth, i1, i2, h n (by simp)]
  simp [SeqAt.shaped, PyData.canLay0, PyData.depth, (h1 ns h).1, (h1 ns h).2]
section
variable {K : PySem.W.Frag}
theorem dpStrs (H : Hp) : ∀ ns : List Str, DpAll K H (ns.map V.str) (ns.map PyData.str)
  | [] => .nil
  | n :: ns => .cons (.str n) (dpStrs H ns)
end
end XE

set_option Elab.async false
set_option linter.all false
set_option maxRecDepth 100000
set_option maxHeartbeats 4000000
namespace XE
open PySem PySem.Spec PyProof.Rows L2 Rx SX
abbrev sGrammar : Stmt := topS 57
def tabStrs : List Str := ["G not not G", "G [ [ C ]", "G integer E K", "G name E K", "G - E K", "G ( E K", "K = = E", "K != != E", "K < < E", "K <= <= E", "K > > E", "K >= >= E", "Es + + T Es", "Es - - T Es", "Fs * * F Fs", "Fs // // F Fs", "Fs mod mod F Fs", "F integer integer", "F name name", "F - - F", "F ( ( E )", "Cs or or J Cs", "Js and and G Js"]
theorem tab_split : tabStrs.map (fun s => Txt.split s " ") = tabL.map fun r => r.1.str :: r.2.1.str :: r.2.2.map Sy.str := by decide +kernel
theorem tab_nodup : (tabL.map fun r => tKey r.1 r.2.1).Nodup := by decide +kernel
theorem tab_short : ∀ s ∈ tabStrs, s.length ≤ 20 := by decide +kernel
def spGram : Sp := fun vs H Q _ => vs = [] ∧ ∀ (H' : Hp) (d : Addr) (as : List Addr), Same H H' → H d = none → H' d = some (.dT (tabK tabL as)) → TabAt H' tabL as → Q (.ref d) H'
theorem cut2 (a b : V) (xs : List V) : cutV (a :: b :: xs) (some (2 : Int)) none = xs := by
  unfold cutV
  have e : HT.sIx (a :: b :: xs).length 0 (some (2 : Int)) = 2 := by
    have := HT.sIx_nat (a :: b :: xs).length 0 2
    rw [show (some (2 : Int)) = some ((2 : Nat) : Int) from rfl, this]
    simp
  rw [e, HT.sIx_none]
  simp
section
variable {P : Program} {w : World} {K : PySem.W.Frag} {mg : Str → Option Value} {base : Heap}
theorem scGm : FnScope ["_law_rows", "_law_table", "_law_row", "_law_parts"] [] (defScope sGrammar) := ⟨rfl, rfl, rfl, by decide +kernel, rfl, by decide +kernel, by decide +kernel⟩
theorem ok_gram {f : Addr} {fd : FuncData} (F : Fun K "_law_grammar" "_law_grammar" sGrammar f fd) : FnOk P w K mg base CX0 1 f fd [] spGram := by
  refine F.ok scGm (fun vs H Q E h => ?_) (fun cdv A outer s H vs Q E hr h => ?_)
  · obtain ⟨rfl, _⟩ := h
    rfl
  · obtain ⟨rfl, k⟩ := h
    have hu := hu_of hr
    refine ⟨_, pss_cons (ps_set (i := 0) scGm.nd rfl (.inl rfl) pe_str)
      (pss_cons (ps_set (i := 0) scGm.nd rfl (.inl rfl) (pe_op op_add_str (pv 0) pe_str))
      (pss_cons (ps_set (i := 0) scGm.nd rfl (.inl rfl) (pe_op op_add_str (pv 0) pe_str))
      (pss_cons (ps_set (i := 0) scGm.nd rfl (.inl rfl) (pe_op op_add_str (pv 0) pe_str))
      (pss_cons (ps_set (i := 1) scGm.nd rfl (.inl rfl) pe_dnewT)
      (pss_cons (ps_for PassesOwn.never rfl (pi_list (pe_split (pv 0) pe_str)) (pg_name (i := 2) scGm.nd rfl (.inl rfl))
        (pss_cons (ps_set (i := 3) scGm.nd rfl (.inl rfl) (pe_split (pv 2) pe_str))
        (pss_one (ps_dput hu (pv 1) (pe_tup (pa_cons (pe_ix ix_list (pv 3) pe_int (fun _ _ => rfl)) (pa_cons (pe_ix ix_list (pv 3) pe_int (fun _ _ => rfl)) pa_nil))) (pe_slice sl_list (pv 3) (po_some pe_int) po_none) rfl))))
      (pss_one (ps_ret (pv 1)))))))), ?_⟩
    refine ⟨_, rfl, _, _, rfl, rfl, (by decide +kernel), _, rfl, _, _, rfl, rfl, (by decide +kernel), _, rfl, _, _, rfl, rfl, (by decide +kernel), fun d hd => ?_⟩
    refine ⟨_, rfl, ⟨_, rfl⟩, _, _, rfl, rfl, (by decide +kernel), (by decide +kernel), fun q hq => ?_⟩
    have espl : Txt.split (("G not not G;G [ [ C ];G integer E K;G name E K;G - E K;G ( E K;" : Str) ++ "K = = E;K != != E;K < < E;K <= <= E;K > > E;K >= >= E;" ++ "Es + + T Es;Es - - T Es;Fs * * F Fs;Fs // // F Fs;Fs mod mod F Fs;" ++ "F integer integer;F name name;F - - F;F ( ( E );Cs or or J Cs;Js and and G Js") ";" = tabStrs := by decide +kernel
    rw [espl]
    have dq : d ≠ q := ne_of_none upd_same hq
    have qn : H q = none := (same_new hd).free hq
    refine ⟨q, rfl, ⟨_, SqL.of upd_same⟩, ?_⟩
    refine for_list (K := K) (a := q) (xs := tabStrs.map V.str) (fun i σ Hx => ∃ (x0 x2 x3 : Option V) (as : List Addr), σ = [x0, some (.ref d), x2, x3] ∧ Hx d = some (.dT (tabK (tabL.take i) as)) ∧ TabAt Hx (tabL.take i) as ∧ Hx q = some (.lst (tabStrs.map V.str)) ∧ Same H Hx)
      ⟨_, none, none, [], rfl, by rw [upd_ne dq, upd_same]; rfl, .nil, upd_same, (same_new hd).trans (same_new hq)⟩ (fun i σ Hx _ ⟨_, _, _, _, _, _, _, h, _⟩ => SqL.of h) ?_ ?_
    · rintro i x σ Hx hx ⟨x0, x2, x3, as, rfl, h1, h2, h3, h4⟩
      rw [List.getElem?_map] at hx
      obtain ⟨sg, hsg, rfl⟩ := Option.map_eq_some_iff.mp hx
      have hi : i < 23 := (List.getElem?_eq_some_iff.mp hsg).1
      have hz : sg.length ≤ 20 := tab_short sg (List.mem_of_getElem? hsg)
      obtain ⟨⟨t, kk, lr⟩, hr0⟩ : ∃ r, tabL[i]? = some r := ⟨_, List.getElem?_eq_getElem hi⟩
      have es : Txt.split sg " " = t.str :: kk.str :: lr.map Sy.str := by
        have := congrArg (fun l => l[i]?) tab_split
        simp only [List.getElem?_map, hsg, hr0, Option.map_some] at this
        injection this
      have hlr : lr.length ≤ 3 := by
        have : ∀ r ∈ tabL, r.2.2.length ≤ 3 := by decide +kernel
        exact this _ (List.mem_of_getElem? hr0)
      refine ⟨_, rfl, ⟨_, rfl⟩, _, _, rfl, rfl, (by decide +kernel), Nat.le_trans (Nat.add_le_add_right hz 2) (by decide), fun p hp => ?_⟩
      rw [es]
      have hpn : H p = none := h4.free hp
      have s1 := same_new (o := .lst ((t.str :: kk.str :: lr.map Sy.str).map V.str)) hp
      refine ⟨_, rfl, _, rfl, p, _, rfl, SqL.of upd_same, fun u hu' => ?_⟩
      have ec : cutV ((t.str :: kk.str :: lr.map Sy.str).map V.str) (some (2 : Int)) none = (lr.map Sy.str).map V.str := cut2 _ _ _
      rw [ec]
      have s2 := same_new (o := .lst ((lr.map Sy.str).map V.str)) hu'
      have hp2 := s2 _ _ (upd_same (H := Hx) (a := p) (o := .lst ((t.str :: kk.str :: lr.map Sy.str).map V.str)))
      refine ⟨_, rfl, _, rfl, p, _, _, _, rfl, rfl, SqL.of hp2, atI_nat (j := 0) rfl, _, rfl, p, _, _, _, rfl, rfl, SqL.of hp2, atI_nat (j := 1) rfl, (by show 2 ≤ sizeLine; decide), fun b hb => ?_⟩
      have s3 := same_new (o := .tup [.str t.str, .str kk.str]) hb
      have s123 := (s1.trans s2).trans s3
      have hd3 := s123 _ _ h1
      have hub := s3 _ _ (upd_same (H := upd Hx p (.lst ((t.str :: kk.str :: lr.map Sy.str).map V.str))) (a := u) (o := .lst ((lr.map Sy.str).map V.str)))
      have hbb : upd (upd (upd Hx p (.lst ((t.str :: kk.str :: lr.map Sy.str).map V.str))) u (.lst ((lr.map Sy.str).map V.str))) b (.tup [.str t.str, .str kk.str]) b = some (.tup ((tKey t kk).map kV)) := upd_same
      have hq3 := s123 _ _ h3
      have h4' := h4.trans s123
      have t3 := h2.same s123
      refine ⟨d, _, rfl, DPut.t hd3 hbb ?_, ?_⟩
      · unfold tabK
        rw [List.length_zipWith, ← h2.len, List.length_take]
        exact Nat.lt_of_le_of_lt (Nat.min_le_left _ _) (Nat.lt_of_le_of_lt (Nat.min_le_right _ _) (by decide))
      have hlen : (tabL.take i).length = as.length := h2.len
      have etk : tabL.take (i + 1) = tabL.take i ++ [(t, kk, lr)] := by rw [List.take_add_one, hr0]; rfl
      have new : tKey t kk ∉ (tabK (tabL.take i) as).map (·.1) := by
        rw [tabK_keys hlen]
        have nd := tab_nodup
        have e1 : tabL = tabL.take i ++ (t, kk, lr) :: tabL.drop (i + 1) := by
          obtain ⟨g1, g2⟩ := List.getElem?_eq_some_iff.mp hr0
          rw [← g2, List.getElem_cons_drop, List.take_append_drop]
        rw [e1, List.map_append, List.nodup_append] at nd
        intro zz
        exact nd.2.2 _ zz _ (by simp) rfl
      refine ⟨_, _, _, as ++ [u], rfl, ?_, ?_, ?_, ?_⟩
      · rw [upd_same, etk, tabK_snoc hlen, putK_newT new]
      · rw [etk]
        exact (TabAt.snoc hub t3).keep fun a xs e _ => by rw [upd_ne (ne_of e hd3 (by intro z; cases z))]; exact e
      · rw [upd_ne dq.symm]
        exact hq3
      · exact same_upd h4' hd
    · rintro σ Hx ⟨x0, x2, x3, as, rfl, h1, h2, h3, h4⟩
      have el : tabL.take (tabStrs.map V.str).length = tabL := rfl
      rw [el] at h1 h2
      exact ⟨_, rfl, k Hx d as h4 hd h1 h2⟩
end
end XE

set_option Elab.async false
set_option linter.all false
set_option maxRecDepth 100000
set_option maxHeartbeats 4000000
namespace XE
open PySem PySem.Spec PyProof.Rows L2 Rx SX
abbrev sStop : Stmt := topS 58
def optV : Option Nat → V
  | none => .non
  | some p => .int (p : Nat)
def spStop : Sp := fun vs H Q _ => ∃ (s0 : Sy) (l : Addr) (n : Nat) (ws : List V) (ks : List (Sy × Nat)), vs = [.str s0.str, .ref l, .int (n : Nat)] ∧ H l = some (.lst ws) ∧ KeyL H ws ks ∧ ks.length ≤ 100000 ∧ (∀ x ∈ ks, x.1 ∈ Sy.terms) ∧ runsL [s0] (ks ++ [(.end_, n)]) ∧
  ∀ H', Same H H' → Q (optV (stopL [s0] (ks ++ [(.end_, n)]))) H'
theorem eqv_strs (ns : List Str) : PyData.eqv (.list (ns.map PyData.str)) (.list []) = ns.isEmpty := by
  cases ns <;> simp [PyData.eqv, PyData.eqvAll]
section
variable {P : Program} {w : World} {K : PySem.W.Frag} {mg : Str → Option Value} {base : Heap}
theorem scSt : FnScope ["_law_start", "_law_some", "_law_length", "_law_table", "_law_always", "_law_pile", "_law_key_here", "_law_place", "_law_top", "_law_more"] ["_law_start", "_law_some", "_law_length"] (defScope sStop) := ⟨rfl, rfl, rfl, by decide +kernel, rfl, by decide +kernel, by decide +kernel⟩
theorem ok_stop {f fG : Addr} {fd fdG : FuncData} (F : Fun K "_law_stop" "_law_stop" sStop f fd) (CG : Cal P w K mg base 1 "_law_grammar" fG fdG [] spGram) : FnOk P w K mg base CX0 2 f fd ["_law_start", "_law_some", "_law_length"] spStop := by
  refine F.ok scSt (fun vs H Q E h => ?_) (fun cdv A outer s H vs Q E hr h => ?_)
  · obtain ⟨s0, l, n, ws, ks, rfl, _⟩ := h
    rfl
  · obtain ⟨s0, l, n, ws, ks, rfl, hl, hk, hkl, htm, hrun, k⟩ := h
    have hu := hu_of hr
    refine ⟨_, pss_cons (ps_set (i := 3) scSt.nd rfl (.inl rfl) (pe_call0 CG.ok hr rfl CG.mg CG.kp CG.bi .nil pass0))
      (pss_cons (ps_set (i := 4) scSt.nd rfl (.inl rfl) (pe_disp (pps_cons pe_str (pe_lst (pa_cons pe_str (pa_cons pe_str pa_nil))) (pps_cons pe_str (pe_lst (pa_cons pe_str (pa_cons pe_str pa_nil))) (pps_cons pe_str (pe_lst (pa_cons pe_str (pa_cons pe_str pa_nil))) (pps_cons pe_str (pe_lst (pa_cons pe_str (pa_cons pe_str pa_nil))) pps_nil)))) (by rfl) (by rfl) (fun z => by cases z) (by decide)))
      (pss_cons (ps_set (i := 5) scSt.nd rfl (.inl rfl) (pe_lst (pa_cons (pv 0) pa_nil)))
      (pss_cons (ps_for PassesOwn.never rfl (pi_list (pe_op op_cat (pv 1) (pe_lst (pa_cons (pe_tup (pa_cons pe_str (pa_cons (pv 2) pa_nil))) pa_nil)))) (pg_tup rfl (pgs_cons (pg_name (i := 6) scSt.nd rfl (.inl rfl)) (pgs_cons (pg_name (i := 7) scSt.nd rfl (.inl rfl)) pgs_nil)))
        (C8.pss_cut (ps_while PassesOwn.never (PW.pt (pw_and (pt_cmpR (op_neD hr.units) (pv 5) (pe_lst pa_nil) (nomark _)) (pw_and1 (pt_cmpR op_ne (pe_ix ix_list (pv 5) (pe_un un_neg pe_int) (fun _ _ => rfl)) (pv 6) (nomark _)))))
          (pss_cons (ps_set (i := 8) scSt.nd rfl (.inl rfl) (pe_bm0 PySem.F.plainAttrs_list PySem.F.slot_list_pop PySem.F.type_list_pop mt_pop (pv 5)))
          (pss_cons (ps_set (i := 9) scSt.nd rfl (.inl rfl) (pe_dget2 hu (pv 3) (pe_tup (pa_cons (pv 8) (pa_cons (pv 6) pa_nil))) (pe_dget2 hu (pv 4) (pv 8) (pe_lst pa_nil) ⟨rfl, rfl, rfl, rfl⟩) ⟨rfl, rfl, rfl, rfl⟩))
          (C8.pss_cut (ps_if (PW.pt (pw_and (pt_cmpR (op_eqD hr.units) (pv 9) (pe_lst pa_nil) (nomark _)) (pw_and1 (pt_cmpR op_notIn_seq (pv 8) (pe_tup (pa_cons pe_str (pa_cons pe_str (pa_cons pe_str (pa_cons pe_str pa_nil))))) (by rfl))))) (pss_one (ps_ret (pv 7))) pss_nil)
          (pss_one (ps_expr (pe_bm PySem.F.plainAttrs_list PySem.F.slot_list_extend PySem.F.type_list_extend mt_extend (pv 5) (pa_cons (pe_revL (pv 9)) pa_nil))))))))
        (pss_cons (ps_if (pt_cmpR (op_eqD hr.units) (pv 5) (pe_lst pa_nil) (nomark _)) (pss_one (ps_ret (pe_ifExp (pt_cmpR op_eq (pv 6) pe_str (nomark _)) pe_non (pv 7)))) pss_nil)
        (pss_one (ps_expr (pe_bm0 PySem.F.plainAttrs_list PySem.F.slot_list_pop PySem.F.type_list_pop mt_pop (pv 5)))))))
      (pss_one (ps_ret pe_non))))), ?_⟩
    refine ⟨rfl, fun H1 d as s1 dn hd hT => ?_⟩
    intro dA nA
    refine ⟨(by show 2 ≤ sizeLine; decide), fun a1 n1 => ⟨(by show 2 ≤ sizeLine; decide), fun a2 n2 => ⟨(by show 2 ≤ sizeLine; decide), fun a3 n3 => ⟨(by show 2 ≤ sizeLine; decide), fun a4 n4 => ?_⟩⟩⟩⟩
    have t1 := same_new (o := .lst [.str "J", .str "Cs"]) n1
    have t2 := same_new (o := .lst [.str "G", .str "Js"]) n2
    have t3 := same_new (o := .lst [.str "T", .str "Es"]) n3
    have t4 := same_new (o := .lst [.str "F", .str "Fs"]) n4
    refine ⟨t4 _ _ (t3 _ _ (t2 _ _ (t1 _ _ upd_same))), alwK a1 a2 a3 a4, rfl, (by show 4 ≤ 15; decide), ?_⟩
    have emg : mergeK [] (alwK a1 a2 a3 a4) = alwK a1 a2 a3 a4 := mergeK_nil (by show (([Sum.inr "C", Sum.inr "J", Sum.inr "E", Sum.inr "T"] : List Key)).Nodup; decide +kernel)
    rw [emg]
    have hA0 : upd (upd (upd (upd (upd H1 dA (.dK [])) a1 (.lst [.str "J", .str "Cs"])) a2 (.lst [.str "G", .str "Js"])) a3 (.lst [.str "T", .str "Es"])) a4 (.lst [.str "F", .str "Fs"]) dA = some (.dK []) := t4 _ _ (t3 _ _ (t2 _ _ (t1 _ _ upd_same)))
    have l1 := t4 _ _ (t3 _ _ (t2 _ _ (upd_same (H := upd H1 dA (.dK [])) (a := a1) (o := .lst [.str "J", .str "Cs"]))))
    have l2 := t4 _ _ (t3 _ _ (upd_same (H := upd (upd H1 dA (.dK [])) a1 (.lst [.str "J", .str "Cs"])) (a := a2) (o := .lst [.str "G", .str "Js"])))
    have l3 := t4 _ _ (upd_same (H := upd (upd (upd H1 dA (.dK [])) a1 (.lst [.str "J", .str "Cs"])) a2 (.lst [.str "G", .str "Js"])) (a := a3) (o := .lst [.str "T", .str "Es"]))
    have l4 := upd_same (H := upd (upd (upd (upd H1 dA (.dK [])) a1 (.lst [.str "J", .str "Cs"])) a2 (.lst [.str "G", .str "Js"])) a3 (.lst [.str "T", .str "Es"])) (a := a4) (o := .lst [.str "F", .str "Fs"])
    have s12 : Same H1 (upd (upd (upd (upd (upd (upd H1 dA (.dK [])) a1 (.lst [.str "J", .str "Cs"])) a2 (.lst [.str "G", .str "Js"])) a3 (.lst [.str "T", .str "Es"])) a4 (.lst [.str "F", .str "Fs"])) dA (.dK (alwK a1 a2 a3 a4))) := same_upd ((((same_new nA).trans t1).trans (t2.trans t3)).trans t4) nA
    have A2 : AlwAt (upd (upd (upd (upd (upd (upd H1 dA (.dK [])) a1 (.lst [.str "J", .str "Cs"])) a2 (.lst [.str "G", .str "Js"])) a3 (.lst [.str "T", .str "Es"])) a4 (.lst [.str "F", .str "Fs"])) dA (.dK (alwK a1 a2 a3 a4))) dA a1 a2 a3 a4 := by
      refine ⟨upd_same, ?_, ?_, ?_, ?_⟩
      · unfold symL; rw [upd_ne (ne_of l1 hA0 (by intro z; cases z))]; exact l1
      · unfold symL; rw [upd_ne (ne_of l2 hA0 (by intro z; cases z))]; exact l2
      · unfold symL; rw [upd_ne (ne_of l3 hA0 (by intro z; cases z))]; exact l3
      · unfold symL; rw [upd_ne (ne_of l4 hA0 (by intro z; cases z))]; exact l4
    have T2 := hT.same s12
    have hd2 := s12 _ _ hd
    have s2 := s1.trans s12
    clear hA0 l1 l2 l3 l4 t1 t2 t3 t4 s12
    generalize upd (upd (upd (upd (upd (upd H1 dA (.dK [])) a1 (.lst [.str "J", .str "Cs"])) a2 (.lst [.str "G", .str "Js"])) a3 (.lst [.str "T", .str "Es"])) a4 (.lst [.str "F", .str "Fs"])) dA (.dK (alwK a1 a2 a3 a4)) = H2 at A2 T2 hd2 s2 ⊢
    refine ⟨_, rfl, (by show 1 ≤ sizeLine; decide), fun pp np => ?_⟩
    have sp := same_new (o := .lst [.str s0.str]) np
    refine ⟨_, rfl, _, rfl, (by show 2 ≤ sizeLine; decide), fun te nte => ⟨(by show 1 ≤ sizeLine; decide), fun e1 ne1 => ?_⟩⟩
    have se := same_new (o := .tup [.str "end", .int (n : Nat)]) nte
    have se1 := same_new (o := .lst [.ref te]) ne1
    have hl3 := se1 _ _ (se _ _ (sp _ _ (s2 _ _ hl)))
    have hwl : ws.length ≤ 100000 := by rw [hk.len]; exact hkl
    refine ⟨l, e1, ws, [.ref te], rfl, rfl, hl3, upd_same, ?_, fun q nq => ?_⟩
    · exact Nat.le_trans (Nat.add_le_add_right hwl 1) (by decide)
    have sq := same_new (o := .lst (ws ++ [.ref te])) nq
    have hte := sq _ _ (se1 _ _ (upd_same (H := upd H2 pp (.lst [.str s0.str])) (a := te) (o := .tup [.str "end", .int (n : Nat)])))
    have hpp := sq _ _ (se1 _ _ (se _ _ (upd_same (H := H2) (a := pp) (o := .lst [.str s0.str]))))
    have qp : q ≠ pp := (ne_of_none (se1 _ _ (se _ _ (upd_same (H := H2) (a := pp) (o := .lst [.str s0.str])))) nq).symm
    have s5 : Same H2 _ := (sp.trans se).trans (se1.trans sq)
    have hk5 := KeyL.snoc (x := (Sy.end_, n)) hte (hk.same (s2.trans s5))
    have hq5 := upd_same (H := upd (upd (upd H2 pp (.lst [.str s0.str])) te (.tup [.str "end", .int (n : Nat)])) e1 (.lst [.ref te])) (a := q) (o := .lst (ws ++ [.ref te]))
    clear sq se se1 sp hte hl3
    generalize upd (upd (upd (upd H2 pp (.lst [.str s0.str])) te (.tup [.str "end", .int (n : Nat)])) e1 (.lst [.ref te])) q (.lst (ws ++ [.ref te])) = H5 at s5 hk5 hq5 hpp ⊢
    generalize hks : ks ++ [(Sy.end_, n)] = ks' at hk5 hrun k
    generalize ws ++ [V.ref te] = ws' at hk5 hq5 ⊢
    have htm' : ∀ x ∈ ks', x.1 ∈ Sy.terms := by
      intro x hx
      rw [← hks] at hx
      rcases List.mem_append.mp hx with hx | hx
      · exact htm x hx
      · rw [List.mem_singleton.mp hx]; show Sy.end_ ∈ Sy.terms; decide
    have hkl' : ks'.length ≤ 100001 := by rw [← hks]; simp; omega
    have pn : H2 pp = none := np
    refine ⟨q, rfl, ⟨_, SqL.of hq5⟩, ?_⟩
    refine for_list (K := K) (a := q) (xs := ws') (fun i σ Hx => ∃ (x6 x7 x8 x9 : Option V) (pl : List Sy), σ = [some (.str s0.str), some (.ref l), some (.int (n : Nat)), some (.ref d), some (.ref dA), some (.ref pp), x6, x7, x8, x9] ∧ Hx pp = some (.lst (pileV pl)) ∧ Same H2 Hx ∧ KeyL Hx ws' ks' ∧ Hx q = some (.lst ws') ∧ stopL pl (ks'.drop i) = stopL [s0] ks' ∧ runsL pl (ks'.drop i) ∧ pl.length ≤ 1 + 30 * i)
      ⟨none, none, none, none, [s0], rfl, hpp, s5, hk5, hq5, rfl, hrun, by simp⟩ (fun i σ Hx _ ⟨_, _, _, _, _, _, _, _, _, h, _⟩ => SqL.of h) ?_ ?_
    · rintro i x σ Hx hx ⟨x6, x7, x8, x9, pl, rfl, hpl, sx, hkx, hqx, hst, hrn, hlen⟩
      obtain ⟨t, ⟨kk, pos⟩, rfl, hti, ht⟩ := hkx.get hx
      have hil : i < 100001 := Nat.lt_of_lt_of_le (List.getElem?_eq_some_iff.mp hti).1 hkl'
      have hdrop : ks'.drop i = (kk, pos) :: ks'.drop (i + 1) := by
        obtain ⟨h1, h2⟩ := List.getElem?_eq_some_iff.mp hti
        rw [← h2, List.getElem_cons_drop]
      have hkt : kk ∈ Sy.terms := htm' _ (List.mem_of_getElem? hti)
      rw [hdrop] at hst hrn
      obtain ⟨hno, hnx⟩ := hrn
      refine ⟨t, _, rfl, SqT.of ht, rfl, _, _, rfl, _, _, rfl, rfl, ?_⟩
      have okp : ∀ pl : List Sy, ∀ x ∈ (pl.map Sy.str).reverse, PyData.strOk x = true := fun pl x hx => by
        obtain ⟨y, _, rfl⟩ := List.mem_map.mp (List.mem_reverse.mp hx)
        exact sy_ok y
      have okm : ∀ pl : List Sy, ∀ x ∈ pl.map Sy.str, PyData.strOk x = true := fun pl x hx => by
        obtain ⟨y, _, rfl⟩ := List.mem_map.mp hx
        exact sy_ok y
      refine ⟨fun σ Hy => ∃ (x8 x9 : Option V) (pl' : List Sy), σ = [some (.str s0.str), some (.ref l), some (.int (n : Nat)), some (.ref d), some (.ref dA), some (.ref pp), some (.str kk.str), some (.int (pos : Nat)), x8, x9] ∧ Hy pp = some (.lst (pileV pl')) ∧ Same H2 Hy ∧ KeyL Hy ws' ks' ∧ Hy q = some (.lst ws') ∧ downL 12 pl kk = .at_ pl' ∧ pl'.length ≤ 25 + 30 * i, ?_, ?_⟩
      · refine ⟨fun m σ Hy => ∃ (x8 x9 : Option V) (pl' : List Sy), σ = [some (.str s0.str), some (.ref l), some (.int (n : Nat)), some (.ref d), some (.ref dA), some (.ref pp), some (.str kk.str), some (.int (pos : Nat)), x8, x9] ∧ Hy pp = some (.lst (pileV pl')) ∧ Same H2 Hy ∧ KeyL Hy ws' ks' ∧ Hy q = some (.lst ws') ∧ downL m pl' kk = downL 12 pl kk ∧ pl'.length + 2 * m ≤ 25 + 30 * i,
          ⟨12, x8, x9, pl, rfl, hpl, sx, hkx, hqx, rfl, by omega⟩, ?_⟩
        rintro m σ Hy ⟨y8, y9, pl', rfl, hpy, sy, hky, hqy, hdl, hln⟩
        cases m with
        | zero => exact absurd hdl.symm hno
        | succ m =>
          refine ⟨_, rfl, (by show 0 ≤ sizeLine; decide), fun e he => ⟨.list (((pl'.map Sy.str).reverse).map PyData.str), .list [], .lst (SqL.of ((same_new he) _ _ hpy)) (dpStrs _ _), .lst (SqL.of upd_same) .nil, shStrs _ (okp pl'), rfl, _, rfl, ?_⟩⟩
          have sE := same_new (o := .lst []) he
          have hpe := sE _ _ hpy
          have hke := hky.same sE
          have hqe := sE _ _ hqy
          have s2e := sy.trans sE
          clear sE
          generalize upd Hy e (.lst []) = He at hpe hke hqe s2e ⊢
          rw [eqv_strs]
          cases pl' with
          | nil => exact iteFc rfl (iteFc rfl ⟨y8, y9, [], rfl, hpe, s2e, hke, hqe, hdl.symm, by simp⟩)
          | cons t pl2 =>
            rw [pileV_cons] at hpe
            refine iteTc (by simp) ⟨_, rfl, _, rfl, pp, _, _, _, rfl, rfl, SqL.of hpe, atI_last _ _, _, rfl, rfl, _, rfl, ?_⟩
            have edec : decide (V.str t.str = V.str kk.str) = decide (t = kk) := by
              rw [decide_eq_decide]
              exact ⟨fun z => by injection z with z; exact Sy.str_inj z, fun z => by rw [z]⟩
            rw [edec]
            by_cases htk : t = kk
            · refine iteFc (by simp [htk]) ⟨y8, y9, t :: pl2, rfl, by rw [pileV_cons]; exact hpe, s2e, hke, hqe, ?_, by omega⟩
              rw [← hdl, downL, if_pos htk]
            · refine iteTc (by simp [htk]) ⟨_, fun _ _ h => h, _, rfl, .inl ⟨rfl, _, SqL.of hpe⟩, pop_read hpe ?_⟩
              have sP : Same H2 (upd He pp (.lst (pileV pl2))) := same_upd s2e pn
              have hpP := upd_same (H := He) (a := pp) (o := .lst (pileV pl2))
              have hkP : KeyL (upd He pp (.lst (pileV pl2))) ws' ks' := hke.keep fun a xs ea => by rw [upd_ne (ne_of ea hpe (by intro z; cases z))]; exact ea
              have hqP : upd He pp (.lst (pileV pl2)) q = some (.lst ws') := by rw [upd_ne qp]; exact hqe
              clear s2e hke hqe hpe
              generalize upd He pp (.lst (pileV pl2)) = Hp at sP hpP hkP hqP ⊢
              refine ⟨_, rfl, d, rfl, .inr ⟨_, .inl (sP _ _ hd2)⟩, _, rfl, _, rfl, (by show 2 ≤ sizeLine; decide), fun b hb => ⟨_, rfl, dA, rfl, .inl ⟨_, .inl ((same_new hb) _ _ (sP _ _ A2.at_))⟩, _, rfl, (by show 0 ≤ sizeLine; decide), fun e2 he2 => ?_⟩⟩
              have sb := same_new (o := .tup [.str t.str, .str kk.str]) hb
              have sb2 := same_new (o := .lst []) he2
              have sQ := sP.trans (sb.trans sb2)
              have hpQ := sb2 _ _ (sb _ _ hpP)
              have hkQ := (hkP.same sb).same sb2
              have hqQ := sb2 _ _ (sb _ _ hqP)
              have hbQ := sb2 _ _ (upd_same (H := Hp) (a := b) (o := .tup [.str t.str, .str kk.str]))
              have heQ := upd_same (H := upd Hp b (.tup [.str t.str, .str kk.str])) (a := e2) (o := .lst [])
              generalize upd (upd Hp b (.tup [.str t.str, .str kk.str])) e2 (.lst []) = HQ at sQ hpQ hkQ hqQ hbQ heQ ⊢
              refine ⟨_, DGet.k (k := Sum.inr t.str) (A2.same sQ).at_, _, DGet.t (k := tKey t kk) (sQ _ _ hd2) hbQ, ?_⟩
              obtain ⟨xx, exx, hxx⟩ := more_at (T2.same sQ) (A2.same sQ) heQ t kk
              rw [exx]
              refine ⟨fun σ Hz => σ = [some (.str s0.str), some (.ref l), some (.int (n : Nat)), some (.ref d), some (.ref dA), some (.ref pp), some (.str kk.str), some (.int (pos : Nat)), some (.str t.str), some (.ref xx)] ∧ Same HQ Hz ∧ ¬ (more t kk = [] ∧ nul t = false), ?_, ?_⟩
              · refine ⟨_, rfl, (by show 0 ≤ sizeLine; decide), fun e3 he3 => ⟨.list (((more t kk).map Sy.str).map PyData.str), .list [], .lst (SqL.of ((same_new he3) _ _ hxx)) (dpStrs _ _), .lst (SqL.of upd_same) .nil, shStrs _ (okm _), rfl, _, rfl, ?_⟩⟩
                rw [eqv_strs]
                by_cases hm : more t kk = []
                · refine iteTc (by rw [hm]; rfl) ⟨_, rfl, (by show 4 ≤ sizeLine; decide), fun t4 nt4 => ⟨t4, _, rfl, .inr (SqT.of upd_same), rfl, flat_strs nulS, _, rfl, ?_⟩⟩
                  show if (!inV (.str t.str) (nulS.map V.str)) = true then _ else _
                  rw [inV_strs, nul_in]
                  cases hn : nul t with
                  | true => exact iteFc rfl ⟨rfl, (same_new he3).trans (same_new nt4), fun z => by cases z.2⟩
                  | false =>
                    refine iteTc rfl ⟨_, rfl, ?_⟩
                    have hb12 : downL 12 pl kk = .bad := by rw [← hdl, downL, if_neg htk, if_pos ⟨hm, hn⟩]
                    have := k _ ((s2.trans sQ).trans ((same_new (o := .lst []) he3).trans (same_new (o := .tup (nulS.map V.str)) nt4)))
                    rw [← hst, stopL, hb12] at this
                    exact this
                · have hne : ((more t kk).map Sy.str).isEmpty = false := by
                    cases hmm : more t kk with
                    | nil => exact absurd hmm hm
                    | cons a b => rfl
                  exact iteFc hne (iteFc rfl ⟨rfl, same_new he3, fun z => hm z.1⟩)
              · rintro σ Hz ⟨rfl, sZ, hgo⟩
                have hpZ := sZ _ _ hpQ
                have hml := more_len t kk
                refine ⟨_, rfl, .inl ⟨rfl, _, SqL.of hpZ⟩, _, rfl, xx, _, rfl, SqL.of (sZ _ _ hxx), fun r nr => ?_⟩
                have sR := same_new (o := .lst (((more t kk).map Sy.str).map V.str).reverse) nr
                have hpR := sR _ _ hpZ
                refine ⟨pp, r, _, _, rfl, rfl, hpR, upd_same, ?_, ?_⟩
                · rw [pileV_len, List.length_reverse, List.length_map, List.length_map]
                  simp only [List.length_cons] at hln
                  exact Nat.le_trans (by omega : pl2.length + (more t kk).length ≤ 3100000) (by decide)
                · refine ⟨m, Nat.lt_succ_self _, _, _, more t kk ++ pl2, rfl, ?_, ?_, ?_, ?_, ?_, ?_⟩
                  · rw [upd_same, pileV_app]
                  · exact same_upd ((sQ.trans sZ).trans sR) pn
                  · exact ((hkQ.same sZ).same sR).keep fun a xs ea => by rw [upd_ne (ne_of ea hpR (by intro z; cases z))]; exact ea
                  · rw [upd_ne qp]
                    exact sR _ _ (sZ _ _ hqQ)
                  · rw [← hdl]
                    show _ = if t = kk then _ else if more t kk = [] ∧ nul t = false then _ else _
                    rw [if_neg htk, if_neg hgo]
                  · simp only [List.length_cons] at hln
                    rw [List.length_append]
                    omega
      · rintro σ Hy ⟨y8, y9, pl', rfl, hpy, sy, hky, hqy, hat, hln⟩
        refine ⟨_, rfl, (by show 0 ≤ sizeLine; decide), fun e he => ⟨.list (((pl'.map Sy.str).reverse).map PyData.str), .list [], .lst (SqL.of ((same_new he) _ _ hpy)) (dpStrs _ _), .lst (SqL.of upd_same) .nil, shStrs _ (okp pl'), rfl, _, rfl, ?_⟩⟩
        have sE := same_new (o := .lst []) he
        rw [eqv_strs]
        rw [stopL, hat] at hst
        cases pl' with
        | nil =>
          refine iteTc rfl ⟨_, rfl, rfl, _, rfl, ?_⟩
          have kH := k _ ((s2.trans sy).trans sE)
          rw [← hst] at kH
          have edec : decide (V.str kk.str = V.str "end") = decide (kk = .end_) := by
            rw [decide_eq_decide]
            exact ⟨fun z => by injection z with z; exact Sy.str_inj (b := .end_) z, fun z => by rw [z]; rfl⟩
          rw [edec]
          by_cases hke : kk = .end_
          · dsimp only at kH
            rw [if_pos hke] at kH
            exact iteTc (by simp [hke]) kH
          · dsimp only at kH
            rw [if_neg hke] at kH
            exact iteFc (by simp [hke]) ⟨_, rfl, kH⟩
        | cons t pl2 =>
          have hpe := sE _ _ hpy
          rw [pileV_cons] at hpe
          refine iteFc (by simp) ⟨_, rfl, .inl ⟨rfl, _, SqL.of hpe⟩, pop_read hpe ?_⟩
          simp only [List.length_cons] at hln
          refine ⟨_, _, _, _, pl2, rfl, upd_same, same_upd (sy.trans sE) pn, (hky.same sE).keep (fun a xs ea => by rw [upd_ne (ne_of ea hpe (by intro z; cases z))]; exact ea), by rw [upd_ne qp]; exact sE _ _ hqy, hst, hnx t pl2 hat, by omega⟩
    · rintro σ Hx ⟨x6, x7, x8, x9, pl, rfl, hpl, sx, hkx, hqx, hst, hrn, hlen⟩
      rw [hkx.len, List.drop_length] at hst
      have := k Hx (s2.trans sx)
      rw [← hst] at this
      exact this
end
end XE

set_option Elab.async false
set_option linter.all false
set_option maxRecDepth 100000
set_option maxHeartbeats 1000000
namespace XE
open PySem PySem.Spec PyProof.Rows L2 Rx SX
abbrev sReadNamed : Stmt := topS 45
abbrev sReadHead : Stmt := topS 46
abbrev sReadLine : Stmt := topS 44
def OptD (K : PySem.W.Frag) (H : Hp) (v : V) : Option PyData → Prop
  | none => v = .non
  | some d => Dp K H v d
theorem rd_comes {c : Bool} {z : Str} {T : Option Tr} (h : Rd c z T) : ∃ due, Comes c (cod z) due ∧ (due = none ↔ T ≠ none) := by
  cases T with
  | none => obtain ⟨p, h⟩ := h; exact ⟨some p, h, by simp⟩
  | some t =>
    obtain ⟨r, h1, h2, _⟩ := h
    exact ⟨none, ⟨r, _, h1, h2, by cases t <;> rfl⟩, by simp⟩
theorem rd_data {c : Bool} {z : Str} {T : Option Tr} (h : Rd c z T) {r' : RS} {d : PyData} (h1 : runX (RS.start c) (toks (cod z)) = some (.inr r')) (h2 : r'.nodes = [d]) : ∃ t, T = some t ∧ d = t.data := by
  cases T with
  | none => obtain ⟨p, h⟩ := h; rw [h] at h1; cases h1
  | some t =>
    obtain ⟨r, h3, h4, _⟩ := h
    rw [h3] at h1
    injection h1 with h1
    injection h1 with h1
    subst h1
    rw [h4] at h2
    injection h2 with h2
    exact ⟨t, rfl, h2.symm⟩
def namedO (w z : Str) (T : Option Tr) : Option PyData := if isName (cod (par z).1) = true then T.map (fun t => .tuple [.str w, .str (par z).1, t.data]) else none
def spReadNamed (K : PySem.W.Frag) : Sp := fun vs H Q _ => ∃ (w z : Str) (T : Option Tr), vs = [.str w, .str z] ∧ z.length ≤ 900 ∧ Rd false (par z).2.2 T ∧ ∀ v H', Same H H' → OptD K H' v (namedO w z T) → Q v H'
def spReadHead (K : PySem.W.Frag) : Sp := fun vs H Q _ => ∃ (w z : Str) (T : Option Tr), vs = [.str w, .str z] ∧ z.length ≤ 900 ∧ Rd true z T ∧ ∀ v H', Same H H' → OptD K H' v (T.map fun t => .tuple [.str w, t.data]) → Q v H'
def spReadLine (K : PySem.W.Frag) : Sp := fun vs H Q _ => ∃ (z : Str) (o : Option Stp), vs = [.str z] ∧ z.length ≤ 900 ∧ LineR z o ∧ ∀ v H', Same H H' → OptD K H' v (o.map Stp.data) → Q v H'
section
variable {P : Program} {w : World} {K : PySem.W.Frag} {mg : Str → Option Value} {base : Heap} {CB : Addr}
abbrev rnN : List Str := ["word", "rest", "name", "gap", "text"]
theorem scRN : FnScope rnN ["word", "rest"] (defScope sReadNamed) := ⟨rfl, rfl, rfl, by decide +kernel, rfl, by decide +kernel, by decide +kernel⟩
theorem ok_readNamed {f fN fE : Addr} {fd fdN fdE : FuncData} (F : Fun K "read_named_expression" "read_named_expression" sReadNamed f fd) (TB : RaiT P w K mg base "BadText" CB ["position"]) (CN : Cal P w K mg base 1 "is_name" fN fdN ["thing"] (spTest isName)) (CE : CalX P w K mg base 6 "parse_expression" fE fdE ["text"] (spParseX K CB false)) :
    FnOk P w K mg base CX0 7 f fd ["word", "rest"] (spReadNamed K) := by
  refine F.ok scRN (fun vs H Q E h => ?_) (fun cdv A outer s H vs Q E hr h => ?_)
  · obtain ⟨_, _, _, rfl, _⟩ := h
    rfl
  · obtain ⟨wd, z, T, rfl, hz, hR, k⟩ := h
    have hr1 : Room 1 _ := hr.mono (by decide)
    refine ⟨_, (pss_cons (ps_asg (pe_partition (pv 1) pe_str) (pg_tup rfl (pgs_cons (pg_name (i := 2) scRN.nd rfl (.inl rfl)) (pgs_cons (pg_name (i := 3) scRN.nd rfl (.inl rfl)) (pgs_cons (pg_name (i := 4) scRN.nd rfl (.inl rfl)) pgs_nil))))) (pss_cons (ps_if (pt_not (pt_val (pe_call CN.ok hr1 rfl CN.mg CN.kp CN.bi .nil pass0 (pa_cons (pv 2) pa_nil)))) (pss_one (ps_ret pe_non)) pss_nil) (pss_one (ps_try_only rfl rfl ⟨rfl, by decide, .inl TB.mgx⟩ takes0 (fun W pn xe tk _ => (pss_one (ps_ret (pe_tup (pa_cons (pv 0) (pa_cons (pv 2) (pa_cons (pe_callS CE.ok hr rfl CE.mg CE.kp CE.bi (fun σ => passAt tk σ) (pa_cons (pv 4) pa_nil)) pa_nil))))))) (fun a oe cls d pn hz hf => (pss_one (ps_ret pe_non))))))), ?_⟩
    obtain ⟨l1, l2⟩ := par_len z
    refine ⟨_, rfl, ⟨_, rfl⟩, z, " ", rfl, rfl, by decide +kernel, Nat.le_trans hz (by decide), fun p np => ⟨p, _, rfl, SqT.of upd_same, rfl, _, _, rfl, _, _, rfl, _, _, rfl, rfl, ?_⟩⟩
    have s1 := same_new (o := .tup [.str (par z).1, .str (par z).2.1, .str (par z).2.2]) np
    refine ⟨_, rfl, _, rfl, Nat.le_trans l1 (Nat.le_trans hz (by decide)), fun H1 s2 => ⟨_, rfl, ?_⟩⟩
    unfold namedO at k
    have s12 := s1.trans s2
    cases hn : isName (cod (par z).1) with
    | false => 
      rw [hn] at k
      exact iteTc rfl (k _ _ s12 rfl)
    | true => 
      rw [if_pos hn] at k
      obtain ⟨due, hc, hd⟩ := rd_comes hR
      refine iteFc rfl ⟨_, rfl, _, rfl, _, rfl, _, due, rfl, Nat.le_trans l2 (Nat.le_trans hz (by decide)), hc, fun e r' d g1 g2 g3 H' v sm hv hl => ?_, fun q e H' dx sm hd2 hx => ?_⟩
      · obtain ⟨t, rfl, rfl⟩ := rd_data hR g1 g2
        refine ⟨(by show 3 ≤ sizeLine; decide), fun q nq => k _ _ ((s12.trans sm).trans (same_new nq)) (.tup (SqT.of upd_same) (.cons (.str _) (.cons (.str _) (.cons (dp_same (same_new nq) hv) .nil))))⟩
      · have : T = none := by
          cases T with
          | none => rfl
          | some t => rw [hd.mpr (by simp)] at e; cases e
        subst this
        exact ⟨true, TB.self, (fun _ a ha => k _ _ (s12.trans sm) rfl), fun z => by cases z⟩
abbrev rhN : List Str := ["word", "rest"]
theorem scRH : FnScope rhN ["word", "rest"] (defScope sReadHead) := ⟨rfl, rfl, rfl, by decide +kernel, rfl, by decide +kernel, by decide +kernel⟩
theorem ok_readHead {f fC : Addr} {fd fdC : FuncData} (F : Fun K "read_block_head" "read_block_head" sReadHead f fd) (TB : RaiT P w K mg base "BadText" CB ["position"]) (CC : CalX P w K mg base 6 "parse_condition" fC fdC ["text"] (spParseX K CB true)) :
    FnOk P w K mg base CX0 7 f fd ["word", "rest"] (spReadHead K) := by
  refine F.ok scRH (fun vs H Q E h => ?_) (fun cdv A outer s H vs Q E hr h => ?_)
  · obtain ⟨_, _, _, rfl, _⟩ := h
    rfl
  · obtain ⟨wd, z, T, rfl, hz, hR, k⟩ := h
    refine ⟨_, (pss_one (ps_try_only rfl rfl ⟨rfl, by decide, .inl TB.mgx⟩ takes0 (fun W pn xe tk _ => (pss_one (ps_ret (pe_tup (pa_cons (pv 0) (pa_cons (pe_callS CC.ok hr rfl CC.mg CC.kp CC.bi (fun σ => passAt tk σ) (pa_cons (pv 1) pa_nil)) pa_nil)))))) (fun a oe cls d pn hz hf => (pss_one (ps_ret pe_non))))), ?_⟩
    obtain ⟨due, hc, hd⟩ := rd_comes hR
    refine ⟨_, rfl, _, rfl, _, due, rfl, Nat.le_trans hz (by decide), hc, fun e r' d g1 g2 g3 H' v sm hv hl => ?_, fun q e H' dx sm hd2 hx => ?_⟩
    · obtain ⟨t, rfl, rfl⟩ := rd_data hR g1 g2
      refine ⟨(by show 2 ≤ sizeLine; decide), fun q nq => k _ _ (sm.trans (same_new nq)) (.tup (SqT.of upd_same) (.cons (.str _) (.cons (dp_same (same_new nq) hv) .nil)))⟩
    · have : T = none := by
        cases T with
        | none => rfl
        | some t => rw [hd.mpr (by simp)] at e; cases e
      subst this
      exact ⟨true, TB.self, (fun _ a ha => k _ _ sm rfl), fun z => by cases z⟩
theorem solo_no {z : Str} (h : soloL.contains z = true) : z = "checkpoint" ∨ z = "else" ∨ z = "end" := by simpa [soloL] using h
theorem one_no {z : Str} (h : oneL.contains z = true) : z = "process" ∨ z = "take" ∨ z = "input" := by simpa [oneL] using h
theorem inV_cont (z : Str) (l : List Str) : inV (.str z) (l.map V.str) = l.contains z := by
  exact inV_strs z l
abbrev rlN : List Str := ["text", "word", "gap", "rest", "variable", "sender"]
theorem scRl : FnScope rlN ["text"] (defScope sReadLine) := ⟨rfl, rfl, rfl, by decide +kernel, rfl, by decide +kernel, by decide +kernel⟩
theorem ok_readLine {f fN fE fB : Addr} {fd fdN fdE fdB : FuncData} (F : Fun K "read_line" "read_line" sReadLine f fd) (CN : Cal P w K mg base 1 "is_name" fN fdN ["thing"] (spTest isName)) (CE : Cal P w K mg base 7 "read_named_expression" fE fdE ["word", "rest"] (spReadNamed K)) (CB : Cal P w K mg base 7 "read_block_head" fB fdB ["word", "rest"] (spReadHead K)) :
    FnOk P w K mg base CX0 8 f fd ["text"] (spReadLine K) := by
  refine F.ok scRl (fun vs H Q E h => ?_) (fun cdv A outer s H vs Q E hr h => ?_)
  · obtain ⟨_, _, rfl, _⟩ := h
    rfl
  · obtain ⟨z, o, rfl, hz, ⟨T, hT, rfl⟩, k⟩ := h
    have hr1 : Room 1 _ := hr.mono (by decide)
    refine ⟨_, (pss_cons (ps_if (pt_cmpR op_in_seq (pv 0) (pe_tup (pa_cons pe_str (pa_cons pe_str (pa_cons pe_str pa_nil)))) rfl) (pss_one (ps_ret (pe_tup (pa_cons (pv 0) pa_nil)))) pss_nil) (pss_cons (ps_asg (pe_partition (pv 0) pe_str) (pg_tup rfl (pgs_cons (pg_name (i := 1) scRl.nd rfl (.inl rfl)) (pgs_cons (pg_name (i := 2) scRl.nd rfl (.inl rfl)) (pgs_cons (pg_name (i := 3) scRl.nd rfl (.inl rfl)) pgs_nil))))) (pss_cons (ps_if (pt_cmpR op_in_seq (pv 1) (pe_tup (pa_cons pe_str (pa_cons pe_str (pa_cons pe_str pa_nil)))) rfl) (pss_one (ps_ret (pe_ifExp (pt_val (pe_call CN.ok hr1 rfl CN.mg CN.kp CN.bi .nil pass0 (pa_cons (pv 3) pa_nil))) (pe_tup (pa_cons (pv 1) (pa_cons (pv 3) pa_nil))) pe_non))) pss_nil) (pss_cons (ps_if (pt_cmpR op_eq (pv 1) pe_str (nomark _)) (pss_cons (ps_asg (pe_partition (pv 3) pe_str) (pg_tup rfl (pgs_cons (pg_name (i := 4) scRl.nd rfl (.inl rfl)) (pgs_cons (pg_name (i := 2) scRl.nd rfl (.inl rfl)) (pgs_cons (pg_name (i := 5) scRl.nd rfl (.inl rfl)) pgs_nil))))) (pss_one (ps_ret (pe_ifExp (PW.pt (pw_and (pt_val (pe_call CN.ok hr1 rfl CN.mg CN.kp CN.bi .nil pass0 (pa_cons (pv 4) pa_nil))) (pw_and1 (pt_val (pe_call CN.ok hr1 rfl CN.mg CN.kp CN.bi .nil pass0 (pa_cons (pv 5) pa_nil)))))) (pe_tup (pa_cons (pv 1) (pa_cons (pv 4) (pa_cons (pv 5) pa_nil)))) pe_non)))) pss_nil) (pss_cons (ps_if (PW.pt (pw_or (pt_cmpR op_eq (pv 1) pe_str (nomark _)) (pw_or1 (pt_cmpR op_eq (pv 1) pe_str (nomark _))))) (pss_one (ps_ret (pe_call CE.ok hr rfl CE.mg CE.kp CE.bi .nil pass0 (pa_cons (pv 1) (pa_cons (pv 3) pa_nil))))) pss_nil) (pss_cons (ps_if (PW.pt (pw_or (pt_cmpR op_eq (pv 1) pe_str (nomark _)) (pw_or1 (pt_cmpR op_eq (pv 1) pe_str (nomark _))))) (pss_one (ps_ret (pe_call CB.ok hr rfl CB.mg CB.kp CB.bi .nil pass0 (pa_cons (pv 1) (pa_cons (pv 3) pa_nil))))) pss_nil) (pss_one (ps_ret pe_non)))))))), ?_⟩
    obtain ⟨l1, l2⟩ := par_len z
    obtain ⟨l3, l4⟩ := par_len (par z).2.2
    have lz : ∀ n, n ≤ z.length → n ≤ 100000 := fun n h => Nat.le_trans h (Nat.le_trans hz (by decide))
    refine ⟨_, rfl, (by show 3 ≤ sizeLine; decide), fun q nq => ⟨q, soloL.map V.str, rfl, .inr (SqT.of upd_same), rfl, flat_strs _, _, rfl, ?_⟩⟩
    have s1 := same_new (o := HO.tup (soloL.map V.str)) nq
    rw [inV_cont]
    unfold lineF at k
    cases hs : soloL.contains z with
    | true =>
      rw [if_pos hs] at k
      refine iteTc rfl ⟨_, rfl, (by show 1 ≤ sizeLine; decide), fun q2 nq2 => k _ _ (s1.trans (same_new nq2)) ?_⟩
      rcases solo_no hs with rfl | rfl | rfl
      all_goals exact .tup (SqT.of upd_same) (.cons (.str _) .nil)
    | false =>
    rw [if_neg (by rw [hs]; decide)] at k
    refine iteFc rfl ⟨_, rfl, ⟨_, rfl⟩, z, " ", rfl, rfl, by decide +kernel, Nat.le_trans hz (by decide), fun p np => ⟨p, _, rfl, SqT.of upd_same, rfl, _, _, rfl, _, _, rfl, _, _, rfl, rfl, ?_⟩⟩
    have s2 : Same H (upd (upd H q (HO.tup [V.str "checkpoint", V.str "else", V.str "end"])) p (.tup [.str (Txt.partition z " ").1, .str (Txt.partition z " ").2.1, .str (Txt.partition z " ").2.2])) := s1.trans (same_new np)
    generalize upd (upd H q (HO.tup [V.str "checkpoint", V.str "else", V.str "end"])) p (.tup [.str (Txt.partition z " ").1, .str (Txt.partition z " ").2.1, .str (Txt.partition z " ").2.2]) = H2 at s2 ⊢
    refine ⟨_, rfl, (by show 3 ≤ sizeLine; decide), fun q nq => ⟨q, oneL.map V.str, rfl, .inr (SqT.of upd_same), rfl, flat_strs _, _, rfl, ?_⟩⟩
    have s3 : Same H (upd H2 q (HO.tup [V.str "process", V.str "take", V.str "input"])) := s2.trans (same_new nq)
    generalize upd H2 q (HO.tup [V.str "process", V.str "take", V.str "input"]) = H3 at s3 ⊢
    rw [inV_cont]
    cases ho : oneL.contains (par z).1 with
    | true =>
      rw [if_pos ho] at k
      refine iteTc rfl ⟨_, rfl, _, rfl, lz _ l2, fun H4 s4 => ⟨_, rfl, ?_⟩⟩
      have s34 := s3.trans s4
      cases hn : isName (cod (par z).2.2) with
      | false =>
        rw [if_neg (by rw [hn]; decide)] at k
        exact iteFc rfl (k _ _ s34 rfl)
      | true =>
        rw [if_pos hn] at k
        refine iteTc rfl ⟨_, rfl, _, rfl, (by show 2 ≤ sizeLine; decide), fun q nq => k _ _ (s34.trans (same_new nq)) ?_⟩
        have e := one_no ho
        generalize (par z).1 = wd at e
        rcases e with rfl | rfl | rfl
        all_goals exact .tup (SqT.of upd_same) (.cons (.str _) (.cons (.str _) .nil))
    | false =>
    rw [if_neg (by rw [ho]; decide)] at k
    refine iteFc rfl ⟨_, rfl, rfl, _, rfl, ?_⟩
    have dSw : ∀ x y : Str, decide (V.str x = V.str y) = decide (x = y) := fun x y => by
      rw [decide_eq_decide]
      exact ⟨fun h => by injection h, fun h => by rw [h]⟩
    rw [dSw]
    by_cases hr : (par z).1 = "receive"
    · rw [if_pos hr] at k
      refine iteTc (decide_eq_true hr) ⟨_, rfl, ⟨_, rfl⟩, (par z).2.2, " ", rfl, rfl, by decide +kernel, Nat.le_trans (lz _ l2) (by decide), fun p np => ⟨p, _, rfl, SqT.of upd_same, rfl, _, _, rfl, _, _, rfl, _, _, rfl, rfl, ?_⟩⟩
      have s4 := s3.trans (same_new (o := .tup [.str (Txt.partition (par z).2.2 " ").1, .str (Txt.partition (par z).2.2 " ").2.1, .str (Txt.partition (par z).2.2 " ").2.2]) np)
      refine ⟨_, rfl, _, rfl, lz _ (Nat.le_trans l3 l2), fun H5 s5 => ⟨_, rfl, ?_⟩⟩
      have s45 := s4.trans s5
      cases hn : isName (cod (par (par z).2.2).1) with
      | false =>
        rw [if_neg (by rw [hn]; simp)] at k
        exact iteFc rfl (iteFc rfl (k _ _ s45 rfl))
      | true =>
        refine iteTc rfl ⟨_, rfl, _, rfl, lz _ (Nat.le_trans l4 l2), fun H6 s6 => ⟨_, rfl, ?_⟩⟩
        have s46 := s45.trans s6
        cases hm : isName (cod (par (par z).2.2).2.2) with
        | false =>
          rw [if_neg (by rw [hm]; simp)] at k
          exact iteFc rfl (k _ _ s46 rfl)
        | true =>
          rw [if_pos ⟨hn, hm⟩] at k
          refine iteTc rfl ⟨_, rfl, _, rfl, _, rfl, (by show 3 ≤ sizeLine; decide), fun q nq => k _ _ (s46.trans (same_new nq)) ?_⟩
          rw [hr]
          exact .tup (SqT.of upd_same) (.cons (.str _) (.cons (.str _) (.cons (.str _) .nil)))
    rw [if_neg hr] at k
    refine iteFc (decide_eq_false hr) ⟨_, rfl, rfl, _, rfl, ?_⟩
    rw [dSw]
    have aT : argC z = false → argT z = (par (par z).2.2).2.2 := fun e => by unfold argT; rw [if_neg (by rw [e]; decide)]
    have aC : argC z = true → argT z = (par z).2.2 := fun e => by unfold argT; rw [if_pos e]
    have namC : ∀ (mkS : Str → Tr → Stp), argC z = false → (∀ x t, (mkS x t).data = .tuple [.str (par z).1, .str x, t.data]) → (∀ v H', Same H H' → OptD K H' v (Option.map Stp.data (if isName (cod (par (par z).2.2).1) = true then T.map (mkS (par (par z).2.2).1) else none)) → Q v H') → spReadNamed K [.str (par z).1, .str (par z).2.2] H3 Q E0 := fun mkS e hm k => by
      rw [e, aT e] at hT
      refine ⟨_, _, T, rfl, Nat.le_trans l2 hz, hT, fun v H' sm ho => k v H' (s3.trans sm) ?_⟩
      unfold namedO at ho
      split
      · rename_i hn
        rw [if_pos hn] at ho
        cases T with
        | none => exact ho
        | some t => simp only [Option.map_some] at ho ⊢; rw [hm]; exact ho
      · rename_i hn
        rw [if_neg hn] at ho
        exact ho
    by_cases h1 : (par z).1 = "set"
    · rw [if_pos h1] at k
      refine iteTc (decide_eq_true h1) ⟨_, rfl, _, rfl, namC .set ?_ ?_ k⟩
      · unfold argC; rw [h1]; decide +kernel
      · intro x t; rw [h1]; rfl
    rw [if_neg h1] at k
    refine iteFc (decide_eq_false h1) ⟨_, rfl, rfl, _, rfl, ?_⟩
    rw [dSw]
    by_cases h2 : (par z).1 = "send"
    · rw [if_pos h2] at k
      refine iteTc (decide_eq_true h2) ⟨_, rfl, _, rfl, namC .send ?_ ?_ k⟩
      · unfold argC; rw [h2]; decide +kernel
      · intro x t; rw [h2]; rfl
    rw [if_neg h2] at k
    refine iteFc (decide_eq_false h2) ⟨_, rfl, rfl, _, rfl, ?_⟩
    rw [dSw]
    have hdC : ∀ (mkS : Tr → Stp), argC z = true → (∀ t, (mkS t).data = .tuple [.str (par z).1, t.data]) → (∀ v H', Same H H' → OptD K H' v (Option.map Stp.data (T.map mkS)) → Q v H') → spReadHead K [.str (par z).1, .str (par z).2.2] H3 Q E0 := fun mkS e hm k => by
      rw [e, aC e] at hT
      refine ⟨_, _, T, rfl, Nat.le_trans l2 hz, hT, fun v H' sm ho => k v H' (s3.trans sm) ?_⟩
      cases T with
      | none => exact ho
      | some t => simp only [Option.map_some] at ho ⊢; rw [hm]; exact ho
    by_cases h3 : (par z).1 = "if"
    · rw [if_pos h3] at k
      refine iteTc (decide_eq_true h3) ⟨_, rfl, _, rfl, hdC .iff ?_ ?_ k⟩
      · unfold argC; rw [h3]; decide +kernel
      · intro t; rw [h3]; rfl
    rw [if_neg h3] at k
    refine iteFc (decide_eq_false h3) ⟨_, rfl, rfl, _, rfl, ?_⟩
    rw [dSw]
    by_cases h4 : (par z).1 = "while"
    · rw [if_pos h4] at k
      refine iteTc (decide_eq_true h4) ⟨_, rfl, _, rfl, hdC .whil ?_ ?_ k⟩
      · unfold argC; rw [h4]; decide +kernel
      · intro t; rw [h4]; rfl
    rw [if_neg h4] at k
    exact iteFc (decide_eq_false h4) (k _ _ s3 rfl)
end
end XE

set_option Elab.async false
set_option linter.all false
set_option maxRecDepth 100000
set_option maxHeartbeats 4000000
namespace XE
open PySem PySem.Spec PyProof.Rows L2 Rx SX
section
variable {P : Program} {w : World} {K : PySem.W.Frag} {mg : Str → Option Value} {base : Heap}
abbrev cBadProgram : Stmt := topS 13
abbrev sBadProgram : Stmt := inClass cBadProgram 0
theorem scBadProgram : ScopeS ["self", "line", "reason"] ["self", "line", "reason"] (defScope sBadProgram) := ⟨rfl, rfl, rfl, by decide +kernel, rfl, by decide +kernel, by decide +kernel, by decide +kernel, rfl, rfl⟩
theorem okBadProgram {f C cda cc fF : Addr} {fd fdF : FuncData} (F : SupFn K "BadProgram.__init__" sBadProgram f cda cc fd) (T : SupC P K C cda cc) (CF : Cal P w K mg base 1 "frozen" fF fdF ["thing"] (spFrozen K)) (no : ∀ g ∈ (["line", "reason"] : List Str), PySem.W.findIn K (.ref C) g = some none) :
    FnOk P w K mg base CX0 2 f fd ["self", "line", "reason"] (spInit K C ["line", "reason"]) := by
  refine F.ok scBadProgram T rfl rfl rfl spInit_len spInit_self (fun _ => rfl) (fun _ => rfl) (fun _ => ⟨_, rfl⟩) (fun A outer s H vs Q E hr h => ?_)
  obtain ⟨a, ws, ds, rfl, hl, ha, hd, hz, k⟩ := h
  refine ⟨_, pss_cons (ps_ost (pv 0) (pe_call CF.ok hr rfl CF.mg CF.kp CF.bi .nil pass0 (pa_cons (pv 1) pa_nil))) (pss_one (ps_ost (pv 0) (pe_call CF.ok hr rfl CF.mg CF.kp CF.bi .nil pass0 (pa_cons (pv 2) pa_nil)))), ?_⟩
  match ws, ds, hl, hd with
  | [v0, v1], _, _, @DpAll.cons _ _ _ _ d0 _ h0 (@DpAll.cons _ _ _ _ d1 _ h1 (.nil)) =>
    have z0 : sz d0 ≤ 1000 := hz _ (by simp)
    have z1 : sz d1 ≤ 1000 := hz _ (by simp)
    refine ⟨_, rfl, v0, d0, rfl, h0, z0, fun G0 u0 s0 r0 => ⟨_, rfl, a, C, rfl, T.oex, no _ (by simp), .inl ⟨s0 _ _ ha, fun dx hdx nda => ?_⟩⟩⟩
    have e0 : ∀ b o, H b = some o → b ≠ a → upd (upd G0 dx (exd dx [("line", u0)])) a (exo a C (some dx)) b = some o := fun b o e nb => by rw [upd_ne nb, upd_ne (ne_of_none (s0 _ _ e) hdx)]; exact s0 _ _ e
    have k0 : Keeps G0 (upd (upd G0 dx (exd dx [("line", u0)])) a (exo a C (some dx))) := (keeps_new hdx).trans (keeps_ext (φ := _) (by rw [upd_ne nda.symm]; exact s0 _ _ ha))
    have r0' := dp_keep k0.1 k0.2 r0 (fix_noList _)
    have ax : upd (upd G0 dx (exd dx [("line", u0)])) a (exo a C (some dx)) a = some (exo a C (some dx)) := upd_same
    have dxx : upd (upd G0 dx (exd dx [("line", u0)])) a (exo a C (some dx)) dx = some (exd dx [("line", u0)]) := by rw [upd_ne nda, upd_same]
    have hdn : H dx = none := s0.free hdx
    generalize upd (upd G0 dx (exd dx [("line", u0)])) a (exo a C (some dx)) = L0 at e0 r0' ax dxx ⊢
    have h1L := dp_but (a := a) (φ := _) ha e0 h1
    refine ⟨_, rfl, v1, d1, rfl, h1L, z1, fun G1 u1 s1 r1 => ⟨_, rfl, a, C, rfl, T.oex, no _ (by simp), .inr ⟨dx, _, s1 _ _ ax, s1 _ _ dxx, (by show 1 ≤ 900; decide), ?_⟩⟩⟩
    have e1 : ∀ b o, H b = some o → b ≠ a → upd G1 dx (exd dx (("reason", u1) :: [("line", u0)])) b = some o := fun b o e nb => by rw [upd_ne (ne_of_none e hdn)]; exact s1 _ _ (e0 b o e nb)
    have k1 : Keeps G1 (upd G1 dx (exd dx (("reason", u1) :: [("line", u0)]))) := keeps_ext (φ := _) (s1 _ _ dxx)
    have r1' := dp_keep k1.1 k1.2 r1 (fix_noList _)
    have r0' := dp_keep k1.1 k1.2 (dp_same s1 r0') (fix_noList _)
    have ax : upd G1 dx (exd dx (("reason", u1) :: [("line", u0)])) a = some (exo a C (some dx)) := by rw [upd_ne (fun z => nda z.symm)]; exact s1 _ _ ax
    have dxx : upd G1 dx (exd dx (("reason", u1) :: [("line", u0)])) dx = some (exd dx (("reason", u1) :: [("line", u0)])) := upd_same
    generalize upd G1 dx (exd dx (("reason", u1) :: [("line", u0)])) = L1 at e1 r0' r1' ax dxx ⊢
    exact k L1 dx [u0, u1] hdn ax dxx (.cons r0' (.cons r1' (.nil))) e1 rfl
theorem biBadProgram {f cda cc : Addr} {fd : FuncData} (F : SupFn K "BadProgram.__init__" sBadProgram f cda cc fd) : Binds K fd ["self", "line", "reason"] [] := by
  obtain ⟨oc, od, kV, doc, pm, an, ct, osl, rfl, _, _⟩ := F.ex
  exact .all (fun us hl => match us, hl with | [_, _, _], _ => rfl)
theorem bpBadProgram {f cda cc : Addr} {fd : FuncData} (F : SupFn K "BadProgram.__init__" sBadProgram f cda cc fd) : KBn K fd ("self" :: ["line", "reason"]) ((["line", "reason"] : List Str).length + 1) [] gB gB := by
  obtain ⟨oc, od, kV, doc, pm, an, ct, osl, rfl, _, _⟩ := F.ex
  exact ⟨fun s us ws _ l1 l2 => match us, ws, l1, l2 with | [_, _, _], [], _, _ => .of_eq rfl, gB_rel⟩
theorem bkBadProgram {f cda cc : Addr} {fd : FuncData} (F : SupFn K "BadProgram.__init__" sBadProgram f cda cc fd) : KBn K fd ("self" :: ["line", "reason"]) 1 (["line", "reason"] : List Str).reverse gB gB := by
  obtain ⟨oc, od, kV, doc, pm, an, ct, osl, rfl, _, _⟩ := F.ex
  exact ⟨fun s us ws _ l1 l2 => match us, ws, l1, l2 with | [_], [_, _], _, _ => .of_eq rfl, gB_rel⟩
end
end XE

set_option Elab.async false
set_option linter.all false
set_option maxRecDepth 100000
set_option maxHeartbeats 1000000
namespace Rx
open PySem PySem.Spec PyProof.Rows L2 SX
theorem mk_readN {K : PySem.W.Frag} {C : Addr} {fs : List Str} {H : Hp} {vs : List V} {ps : List PyData} {Q : XK} (hd : DpAll K H vs ps) (hl : vs.length = fs.length) (hz : ∀ d ∈ ps, sz d ≤ 1000) (h1000 : fs.length ≤ 1000)
    (k : ∀ (H' : Hp) (dx : Addr) (us : List V), Same H H' → H dx = none → H' dx = some (.xd (fs.zip us).reverse) → DpAll K H' us (fixAll ps) → us.length = fs.length → Q (.ref C) (some dx) H') :
    vs.length ≤ 1000 ∧ ∀ a, H a = none → spInit K C fs (.ref a :: (vs ++ [])) (upd H a (exo a C none))
      (fun x H2 => x = .non ∧ ∃ (dx : Addr) (fs : List (Str × V)), H2 a = some (exo a C (some dx)) ∧ H2 dx = some (exd dx fs) ∧ H dx = none ∧ Q (.ref C) (some dx) (upd (del H2 a) dx (.xd fs))) (fun _ _ _ => False) := by
  refine ⟨by rw [hl]; exact h1000, fun a ha => ?_⟩
  rw [List.append_nil]
  refine ⟨a, vs, ps, rfl, hl, upd_same, dpAll_same (same_new ha) hd, hz, fun H' dx us h0 h1 h2 h3 h4 h5 => ⟨rfl, ?_⟩⟩
  have hda : dx ≠ a := fun z => by rw [z, upd_same] at h0; cases h0
  have hdn : H dx = none := by rw [upd_ne hda] at h0; exact h0
  have sm : Same H (upd (del H' a) dx (.xd (fs.zip us).reverse)) := fun b o e => by
    have ba := ne_of_none e ha
    rw [upd_ne (ne_of_none e hdn), del_ne ba]
    exact h4 b o (by rw [upd_ne ba]; exact e) ba
  refine ⟨dx, (fs.zip us).reverse, h1, h2, hdn, k _ dx us sm hdn upd_same ?_ h5⟩
  refine dpAll_keep (fun b xs e => ?_) (fun b ob w e => ?_) h3 (fixAll_noList _)
  · have n1 : b ≠ a := fun z => by rw [z, h1] at e; cases e
    have n2 : b ≠ dx := fun z => by rw [z, h2] at e; cases e
    rw [upd_ne n2, del_ne n1]
    exact e
  · have n1 : b ≠ a := fun z => by rw [z, h1] at e; cases e
    have n2 : b ≠ dx := fun z => by rw [z, h2] at e; cases e
    rw [upd_ne n2, del_ne n1]
    exact e

/-! ### the error for a program's line -/
def BadAt (CP : Addr) (H : Hp) (n : Nat) (r : Str) (E : XK) : Prop := ∀ (H' : Hp) (dx : Addr), Same H H' → H dx = none → H' dx = some (.xd [("reason", .str r), ("line", .int (n : Nat))]) → E (.ref CP) (some dx) H'
theorem BadAt.same {CP : Addr} {H H1 : Hp} {n : Nat} {r : Str} {E : XK} (h : BadAt CP H n r E) (s : Same H H1) : BadAt CP H1 n r E := fun H' dx sm hd hx => h H' dx (s.trans sm) (s.free hd) hx
theorem mk_bad {K : PySem.W.Frag} {CP : Addr} {H H0 : Hp} {n : Nat} {r : Str} {E : XK} (h : BadAt CP H0 n r E) (s0 : Same H0 H) :
    [V.int (n : Nat), V.str r].length ≤ 1000 ∧ ∀ a, H a = none → spInit K CP ["line", "reason"] (.ref a :: ([V.int (n : Nat), V.str r] ++ [])) (upd H a (exo a CP none))
      (fun x H2 => x = .non ∧ ∃ (dx : Addr) (fs : List (Str × V)), H2 a = some (exo a CP (some dx)) ∧ H2 dx = some (exd dx fs) ∧ H dx = none ∧ E (.ref CP) (some dx) (upd (del H2 a) dx (.xd fs))) (fun _ _ _ => False) := by
  refine mk_readN (ps := [.int (n : Nat), .str r]) (.cons (.int _) (.cons (.str _) .nil)) rfl (fun d hd => ?_) (by decide) (fun H' dx us sm hdx hx hu hl => ?_)
  · simp only [List.mem_cons, List.not_mem_nil, or_false] at hd
    rcases hd with rfl | rfl <;> simp [sz]
  · match us, hu with
    | [u0, u1], .cons h0 (.cons h1 .nil) =>
      have e0 := dpI h0
      have e1 := dpS h1
      subst e0 e1
      exact h H' dx (s0.trans sm) (s0.free hdx) hx
/-- for i, x in enumerate(xs) -/
theorem for_enum {K : PySem.W.Frag} {a : Addr} {xs : List V} {g : TG} {tb : TS} {D : Ends} {σ : L2.St} {H : Hp} (Pv : Nat → L2.St → Hp → Prop) (h0 : Pv 0 σ H) (hl : ∀ i σ H, i ≤ xs.length → Pv i σ H → SqL K H a xs)
    (hs : ∀ i x σ H, xs[i]? = some x → Pv i σ H → ∀ T, H T = none → g (.ref T) σ (upd H T (.tup [.int (i : Nat), x])) fun σ2 H2 => tb { D with nx := Pv (i + 1), ct := Pv (i + 1), bk := D.nx } σ2 H2) (hd : ∀ σ H, Pv xs.length σ H → D.nx σ H) :
    ∃ W : Nat → Nat → L2.St → Hp → Prop, (∃ m, W 0 m σ H) ∧ ∀ (i m : Nat) (σ : L2.St) (H : Hp), W i m σ H → (Ite K a).stop i H ∧ D.nx σ H ∨ (Ite K a).go i H ∧ ∃ N : L2.St → Hp → Prop, (∀ σ' H', N σ' H' → ∃ m', m' < m ∧ W (i + 1) m' σ' H') ∧ ∀ x H', (Ite K a).yld i H x H' → g x σ H' fun σ2 H2 => tb { nx := N, rt := D.rt, bk := D.nx, ct := N } σ2 H2 := by
  refine for_it walk_enum Pv h0 hl (fun i x σ H H' hi hp hy => ?_) hd
  obtain ⟨T, u, v, rfl, hT, rfl, h1, h2⟩ := hy
  injection h1 with h1
  subst h1
  exact hs i v σ H h2 hp T hT
end Rx

set_option Elab.async false
set_option linter.all false
set_option maxRecDepth 100000
set_option maxHeartbeats 1000000
namespace Rx
open PySem PySem.Spec PyProof.Rows L2 SX
/-! ### xs[:0:-1]: all but the first one, backwards -/
theorem rs_map (n : Nat) : (List.range (n - 1)).map (fun k => n - 1 - k) = ((List.range (n - 1)).map (1 + ·)).reverse := by
  apply List.ext_getElem
  · simp
  · intro i h1 h2
    simp only [List.length_map, List.length_range] at h1
    simp only [List.getElem_map, List.getElem_range, List.getElem_reverse, List.length_map, List.length_range]
    omega
theorem rs_all {α : Type} (xs : Array α) : ((List.range (xs.size - 1)).map (fun k => xs.size - 1 - k)).filterMap (xs[·]?) = (xs.toList.drop 1).reverse := by
  rw [rs_map, List.filterMap_reverse, pick_run xs 1 (xs.size - 1), List.take_of_length_le (by rw [List.length_drop, Array.length_toList]; exact Nat.le_refl _)]
theorem rs_range (n : Nat) : sliceRange ((n : Int) - 1) (max (-1) (min 0 ((n : Int) - 1))) (-1) = (List.range (n - 1)).map fun k => n - 1 - k := by
  unfold sliceRange
  have h1 : ¬ ((-1 : Int) > 0) := by decide
  simp only [h1, if_false]
  by_cases h : (n : Int) - 1 > 0
  · have e0 : max (-1) (min 0 ((n : Int) - 1)) = 0 := by omega
    rw [e0]
    have e : ((n : Int) - 1 - 0 - -1 - 1) / (- -1) = ((n - 1 : Nat) : Int) := by
      rw [show (- -1 : Int) = 1 by decide, Int.ediv_one]
      omega
    simp only [h, if_true, e, Int.toNat_natCast]
    apply List.map_congr_left
    intro k hk
    have := List.mem_range.mp hk
    omega
  · have e : ¬ ((n : Int) - 1 > max (-1) (min 0 ((n : Int) - 1))) := by omega
    simp only [e, if_false]
    have : n - 1 = 0 := by omega
    rw [this]
    rfl
theorem rs_pick (items : Array Value) : slicePick items none (some 0) (some (-1)) = (items.toList.drop 1).reverse.toArray := by
  unfold slicePick
  have e : sliceBounds none (some 0) (some (-1)) items.size = ((items.size : Int) - 1, max (-1) (min 0 ((items.size : Int) - 1)), -1) := by
    first
    | rfl
    | simp [sliceBounds]
  rw [e]
  show ((sliceRange ((items.size : Int) - 1) (max (-1) (min 0 ((items.size : Int) - 1))) (-1)).filterMap (items[·]?)).toArray = _
  rw [rs_range, rs_all]
section
variable {prog : Program} {w : World} {A : Around} {E : Value → Shared → Prop} {s : Shared}
theorem rs_applied {sl : Addr} {vl vu vs : Value} {n : Nat} {Q : Int × Int × Nat → Shared → Prop} (hn : 1 ≤ n) (hs : s.heap.IsSliceOf sl vl vu vs) (pl : IsPart vl none) (pu : IsPart vu (some 0)) (ps : IsPart vs (some (-1)))
    (h : Q ((n : Int) - 1, -1, n - 1) s) : wpAny (model prog w) A (Builtin.Slice.sliceApplied (.ref sl) (pure (n : Int))) Q E s := by
  obtain ⟨os, hos, hcs, hds⟩ := id hs
  unfold Builtin.Slice.sliceApplied Builtin.Slice.sliceFields
  refine wpAny_bind (wpAny_bind (wpAny_field hos hds (x := vl) rfl (wpAny_bind (wpAny_field hos hds (x := vu) rfl (wpAny_bind (wpAny_field hos hds (x := vs) rfl (wpAny_pure ?_)))))))
  refine wpAny_bind (HT.slicePart_ ps ?_)
  show wpAny _ _ (if ((-1 : Int) == 0) = true then _ else _) _ _ s
  rw [if_neg (by decide)]
  refine wpAny_bind (HT.slicePart_ pl (wpAny_bind (HT.slicePart_ pu (wpAny_bind (wpAny_pure ?_)))))
  show wpAny _ _ (match Builtin.Slice.sliceAdjust none (some 0) (-1) (n : Int) with | (lo, hi) => pure (lo, (-1 : Int), Builtin.Slice.slicePlaces lo hi (-1))) _ _ s
  have e : Builtin.Slice.sliceAdjust none (some 0) (-1) (n : Int) = ((n : Int) - 1, min 0 ((n : Int) - 1)) := by
    unfold Builtin.Slice.sliceAdjust
    rfl
  rw [e]
  show wpAny _ _ (pure ((n : Int) - 1, (-1 : Int), Builtin.Slice.slicePlaces ((n : Int) - 1) (min 0 ((n : Int) - 1)) (-1))) _ _ s
  have e2 : Builtin.Slice.slicePlaces ((n : Int) - 1) (min 0 ((n : Int) - 1)) (-1) = n - 1 := by
    unfold Builtin.Slice.slicePlaces
    have h1 : ¬ ((-1 : Int) > 0) := by decide
    simp only [h1, if_false]
    rw [show (- -1 : Int) = 1 by decide, Int.ediv_one]
    split <;> omega
  rw [e2]
  exact wpAny_pure h
theorem rs_pickT (xs : Array Value) : ((List.range (xs.size - 1)).filterMap fun (m : Nat) => xs[((xs.size : Int) - 1 + (m : Int) * (-1)).toNat]?).toArray = (xs.toList.drop 1).reverse.toArray := by
  have e : ((List.range (xs.size - 1)).map fun (m : Nat) => ((xs.size : Int) - 1 + (m : Int) * (-1)).toNat) = (List.range (xs.size - 1)).map (fun k => xs.size - 1 - k) := by
    apply List.map_congr_left
    intro m hm
    have := List.mem_range.mp hm
    omega
  rw [← rs_all, ← e, List.filterMap_map]
  rfl
theorem getItem_tuple_rest {t sl : Addr} {items : Array Value} {vl vu vs : Value} {Q : Value → Shared → Prop} (ht : IsTup s.heap t items) (hs : s.heap.IsSliceOf sl vl vu vs) (pl : IsPart vl none) (pu : IsPart vu (some 0)) (ps : IsPart vs (some (-1))) (hn : 1 ≤ items.size)
    (h : Q (.ref s.heap.objs.size) { s with heap := s.heap.push { cls := .type "tuple", data := .seq (items.toList.drop 1).reverse.toArray } })
    (hsz : items.size ≤ sizeLine) : wpAny (model prog w) A (getItem (.ref t) (.ref sl)) Q E s := by
  have htake : sizeOk (.seq (items.toList.drop 1).reverse.toArray) := by
    show (items.toList.drop 1).reverse.toArray.size ≤ sizeLine
    rw [List.size_toArray, List.length_reverse, List.length_drop, Array.length_toList]
    omega
  obtain ⟨os, hos, hcs, hds⟩ := id hs
  have hTs : s.TypeIs (.ref sl) "slice" := ⟨os, hos, hcs⟩
  unfold getItem
  try with_reducible refine wpAny_holding ?_
  first | refine wpAny_bind (wpAny_pure ?_) | skip
  refine wpAny_bind (wpAny_sequenceKey ht.typeIs (by decide) ?_)
  refine wpAny_bind (wpAny_callSpecial?_slot (name := Str.ofString "__getitem__") ht.typeIs PyProof.Rows.slot_tuple_getitem
    (wpAny_call_entry PyProof.Rows.slot_tuple_getitem ht.typeIs entry_tuple_getitem ?_ (args_tuple_getitem _ _)))
  show wpAny _ _ (Builtin.Tuple.tupleItemsOf (.ref t) >>= _) _ _ s
  refine wpAny_bind (tupleItemsOf_ ht ?_)
  refine wpAny_bind (wpAny_typeOf hTs ?_)
  rw [if_pos (by decide)]
  refine wpAny_bind (rs_applied hn hs pl pu ps ?_)
  have hno : ¬ ((((items.size : Int) - 1) == 0 && (-1 : Int) == 1 && (items.size - 1) == items.size) = true) := by
    intro q
    rw [Bool.and_eq_true, Bool.and_eq_true] at q
    exact absurd q.1.2 (by decide)
  show wpAny _ _ (if (((items.size : Int) - 1) == 0 && (-1 : Int) == 1 && (items.size - 1) == items.size) = true then _ else _) _ _ s
  rw [if_neg hno, rs_pickT]
  first
    | exact wpAny_bind (m := Builtin.Tuple.tupleExact _) (wpAny_newObj_type (wpAny_pure ⟨_, rfl, wpAny_pure h⟩) htake)
    | exact wpAny_bind (m := Builtin.Tuple.tupleExact _) (wpAny_newObj_type (wpAny_bind (wpAny_pure (wpAny_pure ⟨_, rfl, wpAny_pure h⟩))) htake)
    | exact wpAny_bind (wpAny_bind (m := Builtin.Tuple.tupleExact _) (wpAny_newObj_type (wpAny_pure (wpAny_pure ⟨_, rfl, wpAny_pure h⟩)) htake))
    | exact wpAny_bind (wpAny_bind (m := Builtin.Tuple.tupleExact _) (wpAny_newObj_type (wpAny_pure ⟨_, rfl, wpAny_pure h⟩) htake))
end
section
variable {X : Cx}
def tRest (K : PySem.W.Frag) (te : TE) : TE := fun σ H Q => te σ H fun x H1 => ∃ a xs, x = .ref a ∧ xs ≠ [] ∧
  ((SqL K H1 a xs ∧ ∀ p, H1 p = none → Q (.ref p) (upd H1 p (.lst (xs.drop 1).reverse))) ∨ (SqT K H1 a xs ∧ ∀ p, H1 p = none → Q (.ref p) (upd H1 p (.tup (xs.drop 1).reverse))))
theorem pe_rest {e : Expr} {te : TE} {k k0 : Nat} {p0 p1 p2 p3 pos : Pos} (he : PE X e te) : PE X (.Subscript e (.Slice none (some (.Constant (.int 0) k0 p0)) (some (.UnaryOp .USub (.Constant (.int 1) k p1) p2)) p3) pos) (tRest X.K te) := by
  refine ⟨fun pins s σ H Q I h => ?_⟩
  refine Subscript_ (thn (he.run pins s σ H _ I h) fun v s1 ⟨x, H1, I1, r1, q1⟩ => ?_)
  obtain ⟨a, xs, ex, hne, q1⟩ := q1
  subst ex
  cases r1
  have hst : PO X (some (.UnaryOp .USub (.Constant (.int 1) k p1) p2)) (tPart (tUn (rU fun i => .int (-i)) (tC (.int 1)))) := po_some (pe_un un_neg pe_int)
  have h0 : PO X (some (.Constant (.int 0) k0 p0)) (tPart (tC (.int 0))) := po_some pe_int
  refine wpAny_Slice (thn (po_none.run pins s1 σ H1 (fun o H2 => o = none ∧ H2 = H1) I1 ⟨rfl, rfl⟩) fun vl s2 ⟨l, H2, I2, pl, el, e2⟩ => ?_)
  subst el e2
  refine thn (h0.run pins s2 σ H2 (fun o H3 => o = some 0 ∧ H3 = H2) I2 ⟨0, rfl, rfl, rfl⟩) fun vu s3 ⟨u, H3, I3, pu, eu, e3⟩ => ?_
  subst eu e3
  refine thn (hst.run pins s3 σ H3 (fun o H4 => o = some (-1) ∧ H4 = H3) I3 ⟨1, rfl, -1, rfl, rfl, rfl⟩) fun vs s4 ⟨o, H4, I4, ps, eo, e4⟩ => ?_
  subst eo e4
  have I5 : Inv X pins σ H4 { s4 with heap := s4.heap.push { cls := .type "slice", data := .fields #[vl, vu, vs] } } := I4.kept (t' := s4.toks) fun b ob q => Heap.get?_push_of_some _ q
  show wpAny (model X.prog X.w) X.A (subscriptTail e (.Slice none (some (.Constant (.int 0) k0 p0)) (some (.UnaryOp .USub (.Constant (.int 1) k p1) p2)) p3) (.ref a) (.ref s4.heap.objs.size)) (EP X pins σ Q) X.xe { s4 with heap := s4.heap.push { cls := .type "slice", data := .fields #[vl, vu, vs] } }
  rcases q1 with ⟨hx, q⟩ | ⟨hx, q⟩
  · obtain ⟨its, r, ht, hz⟩ := I5.list hx
    have hlen := r.length
    refine tail_any (ops := [.ref a, .ref s4.heap.objs.size]) ht.isList.typeIs (PySem.slot_list_getitem.lookup) ?_ (by with_unfolding_all rfl)
    refine wpAny_getItem_list_slice ht.isList (Heap.IsSliceOf.new _ vl vu vs) pl pu ps (by decide) ?_ (by rw [List.size_toArray]; omega)
    rw [rs_pick]
    refine ⟨.ref _, _, I5.laid (t' := s4.toks) (o := .lst (xs.drop 1).reverse) (fun b ob q => Heap.get?_push_of_some _ q) (Nat.le_refl _) ?_, rfl, q _ (I5.hok.fresh (Nat.le_refl _))⟩
    exact ⟨by rw [List.length_reverse, List.length_drop]; omega, _, 0, (r.drop 1).reverse, Heap.get?_push_size _ rfl⟩
  · obtain ⟨its, r, ht, hz⟩ := I5.tuple hx
    have hlen : its.toArray.size = xs.length := by rw [List.size_toArray]; exact r.length.symm
    have hn : 1 ≤ xs.length := by cases xs with | nil => exact absurd rfl hne | cons _ _ => simp
    refine tail_any (ops := [.ref a, .ref s4.heap.objs.size]) ht.typeIs (PyProof.Rows.slot_tuple_getitem.lookup) ?_ (by with_unfolding_all rfl)
    refine getItem_tuple_rest ht (Heap.IsSliceOf.new _ vl vu vs) pl pu ps (by omega) ?_ (by omega)
    refine ⟨.ref _, _, I5.laid (t' := s4.toks) (o := .tup (xs.drop 1).reverse) (fun b ob q => Heap.get?_push_of_some _ q) (Nat.le_refl _) ?_, rfl, q _ (I5.hok.fresh (Nat.le_refl _))⟩
    exact ⟨by rw [List.length_reverse, List.length_drop]; omega, _, (r.drop 1).reverse, IsTup.new _ _⟩
/-- a walk over a list or a tuple -/
def iSq (K : PySem.W.Frag) (tl : TE) : TI := fun σ H R => tl σ H fun x H1 => ∃ a xs, x = .ref a ∧ ((SqL K H1 a xs ∧ R (Itl K a) H1) ∨ (SqT K H1 a xs ∧ R (Itt K a) H1))
theorem pi_sq {tg l : Expr} {tl : TE} (hl : PE X l tl) : PI X tg l (iSq X.K tl) := by
  refine ⟨fun pins s σ H R I h => ?_⟩
  refine thn (hl.run pins s σ H _ I h) fun v s1 ⟨x, H1, I1, r1, q1⟩ => ?_
  obtain ⟨a, xs, e, q⟩ := q1
  subst e
  cases r1
  rcases q with ⟨hq, q⟩ | ⟨hq, q⟩
  · obtain ⟨its, rv, p, hz⟩ := I1.list hq
    refine wpAny_pyIter_list p.isList ?_
    refine ⟨s1.heap.objs.size, [s1.heap.objs.size], _, _, H1, rfl, I1.kept (t' := s1.toks) fun b o e => Heap.get?_push_of_some _ e, turn_list a _, ⟨_, Heap.get?_push_size _ rfl, rfl, rfl⟩, fun b hb => ?_, q⟩
    have e : b = s1.heap.objs.size := by simpa using hb
    subst e
    exact I1.fpOk (Nat.le_refl _) (I1.hok.fresh (Nat.le_refl _))
  · obtain ⟨its, rv, p, hz⟩ := I1.tuple hq
    refine wpAny_pyIter_tuple (show s1.heap.IsTuple a its.toArray from p) ?_
    refine ⟨s1.heap.objs.size, [s1.heap.objs.size], _, _, H1, rfl, I1.kept (t' := s1.toks) fun b o e => Heap.get?_push_of_some _ e, turn_tuple a _, ⟨_, Heap.get?_push_size _ rfl, rfl, rfl⟩, fun b hb => ?_, q⟩
    have e : b = s1.heap.objs.size := by simpa using hb
    subst e
    exact I1.fpOk (Nat.le_refl _) (I1.hok.fresh (Nat.le_refl _))
/-- // by any divisor but 0, of less than 9000 bits -/
theorem op_fdivX : OpR X (binaryOp .FloorDiv) (rI (fun _ j => j ≠ 0 ∧ j.natAbs.log2 < 9000) fun i j => .int (i.fdiv j)) := opI fun _ _ _ _ _ _ _ hc q => floordiv_int hc.1 q (.inl (PyProof.noPylong_of_log2 hc.2))
end
end Rx

set_option Elab.async false
set_option linter.all false
set_option maxRecDepth 100000
set_option maxHeartbeats 1000000
namespace Rx
open PySem PySem.Spec PyProof.Rows L2 SX
/-! ### values of trees -/
abbrev Lt30 (i : Int) : Prop := i.natAbs < 10 ^ 30
def addT (w : Str) (i j : Int) : Int := if w = "+" then i + j else if w = "-" then i - j else i * j
def calcT (w : Str) (i j : Int) : Except Str Int :=
  if w = "//" ∨ w = "mod" then (if j = 0 then .error "division" else .ok (if w = "//" then i.fdiv j else i.fmod j))
  else if (addT w i j).natAbs < 10 ^ 30 then .ok (addT w i j) else .error "overflow"
def cmpT (w : Str) (i j : Int) : Bool :=
  if w = "=" then decide (i = j) else if w = "!=" then !decide (i = j) else if w = "<" then decide (i < j) else if w = "<=" then decide (i ≤ j) else if w = ">" then decide (i > j) else decide (i ≥ j)
inductive PreR : Str → V → V → Prop where
  | neg (i : Int) : PreR "negate" (.int i) (.int (-i))
  | not (b : Bool) : PreR "not" (.bl b) (.bl (!b))
inductive BinR : Str → V → V → Except Str V → Prop where
  | ari {w : Str} {i j x : Int} : w ∈ arithL → Lt30 i → Lt30 j → calcT w i j = .ok x → BinR w (.int i) (.int j) (.ok (.int x))
  | ariE {w e : Str} {i j : Int} : w ∈ arithL → Lt30 i → Lt30 j → calcT w i j = .error e → BinR w (.int i) (.int j) (.error e)
  | cmp {w : Str} {i j : Int} : w ∈ compL → BinR w (.int i) (.int j) (.ok (.bl (cmpT w i j)))
  | and (a b : Bool) : BinR "and" (.bl a) (.bl b) (.ok (.bl (a && b)))
  | or (a b : Bool) : BinR "or" (.bl a) (.bl b) (.ok (.bl (a || b)))
inductive Ev (ρ : Str → Int) : Tr → Except Str V → Prop where
  | num (n : Int) : Ev ρ (.num n) (.ok (.int n))
  | var (x : Str) : Ev ρ (.var x) (.ok (.int (ρ x)))
  | pre {w : Str} {a : Tr} {x v : V} : Ev ρ a (.ok x) → PreR w x v → Ev ρ (.pre w a) (.ok v)
  | preE {w e : Str} {a : Tr} : Ev ρ a (.error e) → Ev ρ (.pre w a) (.error e)
  | bin {w : Str} {a b : Tr} {x y : V} {r : Except Str V} : Ev ρ a (.ok x) → Ev ρ b (.ok y) → BinR w x y r → Ev ρ (.bin w a b) r
  | binL {w e : Str} {a b : Tr} : Ev ρ a (.error e) → Ev ρ (.bin w a b) (.error e)
  | binR {w e : Str} {a b : Tr} {x : V} : Ev ρ a (.ok x) → Ev ρ b (.error e) → Ev ρ (.bin w a b) (.error e)
abbrev WI := Tr × Bool
inductive Out (ρ : Str → Int) : List WI → List V → Except Str V → Prop where
  | nil (v : V) : Out ρ [] [v] (.ok v)
  | ev {t : Tr} {v : V} {ws : List WI} {rs : List V} {r : Except Str V} : Ev ρ t (.ok v) → Out ρ ws (v :: rs) r → Out ρ ((t, false) :: ws) rs r
  | evE {t : Tr} {e : Str} {ws : List WI} {rs : List V} : Ev ρ t (.error e) → Out ρ ((t, false) :: ws) rs (.error e)
  | pre {w : Str} {a : Tr} {x v : V} {ws : List WI} {rs : List V} {r : Except Str V} : PreR w x v → Out ρ ws (v :: rs) r → Out ρ ((.pre w a, true) :: ws) (x :: rs) r
  | bin {w : Str} {a b : Tr} {x y v : V} {ws : List WI} {rs : List V} {r : Except Str V} : BinR w x y (.ok v) → Out ρ ws (v :: rs) r → Out ρ ((.bin w a b, true) :: ws) (y :: x :: rs) r
  | binE {w e : Str} {a b : Tr} {x y : V} {ws : List WI} {rs : List V} : BinR w x y (.error e) → Out ρ ((.bin w a b, true) :: ws) (y :: x :: rs) (.error e)
theorem out_start {ρ : Str → Int} {t : Tr} {r : Except Str V} (h : Ev ρ t r) : Out ρ [(t, false)] [] r := by
  cases r with
  | ok v => exact .ev h (.nil v)
  | error e => exact .evE h
theorem out_pre {ρ : Str → Int} {w : Str} {a : Tr} {ws : List WI} {rs : List V} {r : Except Str V} (h : Out ρ ((.pre w a, false) :: ws) rs r) : Out ρ ((a, false) :: (.pre w a, true) :: ws) rs r := by
  cases h with
  | ev h1 h2 => cases h1 with
    | pre h3 h4 => exact .ev h3 (.pre h4 h2)
  | evE h1 => cases h1 with
    | preE h3 => exact .evE h3
theorem out_bin {ρ : Str → Int} {w : Str} {a b : Tr} {ws : List WI} {rs : List V} {r : Except Str V} (h : Out ρ ((.bin w a b, false) :: ws) rs r) : Out ρ ((a, false) :: (b, false) :: (.bin w a b, true) :: ws) rs r := by
  cases h with
  | ev h1 h2 => cases h1 with
    | bin h3 h4 h5 => exact .ev h3 (.ev h4 (.bin h5 h2))
  | evE h1 => cases h1 with
    | bin h3 h4 h5 => exact .ev h3 (.ev h4 (.binE h5))
    | binL h3 => exact .evE h3
    | binR h3 h4 => exact .ev h3 (.evE h4)
theorem out_num {ρ : Str → Int} {n : Int} {ws : List WI} {rs : List V} {r : Except Str V} (h : Out ρ ((.num n, false) :: ws) rs r) : Out ρ ws (.int n :: rs) r := by
  cases h with
  | ev h1 h2 => cases h1; exact h2
  | evE h1 => cases h1
theorem out_var {ρ : Str → Int} {x : Str} {ws : List WI} {rs : List V} {r : Except Str V} (h : Out ρ ((.var x, false) :: ws) rs r) : Out ρ ws (.int (ρ x) :: rs) r := by
  cases h with
  | ev h1 h2 => cases h1; exact h2
  | evE h1 => cases h1
def wiM : WI → Nat
  | (t, false) => t.sz
  | (_, true) => 1
def wiL (ws : List WI) : Nat := (ws.map wiM).sum
theorem wiL_cons (x : WI) (ws : List WI) : wiL (x :: ws) = wiM x + wiL ws := by unfold wiL; rw [List.map_cons, List.sum_cons]
theorem trsz_pos (t : Tr) : 3 ≤ t.sz := by cases t <;> simp [Tr.sz] <;> omega
theorem wiL_len (ws : List WI) : ws.length ≤ wiL ws := by
  induction ws with
  | nil => simp
  | cons p ws ih =>
    rw [wiL_cons, List.length_cons]
    have : 1 ≤ wiM p := by
      obtain ⟨t, b⟩ := p
      cases b with
      | true => exact Nat.le_refl 1
      | false => have := trsz_pos t; show 1 ≤ t.sz; omega
    omega
/-! computed -/
def binC (w : Str) : V → V → Option (Except Str V)
  | .int i, .int j => if w ∈ arithL then (if i.natAbs < 10 ^ 30 ∧ j.natAbs < 10 ^ 30 then some (match calcT w i j with | .ok x => .ok (.int x) | .error e => .error e) else none)
    else if w ∈ compL then some (.ok (.bl (cmpT w i j))) else none
  | .bl a, .bl b => if w = "and" then some (.ok (.bl (a && b))) else if w = "or" then some (.ok (.bl (a || b))) else none
  | _, _ => none
def preCc (w : Str) : V → Option V
  | .int i => if w = "negate" then some (.int (-i)) else none
  | .bl b => if w = "not" then some (.bl (!b)) else none
  | _ => none
theorem binC_ok {w : Str} {x y : V} {r : Except Str V} (h : binC w x y = some r) : BinR w x y r := by
  unfold binC at h
  split at h
  · split at h
    · rename_i hw
      split at h
      · rename_i hb
        injection h with h
        subst h
        cases hc : calcT w _ _ with
        | ok x => exact .ari hw hb.1 hb.2 hc
        | error e => exact .ariE hw hb.1 hb.2 hc
      · cases h
    · split at h
      · rename_i hw
        injection h with h
        subst h
        exact .cmp hw
      · cases h
  · split at h
    · rename_i hw
      injection h with h
      subst h hw
      exact .and _ _
    · split at h
      · rename_i hw
        injection h with h
        subst h hw
        exact .or _ _
      · cases h
  · cases h
theorem preC_ok {w : Str} {x v : V} (h : preCc w x = some v) : PreR w x v := by
  unfold preCc at h
  split at h
  · split at h
    · rename_i hw
      injection h with h
      subst h hw
      exact .neg _
    · cases h
  · split at h
    · rename_i hw
      injection h with h
      subst h hw
      exact .not _
    · cases h
  · cases h
def evC (ρ : Str → Int) : Tr → Option (Except Str V)
  | .num n => some (.ok (.int n))
  | .var x => some (.ok (.int (ρ x)))
  | .pre w a => match evC ρ a with
    | some (.ok x) => (preCc w x).map .ok
    | some (.error e) => some (.error e)
    | none => none
  | .bin w a b => match evC ρ a with
    | some (.ok x) => (match evC ρ b with
      | some (.ok y) => binC w x y
      | some (.error e) => some (.error e)
      | none => none)
    | some (.error e) => some (.error e)
    | none => none
theorem evC_ok {ρ : Str → Int} : ∀ {t : Tr} {r : Except Str V}, evC ρ t = some r → Ev ρ t r
  | .num n, r, h => by injection h with h; subst h; exact .num n
  | .var x, r, h => by injection h with h; subst h; exact .var x
  | .pre w a, r, h => by
    unfold evC at h
    cases e : evC ρ a with
    | none => rw [e] at h; cases h
    | some q =>
      rw [e] at h
      cases q with
      | error z => injection h with h; subst h; exact .preE (evC_ok e)
      | ok x =>
        cases p : preCc w x with
        | none => simp only [p] at h; cases h
        | some v => simp only [p, Option.map_some] at h; injection h with h; subst h; exact .pre (evC_ok e) (preC_ok p)
  | .bin w a b, r, h => by
    unfold evC at h
    cases e : evC ρ a with
    | none => rw [e] at h; cases h
    | some q =>
      rw [e] at h
      cases q with
      | error z => injection h with h; subst h; exact .binL (evC_ok e)
      | ok x =>
        cases e2 : evC ρ b with
        | none => simp only [e2] at h; cases h
        | some q2 =>
          simp only [e2] at h
          cases q2 with
          | error z => injection h with h; subst h; exact .binR (evC_ok e) (evC_ok e2)
          | ok y => exact .bin (evC_ok e) (evC_ok e2) (binC_ok h)
/-! bounds, and that drawn trees have a value -/
theorem fdiv_le (i j : Int) (h : j ≠ 0) : (i.fdiv j).natAbs ≤ i.natAbs := by
  rcases Int.lt_or_gt_of_ne h with g | g
  · rw [← Int.neg_fdiv_neg, Int.fdiv_eq_ediv_of_nonneg (-i) (by omega)]
    have := Int.natAbs_ediv_le_natAbs (-i) (-j)
    omega
  · rw [Int.fdiv_eq_ediv_of_nonneg i (by omega)]
    exact Int.natAbs_ediv_le_natAbs i j
theorem fmod_lt (i j : Int) (h : j ≠ 0) : (i.fmod j).natAbs ≤ j.natAbs := by
  rcases Int.lt_or_gt_of_ne h with g | g
  · have h0 := Int.neg_fmod_neg i j
    have h1 := Int.fmod_nonneg_of_pos (-i) (b := -j) (by omega)
    have h2 := Int.fmod_lt_of_pos (-i) (b := -j) (by omega)
    omega
  · have h1 := Int.fmod_nonneg_of_pos i g
    have h2 := Int.fmod_lt_of_pos i g
    omega
theorem calcT_lt {w : Str} {i j x : Int} (hi : Lt30 i) (hj : Lt30 j) (h : calcT w i j = .ok x) : Lt30 x := by
  unfold calcT at h
  split at h
  · split at h
    · cases h
    · rename_i hj0
      injection h with h
      subst h
      split
      · exact Nat.lt_of_le_of_lt (fdiv_le i j hj0) hi
      · exact Nat.lt_of_le_of_lt (fmod_lt i j hj0) hj
  · split at h
    · injection h with h; subst h; assumption
    · cases h
theorem calcT_err {w e : Str} {i j : Int} (h : calcT w i j = .error e) : e = "division" ∨ e = "overflow" := by
  unfold calcT at h
  split at h
  · split at h
    · injection h with h; exact .inl h.symm
    · cases h
  · split at h
    · cases h
    · injection h with h; exact .inr h.symm
def KindOf (b : Bool) (r : Except Str V) : Prop := match r with
  | .ok v => if b = true then ∃ c, v = .bl c else ∃ i, v = .int i ∧ Lt30 i
  | .error e => e = "division" ∨ e = "overflow"
theorem numL_lt : ∀ n ∈ numL, n.natAbs < 10 ^ 30 := by decide +kernel
theorem ty_ev {ρ : Str → Int} (hρ : ∀ x, Lt30 (ρ x)) {b : Bool} {n : Nat} {t : Tr} (h : Ty b n t) : ∃ r, Ev ρ t r ∧ KindOf b r := by
  induction h with
  | @num k n h => exact ⟨_, .num n, n, rfl, numL_lt n h⟩
  | @var k x h => exact ⟨_, .var x, ρ x, rfl, hρ x⟩
  | neg _ ih =>
    obtain ⟨r, h1, h2⟩ := ih
    cases r with
    | error e => exact ⟨_, .preE h1, h2⟩
    | ok v => obtain ⟨i, rfl, hi⟩ := h2; exact ⟨_, .pre h1 (.neg i), -i, rfl, by show (-i).natAbs < _; rw [Int.natAbs_neg]; exact hi⟩
  | not_ _ ih =>
    obtain ⟨r, h1, h2⟩ := ih
    cases r with
    | error e => exact ⟨_, .preE h1, h2⟩
    | ok v => obtain ⟨c, rfl⟩ := h2; exact ⟨_, .pre h1 (.not c), _, rfl⟩
  | bin hw _ _ i1 i2 =>
    obtain ⟨r, h1, h2⟩ := i1
    cases r with
    | error e => exact ⟨_, .binL h1, h2⟩
    | ok v =>
      obtain ⟨i, rfl, hi⟩ := h2
      obtain ⟨r, g1, g2⟩ := i2
      cases r with
      | error e => exact ⟨_, .binR h1 g1, g2⟩
      | ok u =>
        obtain ⟨j, rfl, hj⟩ := g2
        cases hc : calcT _ i j with
        | ok x => exact ⟨_, .bin h1 g1 (.ari hw hi hj hc), x, rfl, calcT_lt hi hj hc⟩
        | error e => exact ⟨_, .bin h1 g1 (.ariE hw hi hj hc), calcT_err hc⟩
  | cmp hw _ _ i1 i2 =>
    obtain ⟨r, h1, h2⟩ := i1
    cases r with
    | error e => exact ⟨_, .binL h1, h2⟩
    | ok v =>
      obtain ⟨i, rfl, hi⟩ := h2
      obtain ⟨r, g1, g2⟩ := i2
      cases r with
      | error e => exact ⟨_, .binR h1 g1, g2⟩
      | ok u =>
        obtain ⟨j, rfl, hj⟩ := g2
        exact ⟨_, .bin h1 g1 (.cmp hw), _, rfl⟩
  | @log k w a b hw _ _ i1 i2 =>
    obtain ⟨r, h1, h2⟩ := i1
    cases r with
    | error e => exact ⟨_, .binL h1, h2⟩
    | ok v =>
      obtain ⟨i, rfl⟩ := h2
      obtain ⟨r, g1, g2⟩ := i2
      cases r with
      | error e => exact ⟨_, .binR h1 g1, g2⟩
      | ok u =>
        obtain ⟨j, rfl⟩ := g2
        have hw2 : w = "or" ∨ w = "and" := by simpa [logL] using hw
        rcases hw2 with rfl | rfl
        · exact ⟨_, .bin h1 g1 (.or i j), _, rfl⟩
        · exact ⟨_, .bin h1 g1 (.and i j), _, rfl⟩
end Rx

set_option Elab.async false
set_option linter.all false
set_option maxRecDepth 100000
set_option maxHeartbeats 1000000
namespace Rx
open PySem PySem.Spec PyProof.Rows L2 SX
section
variable {X : Cx}
/-- name = {k: v for ..} on one line, the name a local -/
theorem ps_setDc {i : Nat} {y : Str} {py : Pos} {kx vx tg iter : Expr} {ifs : List Expr} {scope : Scope} {own : List (Str × Nat)} {pos spos : Pos} {wi : TI} {g : TG} {tt : L2.TT} {tk tv : TE} (hc : X.calm = true) (hN : X.N.Nodup) (hy : X.N[i]? = some y) (hyl : X.env.scope.names.lookup y = some .local)
    (hsw : swapsWith (.DictComp kx vx [⟨tg, iter, ifs, 0⟩] scope pos) (some (.Name y py)) spos.line X.env = pure true) (hi : PI X tg iter wi) (ok : BlkOk X.N X.env.scope scope own)
    (hg : ∀ (s : Shared) (H : Hp) (C : Addr) (cl : List (Str × Addr)) (fp : List Addr), PG (X.blk s H scope (compEnvC scope cl C X.env) fp) tg g) (ht : ∀ (s : Shared) (H : Hp) (C : Addr) (cl : List (Str × Addr)) (fp : List Addr), PTs (X.blk s H scope (compEnvC scope cl C X.env) fp) ifs tt)
    (hk : ∀ (s : Shared) (H : Hp) (C : Addr) (cl : List (Str × Addr)) (fp : List Addr), PE (X.blk s H scope (compEnvC scope cl C X.env) fp) kx tk)
    (he : ∀ (s : Shared) (H : Hp) (C : Addr) (cl : List (Str × Addr)) (fp : List Addr), PE (X.blk s H scope (compEnvC scope cl C X.env) fp) vx tv) (hs : ∀ x, foldedSetIterable iter X.env x = pure x := by intro _; rfl) :
    PS X (.Assign [.Name y py] (.DictComp kx vx [⟨tg, iter, ifs, 0⟩] scope pos) spos) (tAsg (tDc wi g tt tk tv (own.map (·.2))) (gName i)) := by
  refine ⟨fun pins s σ H D I h => ?_⟩
  rw [exec_Assign_Name_used _ _ _ _ hsw]
  refine wpAny_bind (wpAny_standAt (wpAny_bind ?_))
  show wpAny _ X.A (do let _ ← comprehension (.DictComp kx vx [⟨tg, iter, ifs, 0⟩] scope pos) scope X.env (firstIterPos [⟨tg, iter, ifs, 0⟩] pos) newDict false (eval iter X.env) (some (assign (.Name y py) X.env))) _ _ s
  have h : tDc wi g tt tk tv (own.map (·.2)) σ H (fun x H1 => gName i x σ H1 D.nx) := h
  refine wpAny_bind (thn (dc_core (Qf := fun _ s' => SP X pins D .next s') hc hN I hi ok hg ht hk he hs h fun L C s' m H' I' q hn f => ?_) fun _ s' hq => wpAny_pure (wpAny_pure hq))
  show wpAny _ _ (assign (.Name y py) X.env (.ref L)) _ _ _
  refine wpAny_assign_Name (store_ok2 (v := V.ref L) I' hN hy (.inl hyl) rfl (fun s2 I2 ⟨a, sb, ha⟩ => ?_) (.inr hyl))
  obtain ⟨f0, f1, f2, f3, f4, f5⟩ := f
  have haC : C ≠ a := by
    rcases ha with z | z
    · rw [z]; exact f1
    · exact fun e => f4 y a z e.symm
  refine ⟨m, hn.sameBut sb haC, fun h3 sb3 => ?_⟩
  exact ⟨_, H', I2.turned (t' := s2.toks) (fun b o hb e => (sb3.2 b hb).trans e) f0 f1 f3 f4 f5, q⟩
theorem sw_trueD {kx vx : Expr} {gs : List Comprehension} {scope : Scope} {pos py : Pos} {y : Str} {l : Nat} {env : Env} (hk : env.scope.kind = .function) (hy : env.scope.names.lookup y = some .local) (hl : (py.line == pos.line) = true)
    (ha : (scope.names.any fun (n, k) => n == y && (k == .local || k == .cell)) = false) : swapsWith (.DictComp kx vx gs scope pos) (some (.Name y py)) l env = pure true := by
  have ky : env.kindOf y = some .local := hy
  have hb : env.blockKind = .function := by unfold Env.blockKind; rw [hk]; rfl
  unfold swapsWith
  simp only [hb, ky, ha, Expr.pos, hl]
  rfl
end
/-- over a list or a tuple that stays -/
theorem dc_list {K : PySem.W.Frag} {a : Addr} {xs : List V} {g : TG} {tt : L2.TT} {tk tv : TE} {vs : List Nat} {σ : L2.St} {H1 : Hp} {D : Addr} {Qd : Hp → Prop} (Pv : Nat → Hp → Prop) (h0 : Pv 0 (upd H1 D (.dK []))) (hl : ∀ i H, i ≤ xs.length → Pv i H → SqL K H a xs)
    (hs : ∀ i x H, xs[i]? = some x → Pv i H → g x (wipe σ vs) H fun σ2 H2 => wipe σ2 vs = wipe σ vs ∧ tt σ2 H2 fun b H3 =>
      if b = true then tk σ2 H3 fun y H4 => tv σ2 H4 fun z H5 => ∃ kvs k, y = kV k ∧ H5 D = some (.dK kvs) ∧ kvs.length < sizeLine ∧ Pv (i + 1) (upd H5 D (.dK (putK kvs k z))) else Pv (i + 1) H3) (hd : ∀ H, Pv xs.length H → Qd H) :
    ∃ W : Nat → Nat → Hp → Prop, (∃ m, W 0 m (upd H1 D (.dK []))) ∧ ∀ i m H, W i m H →
      ((Itl K a).stop i H ∧ Qd H) ∨ ((Itl K a).go i H ∧ ∃ Nx : Hp → Prop, (∀ H', Nx H' → ∃ m', m' < m ∧ W (i + 1) m' H') ∧ ∀ x H', (Itl K a).yld i H x H' → g x (wipe σ vs) H' fun σ2 H2 => wipe σ2 vs = wipe σ vs ∧ tt σ2 H2 fun b H3 =>
        if b = true then tk σ2 H3 fun y H4 => tv σ2 H4 fun z H5 => ∃ kvs k, y = kV k ∧ H5 D = some (.dK kvs) ∧ kvs.length < sizeLine ∧ Nx (upd H5 D (.dK (putK kvs k z))) else Nx H3) := by
  refine ⟨fun i m H => m = xs.length - i ∧ i ≤ xs.length ∧ Pv i H, ⟨xs.length, by simp, Nat.zero_le _, h0⟩, ?_⟩
  rintro i m H ⟨rfl, hi, p⟩
  have q := hl i H hi p
  by_cases hlt : i < xs.length
  · refine .inr ⟨⟨xs, xs[i], q, by simp [hlt]⟩, Pv (i + 1), fun H' p' => ⟨xs.length - (i + 1), by omega, rfl, hlt, p'⟩, fun x H' y => ?_⟩
    obtain ⟨e, y⟩ := y
    subst e
    exact hs i x _ (y xs q) p
  · have e : i = xs.length := by omega
    subst e
    exact .inl ⟨⟨xs, q, Nat.le_refl _⟩, hd H p⟩
end Rx

set_option Elab.async false
set_option linter.all false
set_option maxRecDepth 100000
set_option maxHeartbeats 1000000
namespace Rx
open PySem PySem.Spec PyProof.Rows L2 SX
def dkOf (ps : List (Str × Int)) : List (Key × V) := ps.foldl (fun kvs p => putK kvs (Sum.inr p.1) (.int p.2)) []
def rho (ps : List (Str × Int)) (x : Str) : Int := match valV (dkOf ps) (Sum.inr x) with
  | some (.int i) => i
  | _ => 0
theorem dk_ints (ps : List (Str × Int)) : ∀ kvs : List (Key × V), (∀ k v, valV kvs k = some v → ∃ i, v = .int i) → ∀ k v, valV (ps.foldl (fun kvs p => putK kvs (Sum.inr p.1) (.int p.2)) kvs) k = some v → ∃ i, v = .int i := by
  induction ps with
  | nil => intro kvs h; exact h
  | cons p ps ih =>
    intro kvs h
    refine ih _ fun k v e => ?_
    rw [valV_put] at e
    split at e
    · injection e with e; exact ⟨_, e.symm⟩
    · exact h k v e
theorem rho_get (ps : List (Str × Int)) (x : Str) : (valV (dkOf ps) (Sum.inr x)).getD (.int 0) = .int (rho ps x) := by
  unfold rho
  cases e : valV (dkOf ps) (Sum.inr x) with
  | none => rfl
  | some v =>
    obtain ⟨i, rfl⟩ := dk_ints ps [] (fun k v h => by simp [valV] at h) _ _ e
    rfl
theorem dk_len (ps : List (Str × Int)) : (dkOf ps).length ≤ ps.length := by
  have : ∀ (ps : List (Str × Int)) (kvs : List (Key × V)), (ps.foldl (fun kvs p => putK kvs (Sum.inr p.1) (.int p.2)) kvs).length ≤ kvs.length + ps.length := by
    intro ps
    induction ps with
    | nil => intro kvs; exact Nat.le_refl _
    | cons p ps ih =>
      intro kvs
      have h1 := ih (putK kvs (Sum.inr p.1) (.int p.2))
      have h2 := length_putK kvs (Sum.inr p.1) (V.int p.2)
      rw [List.foldl_cons, List.length_cons]
      omega
  have h := this ps []
  simpa [dkOf] using h
theorem dk_take {ps : List (Str × Int)} {i : Nat} {n : Str} {j : Int} (h : ps[i]? = some (n, j)) : dkOf (ps.take (i + 1)) = putK (dkOf (ps.take i)) (Sum.inr n) (.int j) := by
  unfold dkOf
  rw [List.take_add_one, h, Option.toList_some, List.foldl_append]
  rfl
def PairsAt (K : PySem.W.Frag) (H : Hp) (xs : List V) (ps : List (Str × Int)) : Prop := xs.length = ps.length ∧ ∀ (i : Nat) (x : V), xs[i]? = some x → ∃ (b : Addr) (n : Str) (j : Int), x = .ref b ∧ ps[i]? = some (n, j) ∧ (SqL K H b [.str n, .int j] ∨ SqT K H b [.str n, .int j])
/-- what stands on the stack of work, the top first -/
inductive WAt (K : PySem.W.Frag) (H Hx : Hp) : List V → List WI → Prop where
  | nil : WAt K H Hx [] []
  | cons {a : Addr} {v : V} {d : PyData} {t : Tr} {f : Bool} {us : List V} {ws : List WI} : Hx a = some (.tup [v, .bl f]) → Dp K H v d → Rep d t → t.wf → WAt K H Hx us ws → WAt K H Hx (.ref a :: us) ((t, f) :: ws)
theorem WAt.keep {K : PySem.W.Frag} {H Hx Hy : Hp} {us : List V} {ws : List WI} (h : WAt K H Hx us ws) (k : ∀ a xs, Hx a = some (.tup xs) → Hy a = some (.tup xs)) : WAt K H Hy us ws := by
  induction h with
  | nil => exact .nil
  | cons h1 h2 h3 h4 _ ih => exact .cons (k _ _ h1) h2 h3 h4 ih
theorem WAt.len {K : PySem.W.Frag} {H Hx : Hp} {us : List V} {ws : List WI} (h : WAt K H Hx us ws) : us.length = ws.length := by
  induction h with
  | nil => rfl
  | cons _ _ _ _ _ ih => simp [ih]
theorem tup_upd {H : Hp} {l : Addr} {zs ys : List V} (h : H l = some (.lst zs)) : ∀ a xs, H a = some (.tup xs) → upd H l (.lst ys) a = some (.tup xs) := fun a xs e => by
  rw [upd_ne (ne_of e h (by intro z; cases z))]
  exact e
/-- the sides of a node, the last one first -/
def sides : Tr → List Tr
  | .pre _ a => [a]
  | .bin _ a b => [b, a]
  | _ => []
theorem out_open {ρ : Str → Int} {t : Tr} {ws : List WI} {rs : List V} {r : Except Str V} (h : Out ρ ((t, false) :: ws) rs r) (hs : sides t ≠ []) : Out ρ ((sides t).reverse.map (·, false) ++ (t, true) :: ws) rs r := by
  cases t with
  | num n => exact absurd rfl hs
  | var n => exact absurd rfl hs
  | pre w a => exact out_pre h
  | bin w a b => exact out_bin h
theorem wiL_app (xs ys : List WI) : wiL (xs ++ ys) = wiL xs + wiL ys := by unfold wiL; rw [List.map_append, List.sum_append]
theorem sides_m (t : Tr) (hs : sides t ≠ []) : wiL ((sides t).reverse.map (·, false)) + 2 ≤ t.sz := by
  cases t with
  | num n => exact absurd rfl hs
  | var n => exact absurd rfl hs
  | pre w a => simp [sides, wiL, wiM, Tr.sz]; omega
  | bin w a b => simp [sides, wiL, wiM, Tr.sz]; omega
/-- the sides in the heap -/
theorem below_sides {K : PySem.W.Frag} {H : Hp} {xs : List V} {t : Tr} (h : Below K H xs t) (hw : t.wf) (hs : sides t ≠ []) : xs ≠ [] ∧ (xs.drop 1).reverse.length = (sides t).length ∧ ∀ (j : Nat) (v : V), (xs.drop 1).reverse[j]? = some v → ∃ d s, (sides t)[j]? = some s ∧ Dp K H v d ∧ Rep d s ∧ s.wf := by
  cases t with
  | num n => exact absurd rfl hs
  | var n => exact absurd rfl hs
  | pre w a =>
    obtain ⟨v, d, rfl, h1, h2⟩ := h
    refine ⟨by simp, rfl, fun j u e => ?_⟩
    match j, e with
    | 0, e => injection e with e; subst e; exact ⟨d, a, rfl, h1, h2, hw.2⟩
    | j + 1, e => simp at e
  | bin w a b =>
    obtain ⟨v, d, u, e', rfl, h1, h2, h3, h4⟩ := h
    refine ⟨by simp, rfl, fun j x e => ?_⟩
    match j, e with
    | 0, e => injection e with e; subst e; exact ⟨e', b, rfl, h3, h4, hw.2.2⟩
    | 1, e => injection e with e; subst e; exact ⟨d, a, rfl, h1, h2, hw.2.1⟩
    | j + 2, e => simp at e
/-- a dict comprehension over a list or a tuple that stays -/
theorem dc_sq {K : PySem.W.Frag} {a : Addr} {xs : List V} {g : TG} {tt : L2.TT} {tk tv : TE} {vs : List Nat} {σ : L2.St} {H1 : Hp} {Qd : Addr → Hp → Prop} (hq : SqL K H1 a xs ∨ SqT K H1 a xs) (Pv : Addr → Nat → Hp → Prop) (h0 : ∀ D, H1 D = none → Pv D 0 (upd H1 D (.dK []))) (hl : ∀ D i H, Pv D i H → Same H1 H)
    (hs : ∀ D i x H, H1 D = none → xs[i]? = some x → Pv D i H → g x (wipe σ vs) H fun σ2 H2 => wipe σ2 vs = wipe σ vs ∧ tt σ2 H2 fun b H3 =>
      if b = true then tk σ2 H3 fun y H4 => tv σ2 H4 fun z H5 => ∃ kvs k, y = kV k ∧ H5 D = some (.dK kvs) ∧ kvs.length < sizeLine ∧ Pv D (i + 1) (upd H5 D (.dK (putK kvs k z))) else Pv D (i + 1) H3) (hd : ∀ D H, H1 D = none → Pv D xs.length H → Qd D H) :
    (SqL K H1 a xs ∧ ∀ D, H1 D = none → ∃ W : Nat → Nat → Hp → Prop, (∃ m, W 0 m (upd H1 D (.dK []))) ∧ ∀ i m H, W i m H →
      ((Itl K a).stop i H ∧ Qd D H) ∨ ((Itl K a).go i H ∧ ∃ Nx : Hp → Prop, (∀ H', Nx H' → ∃ m', m' < m ∧ W (i + 1) m' H') ∧ ∀ x H', (Itl K a).yld i H x H' → g x (wipe σ vs) H' fun σ2 H2 => wipe σ2 vs = wipe σ vs ∧ tt σ2 H2 fun b H3 =>
        if b = true then tk σ2 H3 fun y H4 => tv σ2 H4 fun z H5 => ∃ kvs k, y = kV k ∧ H5 D = some (.dK kvs) ∧ kvs.length < sizeLine ∧ Nx (upd H5 D (.dK (putK kvs k z))) else Nx H3)) ∨
    (SqT K H1 a xs ∧ ∀ D, H1 D = none → ∃ W : Nat → Nat → Hp → Prop, (∃ m, W 0 m (upd H1 D (.dK []))) ∧ ∀ i m H, W i m H →
      ((Itt K a).stop i H ∧ Qd D H) ∨ ((Itt K a).go i H ∧ ∃ Nx : Hp → Prop, (∀ H', Nx H' → ∃ m', m' < m ∧ W (i + 1) m' H') ∧ ∀ x H', (Itt K a).yld i H x H' → g x (wipe σ vs) H' fun σ2 H2 => wipe σ2 vs = wipe σ vs ∧ tt σ2 H2 fun b H3 =>
        if b = true then tk σ2 H3 fun y H4 => tv σ2 H4 fun z H5 => ∃ kvs k, y = kV k ∧ H5 D = some (.dK kvs) ∧ kvs.length < sizeLine ∧ Nx (upd H5 D (.dK (putK kvs k z))) else Nx H3)) := by
  rcases hq with h | h
  · exact .inl ⟨h, fun D nD => dc_list (Qd := Qd D) (Pv D) (h0 D nD) (fun i H _ p => sqL_same (hl D i H p) h) (fun i x H hx p => hs D i x H nD hx p) (fun H p => hd D H nD p)⟩
  · exact .inr ⟨h, fun D nD => dc_tup (Qd := Qd D) (Pv D) (h0 D nD) (fun i H _ p => sqT_same (hl D i H p) h) (fun i x H hx p => hs D i x H nD hx p) (fun H p => hd D H nD p)⟩
/-- for x in xs[:0:-1] -/
theorem rest_for {K : PySem.W.Frag} {a : Addr} {xs : List V} {g : TG} {tb : TS} {D : Ends} {σ : L2.St} {Hy : Hp} (hq : SqL K Hy a xs ∨ SqT K Hy a xs) (hne : xs ≠ []) (Pv : Addr → HO → Nat → L2.St → Hp → Prop) (h0 : ∀ p o, Hy p = none → Pv p o 0 σ (upd Hy p o)) (hl : ∀ p o i σ H, Pv p o i σ H → H p = some o)
    (hs : ∀ p o i x σ H, ((xs.drop 1).reverse)[i]? = some x → Pv p o i σ H → g x σ H fun σ2 H2 => tb { D with nx := Pv p o (i + 1), ct := Pv p o (i + 1), bk := D.nx } σ2 H2) (hd : ∀ p o σ H, Pv p o ((xs.drop 1).reverse).length σ H → D.nx σ H) :
    ∃ a' xs', V.ref a = .ref a' ∧ xs' ≠ [] ∧
      ((SqL K Hy a' xs' ∧ ∀ p, Hy p = none → ∃ b ys, V.ref p = .ref b ∧ ((SqL K (upd Hy p (.lst (xs'.drop 1).reverse)) b ys ∧ ∃ W : Nat → Nat → L2.St → Hp → Prop, (∃ m, W 0 m σ (upd Hy p (.lst (xs'.drop 1).reverse))) ∧ ∀ i m σ H, W i m σ H →
          ((Itl K b).stop i H ∧ D.nx σ H) ∨ ((Itl K b).go i H ∧ ∃ N : L2.St → Hp → Prop, (∀ σ' H', N σ' H' → ∃ m', m' < m ∧ W (i + 1) m' σ' H') ∧ ∀ x H', (Itl K b).yld i H x H' → g x σ H' fun σ2 H2 => tb { D with nx := N, ct := N, bk := D.nx } σ2 H2)) ∨
        (SqT K (upd Hy p (.lst (xs'.drop 1).reverse)) b ys ∧ ∃ W : Nat → Nat → L2.St → Hp → Prop, (∃ m, W 0 m σ (upd Hy p (.lst (xs'.drop 1).reverse))) ∧ ∀ i m σ H, W i m σ H →
          ((Itt K b).stop i H ∧ D.nx σ H) ∨ ((Itt K b).go i H ∧ ∃ N : L2.St → Hp → Prop, (∀ σ' H', N σ' H' → ∃ m', m' < m ∧ W (i + 1) m' σ' H') ∧ ∀ x H', (Itt K b).yld i H x H' → g x σ H' fun σ2 H2 => tb { D with nx := N, ct := N, bk := D.nx } σ2 H2)))) ∨
      (SqT K Hy a' xs' ∧ ∀ p, Hy p = none → ∃ b ys, V.ref p = .ref b ∧ ((SqL K (upd Hy p (.tup (xs'.drop 1).reverse)) b ys ∧ ∃ W : Nat → Nat → L2.St → Hp → Prop, (∃ m, W 0 m σ (upd Hy p (.tup (xs'.drop 1).reverse))) ∧ ∀ i m σ H, W i m σ H →
          ((Itl K b).stop i H ∧ D.nx σ H) ∨ ((Itl K b).go i H ∧ ∃ N : L2.St → Hp → Prop, (∀ σ' H', N σ' H' → ∃ m', m' < m ∧ W (i + 1) m' σ' H') ∧ ∀ x H', (Itl K b).yld i H x H' → g x σ H' fun σ2 H2 => tb { D with nx := N, ct := N, bk := D.nx } σ2 H2)) ∨
        (SqT K (upd Hy p (.tup (xs'.drop 1).reverse)) b ys ∧ ∃ W : Nat → Nat → L2.St → Hp → Prop, (∃ m, W 0 m σ (upd Hy p (.tup (xs'.drop 1).reverse))) ∧ ∀ i m σ H, W i m σ H →
          ((Itt K b).stop i H ∧ D.nx σ H) ∨ ((Itt K b).go i H ∧ ∃ N : L2.St → Hp → Prop, (∀ σ' H', N σ' H' → ∃ m', m' < m ∧ W (i + 1) m' σ' H') ∧ ∀ x H', (Itt K b).yld i H x H' → g x σ H' fun σ2 H2 => tb { D with nx := N, ct := N, bk := D.nx } σ2 H2))))) := by
  refine ⟨a, xs, rfl, hne, ?_⟩
  rcases hq with h | h
  · exact .inl ⟨h, fun p np => ⟨p, _, rfl, .inl ⟨SqL.of upd_same, for_list (K := K) (a := p) (xs := (xs.drop 1).reverse) (Pv p _) (h0 p _ np) (fun i σ H _ q => SqL.of (hl p _ i σ H q)) (fun i x σ H hx q => hs p _ i x σ H hx q) (fun σ H q => hd p _ σ H q)⟩⟩⟩
  · exact .inr ⟨h, fun p np => ⟨p, _, rfl, .inr ⟨SqT.of upd_same, for_tup (K := K) (a := p) (xs := (xs.drop 1).reverse) (Pv p _) (h0 p _ np) (fun i σ H _ q => SqT.of (hl p _ i σ H q)) (fun i x σ H hx q => hs p _ i x σ H hx q) (fun σ H q => hd p _ σ H q)⟩⟩⟩
end Rx

set_option Elab.async false
set_option linter.all false
set_option maxRecDepth 100000
set_option maxHeartbeats 1000000
namespace Rx
open PySem PySem.Spec PyProof.Rows L2 SX
/-! ### pieces that are never reached -/
theorem pe_no {X : Cx} {e : Expr} : PE X e (fun _ _ _ => False) := ⟨fun _ _ _ _ _ _ h => h.elim⟩
theorem pss_no {X : Cx} {ss : List Stmt} : PSs X ss (fun _ _ _ => False) := ⟨fun _ _ _ _ _ _ h => h.elim⟩
/-! ### division by absolute values -/
abbrev absI (i : Int) : Int := if i < 0 then -i else i
theorem abs_nat (i : Int) : absI i = (i.natAbs : Int) := by unfold absI; split <;> omega
def sgB (i j : Int) : Bool := !decide (decide (i < 0) = decide (j < 0))
def part1 (i j : Int) : Int := (absI i).fdiv (absI j) * (if sgB i j = true then -1 else 1)
def part2 (i j : Int) : Int := part1 i j - (if (decide (part1 i j * j ≠ i) && sgB i j) = true then 1 else 0)
theorem part1_lt (i j : Int) (h : j ≠ 0) : (part1 i j).natAbs ≤ i.natAbs := by
  unfold part1
  have h1 := fdiv_le (absI i) (absI j) (by rw [abs_nat]; omega)
  rw [abs_nat, Int.natAbs_natCast] at h1
  rw [Int.natAbs_mul, ← abs_nat] at *
  split <;> simp <;> omega
theorem neg_div_pos {m b : Int} (hb : 0 < b) : (-m) / b = -(m / b) - (if (m / b) * b ≠ m then 1 else 0) := by
  rw [Int.neg_ediv, Int.sign_eq_one_of_pos hb]
  have : b ∣ m ↔ (m / b) * b = m := ⟨fun h => Int.ediv_mul_cancel h, fun h => ⟨m / b, by rw [Int.mul_comm]; exact h.symm⟩⟩
  by_cases h : b ∣ m
  · rw [if_pos h, if_neg (by rw [this] at h; simp [h])]
  · rw [if_neg h, if_pos (by rw [this] at h; exact h)]
theorem part2_eq (i j : Int) (h : j ≠ 0) : part2 i j = i.fdiv j := by
  unfold part2 part1 sgB absI
  by_cases hi : i < 0 <;> by_cases hj : j < 0
  · simp only [hi, hj, decide_true, Bool.not_true, if_true, Bool.and_false, Bool.false_eq_true, if_false]
    rw [Int.neg_fdiv_neg]; omega
  · have hj' : 0 < j := by omega
    simp only [hi, hj, decide_true, decide_false, Bool.true_eq_false, Bool.not_false, if_true, if_false, Bool.and_true, decide_eq_true_eq]
    rw [Int.fdiv_eq_ediv_of_nonneg _ (by omega), Int.fdiv_eq_ediv_of_nonneg _ (by omega)]
    have e := neg_div_pos (m := -i) hj'
    rw [Int.neg_neg] at e
    rw [e]
    have e2 : -i / j * -1 * j = -(-i / j * j) := by rw [Int.mul_neg_one, Int.neg_mul]
    rw [e2]
    by_cases hd : -i / j * j = -i
    · have h1 : ¬ (-(-i / j * j) ≠ i) := by omega
      have h2 : ¬ (-i / j * j ≠ -i) := by omega
      simp only [h1, h2, if_false]; omega
    · have h1 : -(-i / j * j) ≠ i := by omega
      simp only [h1, ne_eq, hd, not_false_eq_true, if_true]; omega
  · have hj' : 0 < -j := by omega
    simp only [hi, hj, decide_true, decide_false, Bool.false_eq_true, Bool.not_false, if_true, if_false, Bool.and_true, decide_eq_true_eq]
    rw [← Int.neg_fdiv_neg i j, Int.fdiv_eq_ediv_of_nonneg _ (by omega), Int.fdiv_eq_ediv_of_nonneg _ (by omega), neg_div_pos hj']
    have e2 : i / -j * -1 * j = i / -j * -j := by rw [Int.mul_neg_one, Int.neg_mul, Int.mul_neg]
    rw [e2]
    by_cases hd : i / -j * -j = i
    · have h1 : ¬ (i / -j * -j ≠ i) := by omega
      simp only [h1, if_false]; omega
    · simp only [ne_eq, hd, not_false_eq_true, if_true]; omega
  · simp only [hi, hj, decide_false, Bool.not_true, if_false, Bool.and_false, Bool.false_eq_true, decide_true]
    omega
theorem part2_mod (i j : Int) (h : j ≠ 0) : i - part2 i j * j = i.fmod j := by
  rw [part2_eq i j h, Int.fmod_def, Int.mul_comm]
theorem digs_le (i : Int) (k : Nat) (hk : 0 < k) : (Str.ofString (toString (absI i))).length ≤ k ↔ i.natAbs < 10 ^ k := by
  rw [abs_nat]
  have h : (Str.ofString (toString (i.natAbs : Int))).length = (i.natAbs.repr).length := by
    have e : toString ((i.natAbs : Nat) : Int) = Nat.repr i.natAbs := rfl
    rw [e, PySem.Str.ofString_eq_toList]
    simp [Str.length, Nat.repr_eq_ofList_toDigits]
  rw [h]
  exact Nat.length_repr_le_iff hk
theorem digs_len (i : Int) : (Str.ofString (toString (absI i))).length < 31 ↔ i.natAbs < 10 ^ 30 := by
  rw [Nat.lt_succ_iff]
  exact digs_le i 30 (by decide)
theorem dBl (x y : Bool) : decide (V.bl x = V.bl y) = decide (x = y) := by
  rw [decide_eq_decide]
  exact ⟨fun h => by injection h, fun h => by rw [h]⟩
theorem addT_lt {w : Str} {i j : Int} (hi : Lt30 i) (hj : Lt30 j) : (addT w i j).natAbs < 10 ^ 60 := by
  unfold Lt30 at hi hj
  unfold addT
  split
  · have := Int.natAbs_add_le i j
    omega
  · split
    · have := Int.natAbs_sub_le i j
      omega
    · rw [Int.natAbs_mul]
      exact Nat.lt_of_lt_of_le (Nat.mul_lt_mul_of_lt_of_lt hi hj) (by decide)
/-! ### values are single -/
theorem PreR.det {w : Str} {x v u : V} (h : PreR w x v) (g : PreR w x u) : v = u := by cases h <;> cases g <;> rfl
theorem arith_comp : ∀ x ∈ arithL, x ∉ compL := by decide +kernel
theorem BinR.det {w : Str} {x y : V} {r s : Except Str V} (h : BinR w x y r) (g : BinR w x y s) : r = s := by
  cases h with
  | ari a1 a2 a3 a4 => cases g with
    | ari b1 b2 b3 b4 => rw [a4] at b4; injection b4 with b4; rw [b4]
    | ariE b1 b2 b3 b4 => rw [a4] at b4; cases b4
    | cmp b => exact absurd b (arith_comp _ a1)
  | ariE a1 a2 a3 a4 => cases g with
    | ari b1 b2 b3 b4 => rw [a4] at b4; cases b4
    | ariE b1 b2 b3 b4 => rw [a4] at b4; injection b4 with b4; rw [b4]
    | cmp b => exact absurd b (arith_comp _ a1)
  | cmp a => cases g with
    | ari b1 b2 b3 b4 => exact absurd a (arith_comp _ b1)
    | ariE b1 b2 b3 b4 => exact absurd a (arith_comp _ b1)
    | cmp b => rfl
  | and a b => cases g with
    | and _ _ => rfl
  | or a b => cases g with
    | or _ _ => rfl
theorem Ev.det {ρ : Str → Int} {t : Tr} {r : Except Str V} (h : Ev ρ t r) : ∀ {s : Except Str V}, Ev ρ t s → r = s := by
  induction h with
  | num n => intro s g; cases g; rfl
  | var x => intro s g; cases g; rfl
  | pre h1 h2 ih => intro s g; cases g with
    | pre g1 g2 => have := ih g1; injection this with e; subst e; rw [h2.det g2]
    | preE g1 => have := ih g1; cases this
  | preE h1 ih => intro s g; cases g with
    | pre g1 g2 => have := ih g1; cases this
    | preE g1 => have := ih g1; injection this with e; rw [e]
  | bin h1 h2 h3 i1 i2 => intro s g; cases g with
    | bin g1 g2 g3 => have := i1 g1; injection this with e; subst e; have := i2 g2; injection this with e; subst e; exact h3.det g3
    | binL g1 => have := i1 g1; cases this
    | binR g1 g2 => have := i2 g2; cases this
  | binL h1 ih => intro s g; cases g with
    | bin g1 g2 g3 => have := ih g1; cases this
    | binL g1 => have := ih g1; injection this with e; rw [e]
    | binR g1 g2 => have := ih g1; cases this
  | binR h1 h2 i1 i2 => intro s g; cases g with
    | bin g1 g2 g3 => have := i2 g2; cases this
    | binL g1 => have := i1 g1; cases this
    | binR g1 g2 => have := i2 g2; injection this with e; rw [e]
end Rx

set_option Elab.async false
set_option linter.all false
set_option maxRecDepth 100000
set_option maxHeartbeats 1000000
namespace L2
open PySem PySem.Spec PyProof.Rows
section
variable {X : Cx}
/-- d.update(e), both of plain keys -/
theorem mt_updateK : MtR X "dict.update" (fun x vs H Q => ∃ (a b : Addr) (kvs more : List (Key × V)), x = .ref a ∧ vs = [.ref b] ∧ a ≠ b ∧ H a = some (.dK kvs) ∧ H b = some (.dK more) ∧ kvs.length + more.length ≤ sizeLine ∧ Q .non (upd H a (.dK (mergeK kvs more)))) := by
  intro pins s σ H x vs v us Q I rx rv h
  obtain ⟨a, b, kvs, more, rfl, rfl, hne, ha, hb, hz, q⟩ := h
  cases rx
  obtain ⟨u, rfl, ru⟩ := rv.one
  cases ru
  obtain ⟨z, hd, ws, rel, dd⟩ := dk_of I.hok ha
  obtain ⟨z2, hd2, ws2, rel2, dd2⟩ := dk_of I.hok hb
  refine call_meetsIn F.slot_dict_update dd.typeIs F.entry_dict_update (F.args_dict_update_2 _ _) (meets_dict_update (mixKind X.prog X.w) a b hne hd2) ⟨ws, ws2, dd, dd2, (by rw [← rel.length, ← rel2.length]; exact hz), fun h' hm _ hs => ?_⟩
  have he : ∃ q, h'.get? a = some q := let ⟨q, _, _, hq, _⟩ := hm; ⟨q, hq⟩
  have hl : (mergeK kvs more).length ≤ sizeLine := by have := length_mergeK more kvs; omega
  exact ⟨.non, _, d_write I (by rw [ha]; exact True.intro) hs he (dk_new hl hd (KV.merge rel2 rel) hm), rfl, q⟩
/-- ints or bools compared -/
def rOrd (g : Int → Int → Bool) : R2 := fun x y H Q => (∃ i j, x = .int i ∧ y = .int j ∧ Q (.bl (g i j)) H) ∨ ∃ p q, x = .bl p ∧ y = .bl q ∧ Q (.bl (g (b2i p) (b2i q))) H
theorem op_ordB {op : CmpOp} {g : Int → Int → Bool}
    (h1 : OpR X (compareOp op) (rI0 fun i j => .bl (g i j)))
    (h2 : ∀ (p q : Bool) (s : Shared) (Q : Value → Shared → Prop) (E : Value → Shared → Prop), Q (.bool (g (b2i p) (b2i q))) s → wpAny (model X.prog X.w) X.A (compareOp op (.bool p) (.bool q)) Q E s) :
    OpR X (compareOp op) (rOrd g) := by
  intro pins s σ H x y v u Q I rx ry h
  rcases h with ⟨i, j, rfl, rfl, q⟩ | ⟨p, q, rfl, rfl, q'⟩
  · exact h1 pins s σ H _ _ v u Q I rx ry ⟨i, j, rfl, rfl, q⟩
  · cases rx
    cases ry
    exact h2 p q s _ _ ⟨.bl (g (b2i p) (b2i q)), H, I, rfl, q'⟩
theorem op_ltO : OpR X (compareOp .Lt) (rOrd fun i j => decide (i < j)) := op_ordB op_lt fun _ _ _ _ _ h => lt_bool h
theorem op_leO : OpR X (compareOp .LtE) (rOrd fun i j => decide (i ≤ j)) := op_ordB op_le fun _ _ _ _ _ h => le_bool h
theorem op_gtO : OpR X (compareOp .Gt) (rOrd fun i j => decide (j < i)) := op_ordB op_gt fun _ _ _ _ _ h => gt_bool h
theorem op_geO : OpR X (compareOp .GtE) (rOrd fun i j => decide (j ≤ i)) := op_ordB op_ge fun _ _ _ _ _ h => ge_bool h
/-- x is b, b a bool, x a bool or a reference -/
theorem op_isTF : OpR X (compareOp .Is) (fun x y H Q => ∃ b, y = .bl b ∧ ((∃ a, x = .bl a ∧ Q (.bl (decide (a = b))) H) ∨ ∃ p, x = .ref p ∧ Q (.bl false) H)) := by
  intro pins s σ H x y v u Q I rx ry h
  obtain ⟨b, rfl, ⟨a, rfl, q⟩ | ⟨p, rfl, q⟩⟩ := h
  · exact op_is_bl pins s σ H _ _ v u Q I rx ry ⟨a, b, rfl, rfl, q⟩
  · cases (show v = Value.ref p from rx)
    cases (show u = Value.bool b from ry)
    exact wpAny_is_other rfl (fun z => by cases z) ⟨.bl false, H, I, rfl, q⟩
end
end L2

set_option Elab.async false
set_option linter.all false
set_option maxRecDepth 100000
set_option maxHeartbeats 1000000
namespace XE
open PySem PySem.Spec PyProof.Rows L2 Rx SX
abbrev sReadLines : Stmt := topS 43
abbrev sBlockFits : Stmt := topS 48
abbrev sCheckBlocks : Stmt := topS 47
abbrev sCheckNames : Stmt := topS 49
/-- lines and what is read of each -/
def LinesR (zs : List Str) (os : List (Option Stp)) : Prop := os.length = zs.length ∧ ∀ (i : Nat) (z : Str), zs[i]? = some z → z.length ≤ 900 ∧ ∃ o, os[i]? = some o ∧ LineR z o
def spReadLines (K : PySem.W.Frag) (CP : Addr) : Sp := fun vs H Q E => ∃ (l : Addr) (zs : List Str) (os : List (Option Stp)), vs = [.ref l] ∧ H l = some (.lst (zs.map V.str)) ∧ zs.length ≤ 400 ∧ LinesR zs os ∧
  (∀ ss, steps 0 os = .ok ss → ∀ l' xs H', Same H H' → H l' = none → H' l' = some (.lst xs) → DpAll K H' xs (ss.map Stp.data) → Q (.ref l') H') ∧ (∀ n, steps 0 os = .error n → BadAt CP H n "line" E)
theorem dpAll_snoc {K : PySem.W.Frag} {H : Hp} {v : V} {d : PyData} (k : Dp K H v d) : ∀ {xs : List V} {ds : List PyData}, DpAll K H xs ds → DpAll K H (xs ++ [v]) (ds ++ [d])
  | _, _, .nil => .cons k .nil
  | _, _, .cons a r => .cons a (dpAll_snoc k r)
theorem stps_app (ss : List Stp) (s : Stp) : (ss ++ [s]).map Stp.data = ss.map Stp.data ++ [s.data] := by simp
theorem stp_ref {K : PySem.W.Frag} {H : Hp} {v : V} {s : Stp} (h : Dp K H v s.data) : ∃ a xs, v = .ref a ∧ SqT K H a (.str s.word :: xs) ∧ DpAll K H xs s.rest := by
  cases h with
  | tup h1 h2 =>
    cases h2 with
    | cons h3 h4 => cases h3; exact ⟨_, _, rfl, h1, h4⟩
theorem stps_noList (ss : List Stp) : ∀ d ∈ ss.map Stp.data, noList d = true := fun d hd => by
  obtain ⟨s, _, rfl⟩ := List.mem_map.mp hd
  exact s.noList
theorem stps_noAll : ∀ ss : List Stp, noListAll (ss.map Stp.data) = true
  | [] => rfl
  | s :: r => by
    show (noList s.data && noListAll (r.map Stp.data)) = true
    rw [s.noList, stps_noAll r]; rfl
section
variable {P : Program} {w : World} {K : PySem.W.Frag} {mg : Str → Option Value} {base : Heap} {CP : Addr}
abbrev rlsN : List Str := ["texts", "steps", "at", "text", "step"]
theorem scRLs : FnScope rlsN ["texts"] (defScope sReadLines) := ⟨rfl, rfl, rfl, by decide +kernel, rfl, by decide +kernel, by decide +kernel⟩
theorem ok_readLines {f fL : Addr} {fd fdL : FuncData} (F : Fun K "read_lines" "read_lines" sReadLines f fd) (menum : mg "enumerate" = none) (TP : RaiT P w K mg base "BadProgram" CP ["line", "reason"]) (CL : Cal P w K mg base 8 "read_line" fL fdL ["text"] (spReadLine K)) :
    FnOk P w K mg base (L2.CX P w) 9 f fd ["texts"] (spReadLines K CP) := by
  obtain ⟨fP, fdP, iP, tP, FP, bP⟩ := TP.ini
  refine F.okX scRLs (fun vs H Q E h => ?_) (fun cdv A outer s H vs Q E hr h => ?_)
  · obtain ⟨_, _, _, rfl, _⟩ := h
    rfl
  · obtain ⟨l, zs, os, rfl, hl, hz4, hR, kQ, kE⟩ := h
    have hrP : Room 3 _ := hr.mono (by decide)
    refine ⟨_, (pss_cons (ps_set (i := 1) scRLs.nd rfl (.inl rfl) (pe_lst pa_nil)) (pss_cons (ps_for (passes_of rfl) rfl (pi_enum (by rfl) menum (pa_cons (pv 0) pa_nil)) (pg_tup rfl (pgs_cons (pg_name (i := 2) scRLs.nd rfl (.inl rfl)) (pgs_cons (pg_name (i := 3) scRLs.nd rfl (.inl rfl)) pgs_nil))) (pss_cons (ps_set (i := 4) scRLs.nd rfl (.inl rfl) (pe_call CL.ok hr rfl CL.mg CL.kp CL.bi .nil pass0 (pa_cons (pv 3) pa_nil))) (pss_cons (ps_if (pt_cmpR op_isN (pv 4) pe_non (nomark _)) (pss_one (ps_raise rfl (takes_of rfl rfl rfl rfl) (pmk_oex TP.oex iP tP FP hrP bP .nil pass0 rfl TP.mgx (pa_cons (pv 2) (pa_cons pe_str pa_nil))))) pss_nil) (pss_one (ps_expr (pe_bm PySem.F.plainAttrs_list PySem.F.slot_list_append PySem.F.type_list_append mt_append (pv 1) (pa_cons (pv 4) pa_nil))))))) (pss_one (ps_ret (pv 1))))), ?_⟩
    refine ⟨(by show 0 ≤ sizeLine; decide), fun S nS => ?_⟩
    have s0 := same_new (o := .lst []) nS
    refine ⟨_, rfl, l, zs.map V.str, rfl, SqL.of (s0 _ _ hl), for_enum (fun i σ Hx => ∃ (x2 x3 x4 : Option V) (xs : List V) (ss : List Stp), σ = [some (.ref l), some (.ref S), x2, x3, x4] ∧ Hx S = some (.lst xs) ∧ DpAll K Hx xs (ss.map Stp.data) ∧ os.take i = ss.map some ∧ xs.length ≤ i ∧ Same H Hx)
      ⟨none, none, none, [], [], rfl, upd_same, .nil, by simp, Nat.le_refl _, s0⟩ (fun i σ Hx _ ⟨_, _, _, _, _, _, _, _, _, _, sm⟩ => SqL.of (sm _ _ hl)) ?_ ?_⟩
    · rintro i x σ Hx hx ⟨x2, x3, x4, xs, ss, rfl, hS, hd, ht, hln, sm⟩ T nT
      rw [List.getElem?_map] at hx
      obtain ⟨z, hz, rfl⟩ := Option.map_eq_some_iff.mp hx
      obtain ⟨hzl, o, ho, hLR⟩ := hR.2 i z hz
      have hi : i < zs.length := (List.getElem?_eq_some_iff.mp hz).1
      refine ⟨T, _, rfl, SqT.of upd_same, rfl, _, _, rfl, _, _, rfl, rfl, _, rfl, z, o, rfl, hzl, hLR, fun v H1 s1 hv => ⟨_, rfl, rfl, _, rfl, ?_⟩⟩
      have s01 := (same_new (o := .tup [.int (i : Nat), .str z]) nT).trans s1
      cases o with
      | none =>
        refine iteTc (decide_eq_true hv) ⟨_, rfl, mk_bad (n := i) (kE i ?_) (sm.trans s01)⟩
        have := steps_err (n := 0) ht ho
        rwa [Nat.zero_add] at this
      | some s =>
        obtain ⟨a, ys, rfl, _, _⟩ := stp_ref hv
        refine iteFc (decide_eq_false (by intro z; cases z)) ⟨_, rfl, .inl ⟨rfl, _, SqL.of (s01 _ _ hS)⟩, _, rfl, S, xs, .ref a, rfl, rfl, s01 _ _ hS, Nat.lt_of_le_of_lt hln (Nat.lt_trans hi (Nat.lt_of_le_of_lt hz4 (by decide))), ?_⟩
        have k1 : Keeps H1 (upd H1 S (.lst (xs ++ [.ref a]))) := keeps_lst (s01 _ _ hS)
        refine ⟨_, _, _, xs ++ [.ref a], ss ++ [s], rfl, upd_same, ?_, ?_, by simp; omega, ?_⟩
        · have := stps_noAll (ss ++ [s])
          rw [stps_app] at this ⊢
          exact dpAll_keep k1.1 k1.2 (dpAll_snoc hv (dpAll_same s01 hd)) this
        · rw [List.take_add_one, ht, ho, List.map_append]; rfl
        · intro b o' e
          rw [upd_ne (ne_of_none e nS)]
          exact (sm.trans s01) _ _ e
    · rintro σ Hx ⟨x2, x3, x4, xs, ss, rfl, hS, hd, ht, hln, sm⟩
      refine ⟨_, rfl, kQ ss ?_ S xs Hx sm nS hS hd⟩
      rw [List.length_map, ← hR.1, List.take_length] at ht
      rw [ht]
      exact steps_ok
theorem cut_last (xs : List V) : cutV xs (some (-1 : Int)) none = xs.drop (xs.length - 1) := by
  unfold cutV
  have e : HT.sIx xs.length 0 (some (-1 : Int)) = xs.length - 1 := by
    unfold HT.sIx
    simp
    omega
  rw [e, HT.sIx_none]
  exact List.take_of_length_le (by simp)
theorem eqv_strs2 (a b : List Str) : PyData.eqv (.list (a.map PyData.str)) (.list (b.map PyData.str)) = decide (a = b) := by
  have : ∀ a b : List Str, PyData.eqvAll (a.map PyData.str) (b.map PyData.str) = decide (a = b) := by
    intro a
    induction a with
    | nil => intro b; cases b <;> simp [PyData.eqvAll]
    | cons x a ih => intro b; cases b with
      | nil => simp [PyData.eqvAll]
      | cons y b => 
        simp only [List.map_cons, PyData.eqvAll, ih, PyData.eqv]
        rw [Bool.eq_iff_iff]
        simp
  simp only [PyData.eqv, this]
def blkL : List Str := ["if", "while", "else"]
theorem blk_shaped : ∀ x ∈ blkL, SeqAt.shaped (.list [.str x]) = true := by decide +kernel
def spFitsB (K : PySem.W.Frag) : Sp := fun vs H Q _ => ∃ (wd : Str) (b : Addr) (bs : List Str), vs = [.str wd, .ref b] ∧ H b = some (.lst (bs.reverse.map V.str)) ∧ bs.length ≤ 1000 ∧ (∀ x ∈ bs, x ∈ blkL) ∧ ∀ H', Same H H' → Q (.bl (fitsW wd bs)) H'
abbrev bfN : List Str := ["word", "blocks"]
theorem scBF : FnScope bfN ["word", "blocks"] (defScope sBlockFits) := ⟨rfl, rfl, rfl, by decide +kernel, rfl, by decide +kernel, by decide +kernel⟩
theorem ok_blockFits {f : Addr} {fd : FuncData} {tD : Tok} (F : Fun K "block_fits" "block_fits" sBlockFits f fd) (mlen : mg "len" = none) (mdeep : mg "MOST_DEEP" = some (.int 20 tD)) : FnOk P w K mg base CX0 1 f fd ["word", "blocks"] (spFitsB K) := by
  refine F.ok scBF (fun vs H Q E h => ?_) (fun cdv A outer s H vs Q E hr h => ?_)
  · obtain ⟨_, _, _, rfl, _⟩ := h
    rfl
  · obtain ⟨wd, b, bs, rfl, hb, hl, hbl, k⟩ := h
    refine ⟨_, (pss_cons (ps_if (pt_cmpR op_eq (pv 0) pe_str (nomark _)) (pss_one (ps_ret (pe_notT (pv 1)))) pss_nil) (pss_cons (ps_if (PW.pt (pw_or (pt_cmpR op_eq (pv 0) pe_str (nomark _)) (pw_or1 (pt_cmpR op_eq (pv 0) pe_str (nomark _))))) (pss_one (ps_ret (pe_cmpR op_lt (pe_callB call_len_seq (by rfl) mlen PySem.boot_len (pa_cons (pv 1) pa_nil)) (pe_glob (v := .int 20) rfl mdeep ⟨_, rfl⟩) (nomark _)))) pss_nil) (pss_cons (ps_if (pt_cmpR op_eq (pv 0) pe_str (nomark _)) (pss_one (ps_ret (pe_cmpR (op_eqD hr.units) (pe_slice sl_list (pv 1) (po_some (pe_un un_neg pe_int)) po_none) (pe_lst (pa_cons pe_str pa_nil)) (nomark _)))) pss_nil) (pss_one (ps_ret (pe_or (pe_cmpR op_ne (pv 0) pe_str (nomark _)) (pe_one (pe_cmpR op_gt (pe_callB call_len_seq (by rfl) mlen PySem.boot_len (pa_cons (pv 1) pa_nil)) pe_int (nomark _))))))))), ?_⟩
    have dSw : ∀ x y : Str, decide (V.str x = V.str y) = decide (x = y) := fun x y => by
      rw [decide_eq_decide]
      exact ⟨fun h => by injection h, fun h => by rw [h]⟩
    unfold fitsW at k
    refine ⟨_, rfl, rfl, _, rfl, ?_⟩
    rw [dSw]
    by_cases h1 : wd = "process"
    · rw [if_pos h1] at k
      refine iteTc (decide_eq_true h1) ⟨_, rfl, !(bs.reverse.map V.str).isEmpty, .inl ⟨_, SqL.of hb, rfl⟩, ?_⟩
      have := k H (fun _ _ h => h)
      rw [show (!!(bs.reverse.map V.str).isEmpty) = bs.isEmpty by cases bs <;> simp]
      exact this
    rw [if_neg h1] at k
    refine iteFc (decide_eq_false h1) ⟨_, rfl, rfl, _, rfl, ?_⟩
    rw [dSw]
    by_cases h2 : wd = "if"
    · rw [if_pos (.inl h2)] at k
      refine iteTc (decide_eq_true h2) ⟨_, rfl, b, _, rfl, .inl (SqL.of hb), _, _, rfl, rfl, ?_⟩
      show Q (.bl (decide (((bs.reverse.map V.str).length : Int) < 20))) H
      rw [show decide (((bs.reverse.map V.str).length : Int) < 20) = decide (bs.length < 20) by rw [decide_eq_decide]; simp; omega]
      exact k H (fun _ _ h => h)
    refine iteFc (decide_eq_false h2) ⟨_, rfl, rfl, _, rfl, ?_⟩
    rw [dSw]
    by_cases h3 : wd = "while"
    · rw [if_pos (.inr h3)] at k
      refine iteTc (decide_eq_true h3) ⟨_, rfl, b, _, rfl, .inl (SqL.of hb), _, _, rfl, rfl, ?_⟩
      show Q (.bl (decide (((bs.reverse.map V.str).length : Int) < 20))) H
      rw [show decide (((bs.reverse.map V.str).length : Int) < 20) = decide (bs.length < 20) by rw [decide_eq_decide]; simp; omega]
      exact k H (fun _ _ h => h)
    rw [if_neg (by simp [h2, h3])] at k
    refine iteFc (decide_eq_false h3) ⟨_, rfl, rfl, _, rfl, ?_⟩
    rw [dSw]
    by_cases h4 : wd = "else"
    · rw [if_pos h4] at k
      refine iteTc (decide_eq_true h4) ⟨_, rfl, 1, rfl, _, rfl, b, _, rfl, SqL.of hb, fun p np => ⟨(by show 1 ≤ sizeLine; decide), fun q nq => ?_⟩⟩
      have s1 := (same_new (o := HO.lst (cutV (bs.reverse.map V.str) (some (-1)) none)) np).trans (same_new (o := HO.lst [V.str "if"]) nq)
      have ep : upd (upd H p (HO.lst (cutV (bs.reverse.map V.str) (some (-1)) none))) q (HO.lst [V.str "if"]) p = some (.lst (bs.head?.toList.map V.str)) := by
        rw [upd_ne (ne_of_none upd_same nq), upd_same, cut_last]
        cases bs with
        | nil => rfl
        | cons x r => simp
      refine ⟨.list (bs.head?.toList.map PyData.str), .list [.str "if"], .lst (SqL.of ep) ?_, .lst (SqL.of upd_same) (.cons (.str _) .nil), ?_, by decide +kernel, ?_⟩
      · cases bs with
        | nil => exact .nil
        | cons x r => exact .cons (.str _) .nil
      · cases bs with
        | nil => decide +kernel
        | cons x r => exact blk_shaped x (hbl x (by simp))
      · have := k _ s1
        rw [show PyData.eqv (.list (bs.head?.toList.map PyData.str)) (.list [.str "if"]) = decide (bs.head? = some ("if" : Str)) by
          refine (eqv_strs2 _ ["if"]).trans ?_
          rw [decide_eq_decide]
          cases bs with
          | nil => simp
          | cons x r => simp]
        exact this
    rw [if_neg h4] at k
    refine iteFc (decide_eq_false h4) ⟨_, rfl, rfl, _, rfl, ?_⟩
    by_cases h5 : wd = "end"
    · subst h5
      refine iteFc (by decide +kernel) ⟨_, rfl, b, _, rfl, .inl (SqL.of hb), _, _, rfl, rfl, ?_⟩
      have := k H (fun _ _ h => h)
      show Q (.bl (decide ((0 : Int) < ((bs.reverse.map V.str).length : Int)))) H
      rw [show decide ((0 : Int) < ((bs.reverse.map V.str).length : Int)) = decide (0 < bs.length) by rw [decide_eq_decide]; simp]
      exact this
    · have := k H (fun _ _ h => h)
      rw [decide_eq_true h5] at this
      exact iteTc (by rw [dSw, decide_eq_false h5]; rfl) this
theorem eqW (x y : Str) : decide (V.str x = V.str y) = decide (x = y) := by
  rw [decide_eq_decide]
  exact ⟨fun h => by injection h, fun h => by rw [h]⟩
theorem at0 {x : V} {xs : List V} : atI (x :: xs) 0 = some x := atI_nat (xs := x :: xs) (j := 0) rfl
theorem at1 {x y : V} {xs : List V} : atI (x :: y :: xs) 1 = some y := atI_nat (xs := x :: y :: xs) (j := 1) rfl
theorem at2 {x y z : V} {xs : List V} : atI (x :: y :: z :: xs) 2 = some z := atI_nat (xs := x :: y :: z :: xs) (j := 2) rfl
theorem blkF_nil (n : Nat) (bs : List Str) : blkF n bs [] = if bs.isEmpty = true then none else some n := rfl
def spCheckB (K : PySem.W.Frag) (CP : Addr) : Sp := fun vs H Q E => ∃ (l : Addr) (xs : List V) (ss : List Stp), vs = [.ref l] ∧ H l = some (.lst xs) ∧ DpAll K H xs (ss.map Stp.data) ∧ ss.length ≤ 400 ∧
  (blkF 0 [] ss = none → ∀ H', Same H H' → Q .non H') ∧ (∀ n, blkF 0 [] ss = some n → BadAt CP H n "block" E)
theorem dpAll_get {K : PySem.W.Frag} {H : Hp} : ∀ {xs : List V} {ds : List PyData} {i : Nat} {v : V}, DpAll K H xs ds → xs[i]? = some v → ∃ d, ds[i]? = some d ∧ Dp K H v d
  | _, _, i, v, .nil, h => by simp at h
  | _, _, 0, v, .cons a r, h => by simp at h; subst h; exact ⟨_, rfl, a⟩
  | _, _, i + 1, v, .cons a r, h => by simp only [List.getElem?_cons_succ] at h ⊢; exact dpAll_get r h
theorem dpAll_len {K : PySem.W.Frag} {H : Hp} : ∀ {xs : List V} {ds : List PyData}, DpAll K H xs ds → xs.length = ds.length
  | _, _, .nil => rfl
  | _, _, .cons _ r => by rw [List.length_cons, List.length_cons, dpAll_len r]
theorem stp_at {K : PySem.W.Frag} {H : Hp} {xs : List V} {ss : List Stp} {i : Nat} {x : V} (hd : DpAll K H xs (ss.map Stp.data)) (hx : xs[i]? = some x) : ∃ s a ys, ss[i]? = some s ∧ x = .ref a ∧ SqT K H a (.str s.word :: ys) ∧ DpAll K H ys s.rest := by
  obtain ⟨d, h1, h2⟩ := dpAll_get hd hx
  rw [List.getElem?_map] at h1
  obtain ⟨s, h3, rfl⟩ := Option.map_eq_some_iff.mp h1
  obtain ⟨a, ys, h4, h5, h6⟩ := stp_ref h2
  exact ⟨s, a, ys, h3, h4, h5, h6⟩
theorem blkF_cons (n : Nat) (bs : List Str) (s : Stp) (r : List Stp) : blkF n bs (s :: r) = if (n = 0 ∧ s.word ≠ "process") ∨ fitsW s.word bs = false then some n else blkF (n + 1) (pushB s.word bs) r := rfl
theorem push_len {wd : Str} {bs : List Str} : (pushB wd bs).length ≤ bs.length + 1 := by
  unfold pushB
  split
  · simp
  · split
    · cases bs <;> simp
    · split
      · cases bs <;> simp; omega
      · omega
theorem push_blk {wd : Str} {bs : List Str} (h : ∀ x ∈ bs, x ∈ blkL) : ∀ x ∈ pushB wd bs, x ∈ blkL := by
  intro x hx
  have ht : ∀ x ∈ bs.tail, x ∈ blkL := fun x hx => h x (List.mem_of_mem_tail hx)
  unfold pushB at hx
  split at hx
  · rename_i hw
    rcases List.mem_cons.mp hx with rfl | hx
    · rcases hw with rfl | rfl <;> decide +kernel
    · exact h x hx
  · split at hx
    · rename_i hw
      rcases List.mem_cons.mp hx with rfl | hx
      · rw [hw]; decide +kernel
      · exact ht x hx
    · split at hx
      · exact ht x hx
      · exact h x hx
abbrev ckN : List Str := ["steps", "blocks", "at", "step", "word"]
theorem scCk : FnScope ckN ["steps"] (defScope sCheckBlocks) := ⟨rfl, rfl, rfl, by decide +kernel, rfl, by decide +kernel, by decide +kernel⟩
theorem ok_checkBlocks {f fB : Addr} {fd fdB : FuncData} (F : Fun K "check_blocks" "check_blocks" sCheckBlocks f fd) (menum : mg "enumerate" = none) (mlen : mg "len" = none) (TP : RaiT P w K mg base "BadProgram" CP ["line", "reason"]) (CB : Cal P w K mg base 1 "block_fits" fB fdB ["word", "blocks"] (spFitsB K)) :
    FnOk P w K mg base (L2.CX P w) 4 f fd ["steps"] (spCheckB K CP) := by
  obtain ⟨fP, fdP, iP, tP, FP, bP⟩ := TP.ini
  refine F.okX scCk (fun vs H Q E h => ?_) (fun cdv A outer s H vs Q E hr h => ?_)
  · obtain ⟨_, _, _, rfl, _⟩ := h
    rfl
  · obtain ⟨l, xs, ss, rfl, hl, hd, hs4, kQ, kE⟩ := h
    have hrP : Room 3 _ := hr.mono (by decide)
    have hr1 : Room 1 _ := hr.mono (by decide)
    refine ⟨_, (pss_cons (ps_set (i := 1) scCk.nd rfl (.inl rfl) (pe_lst pa_nil)) (pss_cons (ps_for (passes_of rfl) rfl (pi_enum (by rfl) menum (pa_cons (pv 0) pa_nil)) (pg_tup rfl (pgs_cons (pg_name (i := 2) scCk.nd rfl (.inl rfl)) (pgs_cons (pg_name (i := 3) scCk.nd rfl (.inl rfl)) pgs_nil))) (pss_cons (ps_set (i := 4) scCk.nd rfl (.inl rfl) (pe_ix ix_tup (pv 3) pe_int (fun _ _ => rfl))) (pss_cons (ps_if (PW.pt (pw_or (PW.pt (pw_and (pt_cmpR op_eq (pv 2) pe_int (nomark _)) (pw_and1 (pt_cmpR op_ne (pv 4) pe_str (nomark _))))) (pw_or1 (pt_not (pt_val (pe_call CB.ok hr1 rfl CB.mg CB.kp CB.bi .nil pass0 (pa_cons (pv 4) (pa_cons (pv 1) pa_nil)))))))) (pss_one (ps_raise rfl (takes_of rfl rfl rfl rfl) (pmk_oex TP.oex iP tP FP hrP bP .nil pass0 rfl TP.mgx (pa_cons (pv 2) (pa_cons pe_str pa_nil))))) pss_nil) (pss_one (ps_if (PW.pt (pw_or (pt_cmpR op_eq (pv 4) pe_str (nomark _)) (pw_or1 (pt_cmpR op_eq (pv 4) pe_str (nomark _))))) (pss_one (ps_expr (pe_bm PySem.F.plainAttrs_list PySem.F.slot_list_append PySem.F.type_list_append mt_append (pv 1) (pa_cons (pv 4) pa_nil)))) (pss_one (ps_if (pt_cmpR op_eq (pv 4) pe_str (nomark _)) (pss_one (ps_asg (pv 4) (pg_sub (pv 1) (pe_un un_neg pe_int) set_list))) (pss_one (ps_if (pt_cmpR op_eq (pv 4) pe_str (nomark _)) (pss_one (ps_expr (pe_bm0 PySem.F.plainAttrs_list PySem.F.slot_list_pop PySem.F.type_list_pop mt_pop (pv 1)))) pss_nil))))))))) (pss_one (ps_if (pt_truth (pv 1) (by intro _; rfl)) (pss_one (ps_raise rfl (takes_of rfl rfl rfl rfl) (pmk_oex TP.oex iP tP FP hrP bP .nil pass0 rfl TP.mgx (pa_cons (pe_callB call_len_seq (by rfl) mlen PySem.boot_len (pa_cons (pv 0) pa_nil)) (pa_cons pe_str pa_nil))))) pss_nil)))), ?_⟩
    refine ⟨(by show 0 ≤ sizeLine; decide), fun B nB => ?_⟩
    have s0 := same_new (o := .lst []) nB
    have hlen := dpAll_len hd
    rw [List.length_map] at hlen
    refine ⟨_, rfl, l, xs, rfl, SqL.of (s0 _ _ hl), for_enum (fun i σ Hx => ∃ (x2 x3 x4 : Option V) (bs : List Str), σ = [some (.ref l), some (.ref B), x2, x3, x4] ∧ Hx B = some (.lst (bs.reverse.map V.str)) ∧ (∀ x ∈ bs, x ∈ blkL) ∧ bs.length ≤ i ∧ blkF 0 [] ss = blkF i bs (ss.drop i) ∧ Same H Hx)
      ⟨none, none, none, [], rfl, upd_same, (fun _ h => by cases h), Nat.le_refl _, rfl, s0⟩ (fun i σ Hx _ ⟨_, _, _, _, _, _, _, _, _, sm⟩ => SqL.of (sm _ _ hl)) ?_ ?_⟩
    · rintro i x σ Hx hx ⟨x2, x3, x4, bs, rfl, hB, hbl, hbn, hF, sm⟩ T nT
      obtain ⟨s, a, ys, hsi, rfl, ha, _⟩ := stp_at hd hx
      have hi : i < ss.length := (List.getElem?_eq_some_iff.mp hsi).1
      have hdrop : ss.drop i = s :: ss.drop (i + 1) := by
        obtain ⟨h1, h2⟩ := List.getElem?_eq_some_iff.mp hsi
        rw [← h2, List.getElem_cons_drop]
      rw [hdrop, blkF_cons] at hF
      have s1 : Same H (upd Hx T (.tup [.int (i : Nat), .ref a])) := sm.trans (same_new nT)
      have hB1 : upd Hx T (.tup [.int (i : Nat), .ref a]) B = some (.lst (bs.reverse.map V.str)) := same_new nT _ _ hB
      refine ⟨T, _, rfl, SqT.of upd_same, rfl, _, _, rfl, _, _, rfl, rfl, _, rfl, a, _, _, _, rfl, rfl, sqT_same s1 ha, at0, ?_⟩
      generalize upd Hx T (.tup [.int (i : Nat), .ref a]) = H1 at s1 hB1
      refine ⟨_, rfl, rfl, _, rfl, ?_⟩
      have dI0 : decide (V.int (i : Nat) = V.int 0) = decide (i = 0) := by
        rw [decide_eq_decide]
        exact ⟨fun h => by injection h with h; omega, fun h => by rw [h]; rfl⟩
      have hbn4 : bs.length ≤ 1000 := by omega
      have bad : blkF 0 [] ss = some i → ∀ H2, Same H H2 → _ := fun e H2 s2 => mk_bad (K := K) (n := i) (kE i e) s2
      by_cases hc : i = 0 ∧ s.word ≠ "process"
      · rw [if_pos (.inl hc)] at hF
        refine iteTc (by rw [dI0]; exact decide_eq_true hc.1) ⟨_, rfl, rfl, _, rfl, iteTc (by rw [eqW, decide_eq_false hc.2]; rfl) ⟨_, rfl, bad hF _ s1⟩⟩
      rw [dI0]
      have hcc : i ≠ 0 ∨ (i = 0 ∧ s.word = "process") := by
        by_cases h0 : i = 0
        · exact .inr ⟨h0, Classical.byContradiction fun h => hc ⟨h0, h⟩⟩
        · exact .inl h0
      rcases hcc with h0 | ⟨h0, hw⟩
      all_goals first | refine iteFc (decide_eq_false h0) ?_ | refine iteTc (decide_eq_true h0) ⟨_, rfl, rfl, _, rfl, iteFc (by rw [eqW, decide_eq_true hw]; rfl) ?_⟩
      all_goals
        refine ⟨_, rfl, _, rfl, s.word, B, bs, rfl, hB1, hbn4, hbl, fun H2 s2 => ⟨_, rfl, ?_⟩⟩
        have s12 := s1.trans s2
        have hB2 := s2 _ _ hB1
        cases hf : fitsW s.word bs with
        | false =>
          rw [if_pos (.inr hf)] at hF
          exact iteTc rfl ⟨_, rfl, bad hF _ s12⟩
        | true =>
          rw [if_neg (by rw [hf]; simpa using hc)] at hF
          have push : ∀ H3 : Hp, H3 B = some (.lst ((pushB s.word bs).reverse.map V.str)) → Same H H3 → ∃ (x2 x3 x4 : Option V) (bs' : List Str), [some (V.ref l), some (.ref B), some (.int (i : Nat)), some (.ref a), some (.str s.word)] = [some (V.ref l), some (.ref B), x2, x3, x4] ∧ H3 B = some (.lst (bs'.reverse.map V.str)) ∧ (∀ x ∈ bs', x ∈ blkL) ∧ bs'.length ≤ i + 1 ∧ blkF 0 [] ss = blkF (i + 1) bs' (ss.drop (i + 1)) ∧ Same H H3 := fun H3 h3 s3 => ⟨_, _, _, _, rfl, h3, push_blk hbl, Nat.le_trans push_len (by omega), hF, s3⟩
          have updS : ∀ o, Same H (upd H2 B o) := fun o b o' e => by
            rw [upd_ne (ne_of_none e nB)]
            exact s12 _ _ e
          have lt : (bs.reverse.map V.str).length < sizeLine := by
            rw [List.length_map, List.length_reverse]
            exact Nat.lt_of_le_of_lt hbn4 (by decide)
          refine iteFc rfl ⟨_, rfl, rfl, _, rfl, ?_⟩
          rw [eqW]
          by_cases h1 : s.word = "if"
          · refine iteTc (decide_eq_true h1) ⟨_, rfl, .inl ⟨rfl, _, SqL.of hB2⟩, _, rfl, B, _, _, rfl, rfl, hB2, lt, push _ ?_ (updS _)⟩
            rw [upd_same]; unfold pushB; rw [if_pos (.inl h1)]; simp
          refine iteFc (decide_eq_false h1) ⟨_, rfl, rfl, _, rfl, ?_⟩
          rw [eqW]
          by_cases h2 : s.word = "while"
          · refine iteTc (decide_eq_true h2) ⟨_, rfl, .inl ⟨rfl, _, SqL.of hB2⟩, _, rfl, B, _, _, rfl, rfl, hB2, lt, push _ ?_ (updS _)⟩
            rw [upd_same]; unfold pushB; rw [if_pos (.inr h2)]; simp
          have h12 : ¬ (s.word = "if" ∨ s.word = "while") := fun h => h.elim h1 h2
          refine iteFc (decide_eq_false h2) ⟨_, rfl, rfl, _, rfl, ?_⟩
          rw [eqW]
          by_cases h3 : s.word = "else"
          · have hne : ∃ y r, bs = y :: r := by
              cases bs with
              | nil => rw [h3] at hf; exact absurd hf (by decide +kernel)
              | cons y r => exact ⟨y, r, rfl⟩
            obtain ⟨y, r, rfl⟩ := hne
            refine iteTc (decide_eq_true h3) ⟨_, rfl, _, rfl, 1, rfl, B, _, _, r.length, rfl, rfl, hB2, ?_, push _ ?_ (updS _)⟩
            · have := ixN_last r.length
              simpa using this
            · rw [upd_same]; unfold pushB; rw [if_neg h12, if_pos h3]
              have := set_last (r.reverse.map V.str) (.str y) (.str s.word)
              simp only [List.length_map, List.length_reverse] at this
              simp only [List.reverse_cons, List.map_append, List.map_cons, List.map_nil, List.tail_cons]
              rw [this]
          refine iteFc (decide_eq_false h3) ⟨_, rfl, rfl, _, rfl, ?_⟩
          rw [eqW]
          by_cases h4 : s.word = "end"
          · have hne : ∃ y r, bs = y :: r := by
              cases bs with
              | nil => rw [h4] at hf; exact absurd hf (by decide +kernel)
              | cons y r => exact ⟨y, r, rfl⟩
            obtain ⟨y, r, rfl⟩ := hne
            refine iteTc (decide_eq_true h4) ⟨_, rfl, .inl ⟨rfl, _, SqL.of hB2⟩, B, _, .str y, rfl, rfl, hB2, by simp, push _ ?_ (updS _)⟩
            rw [upd_same]; unfold pushB; rw [if_neg h12, if_neg h3, if_pos h4]; simp
          refine iteFc (decide_eq_false h4) (push _ ?_ s12)
          rw [hB2]; unfold pushB; rw [if_neg h12, if_neg h3, if_neg h4]
    · rintro σ Hx ⟨x2, x3, x4, bs, rfl, hB, hbl, hbn, hF, sm⟩
      rw [hlen, List.drop_length, blkF_nil] at hF
      refine ⟨_, rfl, !(bs.reverse.map V.str).isEmpty, .inl ⟨_, SqL.of hB, rfl⟩, ?_⟩
      cases bs with
      | nil =>
        refine iteFc rfl (kQ hF _ sm)
      | cons y r =>
        refine iteTc (by simp) ⟨_, rfl, _, _, rfl, .inl (SqL.of (sm _ _ hl)), ?_⟩
        rw [hlen]
        exact mk_bad (kE _ hF) sm
end
end XE

set_option Elab.async false
set_option linter.all false
set_option maxRecDepth 100000
set_option maxHeartbeats 1000000
namespace XE
open PySem PySem.Spec PyProof.Rows L2 Rx SX
def isProc : Stp → Bool
  | .proc _ => true | _ => false
theorem procs_take : ∀ (ss : List Stp) (i : Nat), (procs (ss.take i)) = (procs ss).take (procs (ss.take i)).length
  | [], i => by simp [procs]
  | s :: r, 0 => by simp [procs]
  | s :: r, i + 1 => by
    have ih := procs_take r i
    cases s <;> simp only [List.take_succ_cons, procs] <;> first | exact ih | (simp only [List.length_cons, List.take_succ_cons]; rw [← ih])
theorem procs_snoc (l : List Stp) (s : Stp) : procs (l ++ [s]) = procs l ++ (match s with | .proc n => [n] | _ => []) := by
  induction l with
  | nil => cases s <;> rfl
  | cons a l ih => cases a <;> simp [procs, ih]
theorem cut_take (xs : List V) (b : Nat) : cutV xs none (some (b : Int)) = xs.take b := by
  unfold cutV
  rw [HT.sIx_none, HT.sIx_nat]
  simp
theorem word_proc (s : Stp) : s.word = "process" ↔ isProc s = true := by
  cases s <;> simp only [Stp.word, isProc] <;> decide +kernel
theorem procs_le (ss : List Stp) : (procs ss).length ≤ ss.length := by
  induction ss with
  | nil => exact Nat.le_refl _
  | cons a l ih => cases a <;> simp [procs] <;> omega
theorem procs_pre (l m : List Stp) : procs (l ++ m) = procs l ++ procs m := by
  induction l with
  | nil => rfl
  | cons a l ih => cases a <;> simp [procs, ih]
theorem rest_one {K : PySem.W.Frag} {H : Hp} {ys : List V} {x : Str} {ds : List PyData} (h : DpAll K H ys (.str x :: ds)) : ∃ zs, ys = .str x :: zs ∧ DpAll K H zs ds := by
  cases h with
  | cons a r => cases a; exact ⟨_, rfl, r⟩
def spCheckN (K : PySem.W.Frag) (CP : Addr) : Sp := fun vs H Q E => ∃ (l : Addr) (xs : List V) (ss : List Stp), vs = [.ref l] ∧ H l = some (.lst xs) ∧ DpAll K H xs (ss.map Stp.data) ∧ ss.length ≤ 400 ∧ (∀ s r, ss = s :: r → isProc s = true) ∧
  (nmF ss = none → ∀ H', Same H H' → Q .non H') ∧ (∀ n, nmF ss = some n → BadAt CP H n "name" E)
section
variable {P : Program} {w : World} {K : PySem.W.Frag} {mg : Str → Option Value} {base : Heap} {CP : Addr}
abbrev cnN : List Str := ["steps", "names", "step", "begun", "at", "other"]
theorem scCn : FnScope cnN ["steps"] (defScope sCheckNames) := ⟨rfl, rfl, rfl, by decide +kernel, rfl, by decide +kernel, by decide +kernel⟩
theorem ok_checkNames {f : Addr} {fd : FuncData} {tM : Tok} (F : Fun K "check_names" "check_names" sCheckNames f fd) (menum : mg "enumerate" = none) (mproc : mg "MOST_PROCESSES" = some (.int 40 tM)) (TP : RaiT P w K mg base "BadProgram" CP ["line", "reason"]) :
    FnOk P w K mg base (L2.CX P w) 4 f fd ["steps"] (spCheckN K CP) := by
  obtain ⟨fP, fdP, iP, tP, FP, bP⟩ := TP.ini
  refine F.okX scCn (fun vs H Q E h => ?_) (fun cdv A outer s H vs Q E hr h => ?_)
  · obtain ⟨_, _, _, rfl, _⟩ := h
    rfl
  · obtain ⟨l, xs, ss, rfl, hl, hd, hs4, hfst, kQ, kE⟩ := h
    have hrP : Room 3 _ := hr.mono (by decide)
    refine ⟨_, (pss_cons (ps_if (pt_not (pt_truth (pv 0) (by intro _; rfl))) (pss_one (ps_raise rfl (takes_of rfl rfl rfl rfl) (pmk_oex TP.oex iP tP FP hrP bP .nil pass0 rfl TP.mgx (pa_cons pe_int (pa_cons pe_str pa_nil))))) pss_nil) (pss_cons (ps_setLc (i := 1) (own := [("step", 2)]) (g := gName 2) (tt := tTest (tOp rEq (tOp (rIxT K) (tVar 2) (tC (.int 0))) (tC (.str "process")))) (te := tOp (rIxT K) (tVar 2) (tC (.int 1))) rfl scCn.nd rfl rfl (sw_true rfl rfl rfl (by decide +kernel)) (pi_list (pv 0)) (blkOk_by (own := [("step", 2)]) (N := cnN) (sc := defScope sCheckNames) (by decide +kernel)) (fun _ _ _ _ _ => (pg_name (i := 2) scCn.nd rfl (Or.inl rfl))) (fun _ _ _ _ _ => pts_one (pt_cmpR op_eq (pe_ix (by exact ix_tup) (pv 2) pe_int (fun _ _ => rfl)) pe_str (nomark _))) (fun _ _ _ _ _ => (pe_ix (by exact ix_tup) (pv 2) pe_int (fun _ _ => rfl)))) (pss_cons (ps_set (i := 3) scCn.nd rfl (.inl rfl) pe_int) (pss_one (ps_for (passes_of rfl) rfl (pi_enum (by rfl) menum (pa_cons (pv 0) pa_nil)) (pg_tup rfl (pgs_cons (pg_name (i := 4) scCn.nd rfl (.inl rfl)) (pgs_cons (pg_name (i := 2) scCn.nd rfl (.inl rfl)) pgs_nil))) (pss_one (ps_if (pt_cmpR op_eq (pe_ix ix_tup (pv 2) pe_int (fun _ _ => rfl)) pe_str (nomark _)) (pss_cons (ps_if (PW.pt (pw_or (pt_cmpR op_eq (pv 3) (pe_glob (v := .int 40) rfl mproc ⟨_, rfl⟩) (nomark _)) (pw_or1 (pt_cmpR op_in_seq (pe_ix ix_tup (pv 2) pe_int (fun _ _ => rfl)) (pe_slice sl_list (pv 1) po_none (po_some (pv 3))) rfl)))) (pss_one (ps_raise rfl (takes_of rfl rfl rfl rfl) (pmk_oex TP.oex iP tP FP hrP bP .nil pass0 rfl TP.mgx (pa_cons (pv 4) (pa_cons pe_str pa_nil))))) pss_nil) (pss_one (ps_aug (i := 3) scCn.nd rfl (.inl rfl) pe_int iop_add))) (pss_one (ps_if (PW.pt (pw_or (pt_cmpR op_eq (pe_ix ix_tup (pv 2) pe_int (fun _ _ => rfl)) pe_str (nomark _)) (pw_or1 (pt_cmpR op_eq (pe_ix ix_tup (pv 2) pe_int (fun _ _ => rfl)) pe_str (nomark _))))) (pss_cons (ps_set (i := 5) scCn.nd rfl (.inl rfl) (pe_ifExp (pt_cmpR op_eq (pe_ix ix_tup (pv 2) pe_int (fun _ _ => rfl)) pe_str (nomark _)) (pe_ix ix_tup (pv 2) pe_int (fun _ _ => rfl)) (pe_ix ix_tup (pv 2) pe_int (fun _ _ => rfl)))) (pss_one (ps_if (PW.pt (pw_or (pt_cmpR op_notIn_seq (pv 5) (pv 1) rfl) (pw_or1 (pt_cmpR op_eq (pv 5) (pe_ix ix_list (pv 1) (pe_op op_sub (pv 3) pe_int) (fun _ _ => rfl)) (nomark _))))) (pss_one (ps_raise rfl (takes_of rfl rfl rfl rfl) (pmk_oex TP.oex iP tP FP hrP bP .nil pass0 rfl TP.mgx (pa_cons (pv 4) (pa_cons pe_str pa_nil))))) pss_nil))) pss_nil))))))))), ?_⟩
    have hlen := dpAll_len hd
    rw [List.length_map] at hlen
    refine ⟨_, rfl, !xs.isEmpty, .inl ⟨_, SqL.of hl, rfl⟩, ?_⟩
    cases ss with
    | nil =>
      cases hd
      exact iteTc rfl (mk_bad (n := 0) (kE 0 rfl) (fun _ _ h => h))
    | cons s0 r0 =>
    generalize hss : s0 :: r0 = ss at *
    have hne : xs.isEmpty = false := by
      cases xs with
      | nil => rw [← hss] at hlen; cases hlen
      | cons _ _ => rfl
    refine iteFc (by rw [hne]; rfl) ?_
    refine ⟨_, rfl, l, rfl, ⟨_, SqL.of hl⟩, fun D hD => ?_⟩
    refine lc_list (K := K) (a := l) (xs := xs) (fun i Hx => Hx D = some (.lst ((procs (ss.take i)).map V.str)) ∧ Same H Hx) ⟨by rw [List.take_zero]; exact upd_same, same_new hD⟩ (fun i Hx _ q => SqL.of (q.2 _ _ hl)) ?_ ?_
    · rintro i x Hx hx ⟨hD1, sm⟩
      obtain ⟨s, a, ys, hsi, rfl, ha, hys⟩ := stp_at hd hx
      refine ⟨rfl, _, rfl, a, _, _, _, rfl, rfl, sqT_same sm ha, at0, rfl, _, rfl, ?_⟩
      rw [eqW]
      have htk : procs (ss.take (i + 1)) = procs (ss.take i) ++ procs [s] := by
        rw [List.take_add_one, hsi, procs_pre]; rfl
      rw [htk]
      by_cases hw : s.word = "process"
      · cases s with
        | proc n =>
          obtain ⟨zs, rfl, _⟩ := rest_one hys
          refine iteTc (decide_eq_true hw) ⟨_, rfl, a, _, _, _, rfl, rfl, sqT_same sm ha, at1, _, hD1, ?_, ?_, ?_⟩
          · rw [List.length_map]
            have h1 := procs_le (ss.take i)
            rw [List.length_take] at h1
            exact Nat.lt_of_le_of_lt (by omega) (by decide : 400 < sizeLine)
          · rw [upd_same]; simp [procs]
          · intro b o e
            rw [upd_ne (ne_of_none e hD)]
            exact sm _ _ e
        | _ => exact absurd hw (by simp only [Stp.word]; decide +kernel)
      · refine iteFc (decide_eq_false hw) ⟨?_, sm⟩
        rw [hD1]
        cases s with
        | proc n => exact absurd rfl hw
        | _ => simp [procs]
    · rintro H2 ⟨hD2, sm2⟩
      rw [hlen, List.take_length] at hD2
      have hpl := procs_le ss
      refine ⟨_, rfl, l, xs, rfl, SqL.of (sm2 _ _ hl), for_enum (fun i σ Hx => ∃ (x2 x4 x5 : Option V), σ = [some (.ref l), some (.ref D), x2, some (.int ((procs (ss.take i)).length : Nat)), x4, x5] ∧ nmF ss = nmG (procs ss) i (procs (ss.take i)).length (ss.drop i) ∧ Hx D = some (.lst ((procs ss).map V.str)) ∧ Same H Hx ∧ (i = 0 ∨ 1 ≤ (procs (ss.take i)).length))
        ⟨_, _, _, rfl, by rw [← hss]; rfl, hD2, sm2, .inl rfl⟩ (fun i σ Hx _ ⟨_, _, _, _, _, _, sm, _⟩ => SqL.of (sm _ _ hl)) ?_ ?_⟩
      · rintro i x σ Hx hx ⟨x2, x4, x5, rfl, hF, hDx, sm, hb0⟩ T nT
        obtain ⟨s, a, ys, hsi, rfl, ha, hys⟩ := stp_at hd hx
        have hi : i < ss.length := (List.getElem?_eq_some_iff.mp hsi).1
        have hdrop : ss.drop i = s :: ss.drop (i + 1) := by
          obtain ⟨h1, h2⟩ := List.getElem?_eq_some_iff.mp hsi
          rw [← h2, List.getElem_cons_drop]
        rw [hdrop] at hF
        have htk : procs (ss.take (i + 1)) = procs (ss.take i) ++ procs [s] := by
          rw [List.take_add_one, hsi, procs_pre]; rfl
        have hpt := congrArg List.length (procs_take ss i)
        have hpre : (procs (ss.take i)).length ≤ (procs ss).length := by
          have : procs ss = procs (ss.take i) ++ procs (ss.drop i) := by rw [← procs_pre, List.take_append_drop]
          rw [this, List.length_append]; omega
        have s1 : Same H (upd Hx T (.tup [.int (i : Nat), .ref a])) := sm.trans (same_new nT)
        have hD1 : upd Hx T (.tup [.int (i : Nat), .ref a]) D = some (.lst ((procs ss).map V.str)) := same_new nT _ _ hDx
        have hi0 : isProc s = false → i ≠ 0 := fun hp h0 => by
          subst h0
          rw [← hss] at hsi hfst
          injection hsi with hsi
          rw [← hsi] at hp
          rw [hfst s0 r0 rfl] at hp
          cases hp
        refine ⟨T, _, rfl, SqT.of upd_same, rfl, _, _, rfl, _, _, rfl, rfl, _, rfl, a, _, _, _, rfl, rfl, sqT_same s1 ha, at0, rfl, _, rfl, ?_⟩
        generalize upd Hx T (.tup [.int (i : Nat), .ref a]) = H1 at s1 hD1
        have ha1 := sqT_same s1 ha
        rw [eqW]
        have next : ∀ b : Nat, (procs (ss.take (i + 1))).length = b → ∀ H' : Hp, Same H H' → H' D = some (.lst ((procs ss).map V.str)) → ∀ (x4 x5 : Option V), nmF ss = nmG (procs ss) (i + 1) b (ss.drop (i + 1)) → 1 ≤ b → ∃ (x2' x4' x5' : Option V), [some (V.ref l), some (.ref D), some (.ref a), some (.int (b : Nat)), x4, x5] = [some (V.ref l), some (.ref D), x2', some (.int ((procs (ss.take (i + 1))).length : Nat)), x4', x5'] ∧ nmF ss = nmG (procs ss) (i + 1) (procs (ss.take (i + 1))).length (ss.drop (i + 1)) ∧ H' D = some (.lst ((procs ss).map V.str)) ∧ Same H H' ∧ (i + 1 = 0 ∨ 1 ≤ (procs (ss.take (i + 1))).length) := fun b hb H' s' hD' x4 x5 h1 h2 => by
          subst hb
          exact ⟨_, _, _, rfl, h1, hD', s', .inr h2⟩
        cases s with
        | proc n =>
          obtain ⟨zs, rfl, _⟩ := rest_one hys
          have hlk : (procs (ss.take (i + 1))).length = (procs (ss.take i)).length + 1 := by rw [htk]; simp [procs]
          refine iteTc (decide_eq_true rfl) ⟨_, rfl, rfl, _, rfl, ?_⟩
          have d40 : decide (V.int ((procs (ss.take i)).length : Nat) = V.int 40) = decide ((procs (ss.take i)).length = 40) := by
            rw [decide_eq_decide]
            exact ⟨fun h => by injection h with h; omega, fun h => by rw [h]; rfl⟩
          rw [d40]
          have hF' : nmF ss = if (procs (ss.take i)).length = 40 ∨ n ∈ (procs ss).take (procs (ss.take i)).length then some i else nmG (procs ss) (i + 1) ((procs (ss.take i)).length + 1) (ss.drop (i + 1)) := hF
          by_cases h4 : (procs (ss.take i)).length = 40
          · rw [if_pos (.inl h4)] at hF'
            exact iteTc (decide_eq_true h4) ⟨_, rfl, mk_bad (K := K) (n := i) (kE i hF') s1⟩
          refine iteFc (decide_eq_false h4) ⟨_, rfl, a, _, _, _, rfl, rfl, ha1, at1, _, rfl, _, rfl, _, rfl, D, _, rfl, SqL.of hD1, fun p np => ⟨p, _, rfl, .inl (SqL.of upd_same), rfl, ?_⟩⟩
          rw [cut_take, ← List.map_take]
          refine ⟨flat_strs _, _, rfl, ?_⟩
          rw [inV_strs]
          have s2 := s1.trans (same_new (o := .lst (((procs ss).take (procs (ss.take i)).length).map V.str)) np)
          cases hm : ((procs ss).take (procs (ss.take i)).length).contains n with
          | true =>
            rw [if_pos (.inr (List.contains_iff_mem.mp hm))] at hF'
            exact iteTc rfl ⟨_, rfl, mk_bad (K := K) (n := i) (kE i hF') s2⟩
          | false =>
            rw [if_neg (fun h => h.elim h4 (fun h => by rw [List.contains_iff_mem.mpr h] at hm; cases hm))] at hF'
            refine iteFc rfl ⟨_, rfl, _, _, rfl, rfl, ?_⟩
            exact next _ hlk _ s2 (same_new np _ _ hD1) _ _ hF' (by omega)
        | send p t =>
          have hi0 := hi0 rfl
          have hlk : (procs (ss.take (i + 1))).length = (procs (ss.take i)).length := by rw [htk]; simp [procs]
          have hF : nmF ss = if p ∉ procs ss ∨ (procs ss)[(procs (ss.take i)).length - 1]? = some p then some i else nmG (procs ss) (i + 1) (procs (ss.take i)).length (ss.drop (i + 1)) := hF
          obtain ⟨zs, rfl, hzs⟩ := rest_one hys
          refine iteFc (decide_eq_false (by simp only [Stp.word]; decide +kernel)) ⟨_, rfl, a, _, _, _, rfl, rfl, ha1, at0, rfl, _, rfl, iteTc (by rw [eqW]; exact decide_eq_true rfl) ⟨_, rfl, a, _, _, _, rfl, rfl, ha1, at0, rfl, _, rfl, iteTc (by rw [eqW]; exact decide_eq_true rfl) ⟨_, rfl, a, _, _, _, rfl, rfl, ha1, at1, ?_⟩⟩⟩
          have hb1 : 1 ≤ (procs (ss.take i)).length := hb0.resolve_left hi0
          have hbm : (procs (ss.take i)).length - 1 < (procs ss).length := by omega
          have hget : (procs ss)[(procs (ss.take i)).length - 1]? = some ((procs ss)[(procs (ss.take i)).length - 1]) := List.getElem?_eq_getElem hbm
          refine ⟨_, rfl, _, rfl, D, _, rfl, .inl (SqL.of hD1), rfl, flat_strs _, _, rfl, ?_⟩
          rw [inV_strs]
          by_cases hm : (procs ss).contains p = true
          · refine iteFc (by rw [hm]; rfl) ⟨_, rfl, _, rfl, _, rfl, _, _, rfl, rfl, D, _, _, .str ((procs ss)[(procs (ss.take i)).length - 1]), rfl, rfl, SqL.of hD1, ?_, rfl, _, rfl, ?_⟩
            · rw [show (((procs (ss.take i)).length : Int) - 1) = (((procs (ss.take i)).length - 1 : Nat) : Int) by omega]
              refine atI_nat ?_
              rw [List.getElem?_map, hget]; rfl
            · rw [eqW]
              by_cases he : p = (procs ss)[(procs (ss.take i)).length - 1]
              · rw [if_pos (.inr (by rw [hget, he]))] at hF
                exact iteTc (decide_eq_true he) ⟨_, rfl, mk_bad (K := K) (n := i) (kE i hF) s1⟩
              · rw [if_neg (by rw [hget]; exact fun h => h.elim (fun h => h (List.contains_iff_mem.mp hm)) (fun h => he (by injection h with h; exact h.symm)))] at hF
                exact iteFc (decide_eq_false he) (next _ hlk H1 s1 hD1 _ _ hF hb1)
          · rw [if_pos (.inl (fun h => hm (List.contains_iff_mem.mpr h)))] at hF
            refine iteTc (by rw [Bool.eq_false_iff.mpr hm]; rfl) ⟨_, rfl, mk_bad (K := K) (n := i) (kE i hF) s1⟩
        | recv x p =>
          have hi0 := hi0 rfl
          have hlk : (procs (ss.take (i + 1))).length = (procs (ss.take i)).length := by rw [htk]; simp [procs]
          have hF : nmF ss = if p ∉ procs ss ∨ (procs ss)[(procs (ss.take i)).length - 1]? = some p then some i else nmG (procs ss) (i + 1) (procs (ss.take i)).length (ss.drop (i + 1)) := hF
          obtain ⟨zs, rfl, hzs⟩ := rest_one hys
          obtain ⟨zs, rfl, _⟩ := rest_one hzs
          refine iteFc (decide_eq_false (by simp only [Stp.word]; decide +kernel)) ⟨_, rfl, a, _, _, _, rfl, rfl, ha1, at0, rfl, _, rfl, iteFc (by rw [eqW]; exact decide_eq_false (by simp only [Stp.word]; decide +kernel)) ⟨_, rfl, a, _, _, _, rfl, rfl, ha1, at0, rfl, _, rfl, iteTc (by rw [eqW]; exact decide_eq_true rfl) ⟨_, rfl, a, _, _, _, rfl, rfl, ha1, at0, rfl, _, rfl, iteFc (by rw [eqW]; exact decide_eq_false (by simp only [Stp.word]; decide +kernel)) ⟨_, rfl, a, _, _, _, rfl, rfl, ha1, at2, ?_⟩⟩⟩⟩
          have hb1 : 1 ≤ (procs (ss.take i)).length := hb0.resolve_left hi0
          have hbm : (procs (ss.take i)).length - 1 < (procs ss).length := by omega
          have hget : (procs ss)[(procs (ss.take i)).length - 1]? = some ((procs ss)[(procs (ss.take i)).length - 1]) := List.getElem?_eq_getElem hbm
          refine ⟨_, rfl, _, rfl, D, _, rfl, .inl (SqL.of hD1), rfl, flat_strs _, _, rfl, ?_⟩
          rw [inV_strs]
          by_cases hm : (procs ss).contains p = true
          · refine iteFc (by rw [hm]; rfl) ⟨_, rfl, _, rfl, _, rfl, _, _, rfl, rfl, D, _, _, .str ((procs ss)[(procs (ss.take i)).length - 1]), rfl, rfl, SqL.of hD1, ?_, rfl, _, rfl, ?_⟩
            · rw [show (((procs (ss.take i)).length : Int) - 1) = (((procs (ss.take i)).length - 1 : Nat) : Int) by omega]
              refine atI_nat ?_
              rw [List.getElem?_map, hget]; rfl
            · rw [eqW]
              by_cases he : p = (procs ss)[(procs (ss.take i)).length - 1]
              · rw [if_pos (.inr (by rw [hget, he]))] at hF
                exact iteTc (decide_eq_true he) ⟨_, rfl, mk_bad (K := K) (n := i) (kE i hF) s1⟩
              · rw [if_neg (by rw [hget]; exact fun h => h.elim (fun h => h (List.contains_iff_mem.mp hm)) (fun h => he (by injection h with h; exact h.symm)))] at hF
                exact iteFc (decide_eq_false he) (next _ hlk H1 s1 hD1 _ _ hF hb1)
          · rw [if_pos (.inl (fun h => hm (List.contains_iff_mem.mpr h)))] at hF
            refine iteTc (by rw [Bool.eq_false_iff.mpr hm]; rfl) ⟨_, rfl, mk_bad (K := K) (n := i) (kE i hF) s1⟩
        | _ =>
          have hi0 := hi0 rfl
          have hlk : (procs (ss.take (i + 1))).length = (procs (ss.take i)).length := by rw [htk]; simp [procs]
          have next := next _ hlk H1 s1 hD1 (some (.int (i : Nat))) x5 hF (hb0.resolve_left hi0)
          refine iteFc (decide_eq_false (by simp only [Stp.word]; decide +kernel)) ⟨_, rfl, a, _, _, _, rfl, rfl, ha1, at0, rfl, _, rfl, iteFc (by rw [eqW]; exact decide_eq_false (by simp only [Stp.word]; decide +kernel)) ⟨_, rfl, a, _, _, _, rfl, rfl, ha1, at0, rfl, _, rfl, iteFc (by rw [eqW]; exact decide_eq_false (by simp only [Stp.word]; decide +kernel)) next⟩⟩
      · rintro σ Hx ⟨x2, x4, x5, rfl, hF, hDx, sm, hb0⟩
        rw [hlen, List.drop_length] at hF
        exact kQ hF _ sm
end
end XE

set_option Elab.async false
set_option linter.all false
set_option maxRecDepth 100000
set_option maxHeartbeats 1000000
namespace Rx
open PySem PySem.Spec PyProof.Rows L2 SX
/-! ### what holds while the rows are built -/
def trOk (t : Tr) : Prop := t.gt ∧ t.sz ≤ 9010
inductive BI : List Str → List Stp → List (List Smt) → Prop
  | nil {p : List Smt} : sok p → sdep p ≤ 20 → BI [] [] [p]
  | iff {bs : List Str} {hs : List Stp} {ps : List (List Smt)} {p : List Smt} {t : Tr} : BI bs hs ps → trOk t → sok p → sdep p + (bs.length + 1) ≤ 20 → BI ("if" :: bs) (.iff t :: hs) (p :: ps)
  | whil {bs : List Str} {hs : List Stp} {ps : List (List Smt)} {p : List Smt} {t : Tr} : BI bs hs ps → trOk t → sok p → sdep p + (bs.length + 1) ≤ 20 → BI ("while" :: bs) (.whil t :: hs) (p :: ps)
  | els {bs : List Str} {hs : List Stp} {ps : List (List Smt)} {p e : List Smt} {t : Tr} : BI bs hs ps → trOk t → sok p → sdep p + (bs.length + 1) ≤ 20 → sok e → sdep e + (bs.length + 1) ≤ 20 → BI ("else" :: bs) (.els :: .iff t :: hs) (e :: p :: ps)
def cntP (ps : List (List Smt)) : Nat := (ps.map fun p => (slines p).length).sum
def cntR (rs : List (Str × List Smt)) : Nat := (rs.map fun r => 1 + (slines r.2).length).sum
def RowOk (r : Str × List Smt) : Prop := isName (cod r.1) = true ∧ sok r.2 ∧ sdep r.2 ≤ 20
structure PInv (bs : List Str) (b : BSt) (k : Nat) : Prop where
  bi : BI bs b.heads b.parts
  rows : ∀ r ∈ b.rows, RowOk r
  cur : isName (cod b.cur) = true
  cnt : cntR b.rows + 1 + cntP b.parts + b.heads.length ≤ k
theorem sok_snoc {p : List Smt} {x : Smt} (h : sok p) (k : x.ok) : sok (p ++ [x]) := sok_iff.mpr fun s hs => by
  rcases List.mem_append.mp hs with h1 | h1
  · exact sok_iff.mp h s h1
  · rw [List.mem_singleton.mp h1]; exact k
theorem sdep_snoc {p : List Smt} {x : Smt} {n : Nat} (h : sdep p ≤ n) (k : x.dep ≤ n) : sdep (p ++ [x]) ≤ n := sdep_le.mpr fun s hs => by
  rcases List.mem_append.mp hs with h1 | h1
  · exact sdep_le.mp h s h1
  · rw [List.mem_singleton.mp h1]; exact k
theorem sdep_add {p : List Smt} {x : Smt} {m : Nat} (h : sdep p + m ≤ 20) (k : x.dep + m ≤ 20) : sdep (p ++ [x]) + m ≤ 20 := by
  have := sdep_snoc (n := 20 - m) (p := p) (x := x) (by omega) (by omega)
  omega
theorem slines_one (x : Smt) : slines [x] = x.lines := by simp [slines]
/-- a statement goes to the last part -/
theorem BI.add {bs : List Str} {hs : List Stp} {p : List Smt} {ps : List (List Smt)} {x : Smt} (h : BI bs hs (p :: ps)) (k : x.ok) (d : x.dep + bs.length ≤ 20) : BI bs hs ((p ++ [x]) :: ps) := by
  cases h with
  | nil h1 h2 => exact .nil (sok_snoc h1 k) (sdep_snoc h2 (by simpa using d))
  | iff h1 h2 h3 h4 => exact .iff h1 h2 (sok_snoc h3 k) (sdep_add (by omega) (by simpa using d))
  | whil h1 h2 h3 h4 => exact .whil h1 h2 (sok_snoc h3 k) (sdep_add (by omega) (by simpa using d))
  | els h1 h2 h3 h4 h5 h6 => exact .els h1 h2 h3 h4 (sok_snoc h5 k) (sdep_add (by omega) (by simpa using d))
theorem BI.len {bs : List Str} {hs : List Stp} {ps : List (List Smt)} (h : BI bs hs ps) : bs.length ≤ 20 ∧ ps.length = hs.length + 1 := by
  induction h with
  | nil _ _ => simp
  | iff h1 h2 h3 h4 ih => simp only [List.length_cons]; omega
  | whil h1 h2 h3 h4 ih => simp only [List.length_cons]; omega
  | els h1 h2 h3 h4 h5 h6 ih => simp only [List.length_cons]; omega
theorem BI.ne {bs : List Str} {hs : List Stp} {ps : List (List Smt)} (h : BI bs hs ps) : ∃ p r, ps = p :: r := by
  cases h <;> exact ⟨_, _, rfl⟩
theorem pinv_add {bs : List Str} {b : BSt} {k n : Nat} {x : Smt} (h : PInv bs b k) (hx : x.ok) (d : x.dep + bs.length ≤ 20) (l : k + x.lines.length ≤ n) : PInv bs (b.add x) n := by
  obtain ⟨p, r, e⟩ := h.bi.ne
  have hb := h.bi
  have hc := h.cnt
  unfold BSt.add
  rw [e] at hb hc ⊢
  refine ⟨hb.add hx d, h.rows, h.cur, ?_⟩
  simp only [cntP, List.map_cons, List.sum_cons, slines_app, slines_one, List.length_append] at hc ⊢
  omega
theorem fitsW_if {w : Str} {bs : List Str} (hw : w = "if" ∨ w = "while") (h : fitsW w bs = true) : bs.length < 20 := by
  unfold fitsW at h
  rcases hw with rfl | rfl
  · rw [if_neg (by decide +kernel), if_pos (.inl rfl)] at h; simpa using h
  · rw [if_neg (by decide +kernel), if_pos (.inr rfl)] at h; simpa using h
theorem fitsW_else {bs : List Str} (h : fitsW "else" bs = true) : bs.head? = some ("if" : Str) := by
  unfold fitsW at h
  rw [if_neg (by decide +kernel), if_neg (by decide +kernel), if_pos rfl] at h
  simpa using h
theorem fitsW_end {bs : List Str} (h : fitsW "end" bs = true) : bs ≠ [] := by
  intro e
  subst e
  revert h
  decide +kernel
theorem fitsW_proc {bs : List Str} (h : fitsW "process" bs = true) : bs = [] := by
  unfold fitsW at h
  rw [if_pos rfl] at h
  cases bs with
  | nil => rfl
  | cons _ _ => cases h
theorem cntR_app (a b : List (Str × List Smt)) : cntR (a ++ b) = cntR a + cntR b := by simp [cntR]
theorem cntR_one (r : Str × List Smt) : cntR [r] = 1 + (slines r.2).length := by simp [cntR]
theorem pushW (bs : List Str) : pushB "if" bs = ("if" : Str) :: bs ∧ pushB "while" bs = ("while" : Str) :: bs ∧ pushB "else" bs = ("else" : Str) :: bs.tail ∧ pushB "end" bs = bs.tail ∧ pushB "process" bs = bs ∧ pushB "take" bs = bs ∧ pushB "input" bs = bs ∧ pushB "receive" bs = bs ∧ pushB "set" bs = bs ∧ pushB "send" bs = bs ∧ pushB "checkpoint" bs = bs := by
  refine ⟨rfl, ?_, ?_, ?_, ?_, ?_, ?_, ?_, ?_, ?_, ?_⟩ <;> (unfold pushB; first | (rw [if_pos (.inr rfl)]) | (rw [if_neg (by decide +kernel)]; first | (rw [if_pos rfl]; done) | (rw [if_neg (by decide +kernel)]; first | (rw [if_pos rfl]; done) | (rw [if_neg (by decide +kernel)]))))
theorem txts (t : Tr) (b : List Smt) : (Smt.wh t b).lines.length = 2 + (slines b).length := by simp [Smt.lines]; omega
theorem ife_len (t : Tr) (p e : List Smt) : (Smt.ife t p e).lines.length ≤ 3 + ((slines p).length + (slines e).length) := by
  have hif : (if e.isEmpty = true then ([] : List Str) else ("else" : Str) :: slines e).length ≤ 1 + (slines e).length := by split <;> simp <;> omega
  unfold Smt.lines
  simp only [List.length_append, List.length_cons, List.length_nil]
  omega
theorem pinv_step {bs : List Str} {b : BSt} {k : Nat} {s : Stp} (h : PInv bs b k) (hg : s.good) (hf : fitsW s.word bs = true) : PInv (pushB s.word bs) (b.step s) (k + 1) := by
  obtain ⟨p1, p2, p3, p4, p5, p6, p7, p8, p9, p10, p11⟩ := pushW bs
  have leaf : ∀ s : Stp, leafS s = true → s.good → PInv bs (b.add (.lf s)) (k + 1) := fun s hl hg => pinv_add h (x := .lf s) ⟨hl, hg⟩ (by show 0 + bs.length ≤ 20; have := h.bi.len.1; omega) (by show k + [s.text].length ≤ k + 1; simp)
  cases s with
  | take x => rw [show (Stp.take x).word = "take" from rfl, p6]; exact leaf _ rfl hg
  | inp x => rw [show (Stp.inp x).word = "input" from rfl, p7]; exact leaf _ rfl hg
  | recv x y => rw [show (Stp.recv x y).word = "receive" from rfl, p8]; exact leaf _ rfl hg
  | set x t => rw [show (Stp.set x t).word = "set" from rfl, p9]; exact leaf _ rfl hg
  | send x t => rw [show (Stp.send x t).word = "send" from rfl, p10]; exact leaf _ rfl hg
  | chk => rw [show Stp.chk.word = "checkpoint" from rfl, p11]; exact leaf _ rfl hg
  | iff t =>
    rw [show (Stp.iff t).word = "if" from rfl, p1]
    have hl := fitsW_if (.inl rfl) hf
    have hc := h.cnt
    exact ⟨.iff h.bi hg trivial (by show 0 + _ ≤ _; omega), h.rows, h.cur, by simp only [BSt.step, cntP, List.map_cons, List.sum_cons, slines, List.length_cons, List.length_nil] at hc ⊢; omega⟩
  | whil t =>
    rw [show (Stp.whil t).word = "while" from rfl, p2]
    have hl := fitsW_if (.inr rfl) hf
    have hc := h.cnt
    exact ⟨.whil h.bi hg trivial (by show 0 + _ ≤ _; omega), h.rows, h.cur, by simp only [BSt.step, cntP, List.map_cons, List.sum_cons, slines, List.length_cons, List.length_nil] at hc ⊢; omega⟩
  | els =>
    rw [show Stp.els.word = "else" from rfl, p3]
    have hh := fitsW_else hf
    have hc := h.cnt
    have hb := h.bi
    unfold BSt.step
    dsimp only
    generalize b.parts = ps at hb hc ⊢
    generalize b.heads = hs at hb hc ⊢
    cases hb with
    | nil _ _ => cases hh
    | iff g1 g2 g3 g4 => exact ⟨.els g1 g2 g3 g4 trivial (by have : sdep [] = 0 := rfl; simp only [List.tail_cons]; omega), h.rows, h.cur, by simp only [cntP, List.map_cons, List.sum_cons, slines, List.length_cons, List.length_nil] at hc ⊢; omega⟩
    | whil g1 g2 g3 g4 => simp only [List.head?_cons, Option.some.injEq] at hh; exact absurd hh (by decide +kernel)
    | els g1 g2 g3 g4 g5 g6 => simp only [List.head?_cons, Option.some.injEq] at hh; exact absurd hh (by decide +kernel)
  | proc n =>
    rw [show (Stp.proc n).word = "process" from rfl, p5]
    have hb0 := fitsW_proc hf
    subst hb0
    have hc := h.cnt
    have hb := h.bi
    have hr := h.rows
    unfold BSt.step BSt.fin
    dsimp only
    generalize b.parts = ps at hb hc ⊢
    generalize b.heads = hs at hb hc ⊢
    cases hb with
    | nil g1 g2 =>
      refine ⟨.nil trivial (Nat.zero_le _), fun r hr' => ?_, hg, ?_⟩
      · rcases List.mem_append.mp hr' with h1 | h1
        · exact hr r h1
        · rw [List.mem_singleton.mp h1]; exact ⟨h.cur, g1, g2⟩
      · simp only [cntR_app, cntR_one, cntP, List.map_cons, List.map_nil, List.sum_cons, List.sum_nil, slines, List.length_nil] at hc ⊢; omega
  | fin =>
    rw [show Stp.fin.word = "end" from rfl, p4]
    have hne := fitsW_end hf
    have hc := h.cnt
    have hb := h.bi
    have hl := h.bi.len
    unfold BSt.step BSt.close
    dsimp only
    generalize hps : b.parts = ps at hb hc ⊢
    generalize hhs : b.heads = hs at hb hc ⊢
    cases hb with
    | nil _ _ => exact absurd rfl hne
    | @iff bs hs ps p t g1 g2 g3 g4 =>
      refine pinv_add (k := k - 1 - (slines p).length) ⟨g1, h.rows, h.cur, ?_⟩ ⟨g2.1, g2.2, g3, trivial⟩ ?_ ?_
      · simp only [cntP, List.map_cons, List.sum_cons, List.length_cons] at hc ⊢; omega
      · show (max (sdep p) (sdep []) + 1) + bs.length ≤ 20
        have : sdep [] = 0 := rfl
        omega
      · simp only [cntP, List.map_cons, List.sum_cons, List.length_cons, Smt.lines, slines, List.isEmpty_nil, if_true, List.length_append, List.length_nil] at hc ⊢; omega
    | @whil bs hs ps p t g1 g2 g3 g4 =>
      refine pinv_add (k := k - 1 - (slines p).length) ⟨g1, h.rows, h.cur, ?_⟩ ⟨g2.1, g2.2, g3⟩ ?_ ?_
      · simp only [cntP, List.map_cons, List.sum_cons, List.length_cons] at hc ⊢; omega
      · show (sdep p + 1) + bs.length ≤ 20
        omega
      · simp only [cntP, List.map_cons, List.sum_cons, List.length_cons, Smt.lines, List.length_append, List.length_nil] at hc ⊢; omega
    | @els bs hs ps p e t g1 g2 g3 g4 g5 g6 =>
      refine pinv_add (k := k - 2 - (slines p).length - (slines e).length) ⟨g1, h.rows, h.cur, ?_⟩ ⟨g2.1, g2.2, g3, g5⟩ ?_ ?_
      · simp only [cntP, List.map_cons, List.sum_cons, List.length_cons] at hc ⊢; omega
      · show (max (sdep p) (sdep e) + 1) + bs.length ≤ 20
        omega
      · have := ife_len t p e
        simp only [cntP, List.map_cons, List.sum_cons, List.length_cons] at hc ⊢; omega
/-- all of a program -/
theorem pinv_run : ∀ {ss : List Stp} {n : Nat} {bs : List Str} {b : BSt} {k : Nat}, PInv bs b k → (∀ s ∈ ss, s.good) → blkF n bs ss = none → PInv [] (b.run ss) (k + ss.length)
  | [], n, bs, b, k, h, _, e => by
    unfold blkF at e
    split at e
    · rename_i hb
      cases bs with
      | nil => exact h
      | cons _ _ => cases hb
    · cases e
  | s :: r, n, bs, b, k, h, hg, e => by
    unfold blkF at e
    split at e
    · cases e
    · rename_i hc
      have hf : fitsW s.word bs = true := by
        cases hf : fitsW s.word bs with
        | true => rfl
        | false => exact absurd (.inr hf) hc
      have := pinv_run (pinv_step h (hg s (by simp)) hf) (fun x hx => hg x (List.mem_cons_of_mem _ hx)) e
      rw [List.length_cons, show k + (r.length + 1) = k + 1 + r.length by omega]
      exact this
theorem run_cons (b : BSt) (s : Stp) (r : List Stp) : b.run (s :: r) = (b.step s).run r := rfl
theorem rows_ok {n : Str} {r : List Stp} (hg : ∀ s ∈ Stp.proc n :: r, s.good) (e : blkF 0 [] (.proc n :: r) = none) : (∀ x ∈ rowsOf (.proc n :: r), RowOk x) ∧ cntR (rowsOf (.proc n :: r)) ≤ r.length + 1 := by
  unfold blkF at e
  split at e
  · cases e
  · rw [show pushB (Stp.proc n).word [] = [] from (pushW []).2.2.2.2.1] at e
    have h0 : PInv [] (bst0.step (.proc n)) 1 := ⟨.nil trivial (Nat.zero_le _), (fun r h => by cases h), hg (.proc n) (by simp), by simp [bst0, BSt.step, BSt.fin, cntR, cntP, slines]⟩
    have h1 := pinv_run h0 (fun x hx => hg x (List.mem_cons_of_mem _ hx)) e
    unfold rowsOf
    rw [run_cons]
    generalize (bst0.step (.proc n)).run r = b at h1
    have hb := h1.bi
    have hc := h1.cnt
    unfold BSt.fin
    generalize b.parts = ps at hb hc ⊢
    generalize b.heads = hs at hb hc
    cases hb with
    | nil g1 g2 =>
      refine ⟨fun x hx => ?_, ?_⟩
      · rcases List.mem_append.mp hx with h2 | h2
        · exact h1.rows x h2
        · rw [List.mem_singleton.mp h2]; exact ⟨h1.cur, g1, g2⟩
      · simp only [cntR_app, cntR_one, cntP, List.map_cons, List.map_nil, List.sum_cons, List.sum_nil, List.length_nil] at hc ⊢; omega
end Rx

set_option Elab.async false
set_option linter.all false
set_option maxRecDepth 100000
set_option maxHeartbeats 1000000
namespace XE
open PySem PySem.Spec PyProof.Rows L2 Rx SX
abbrev sCloseBlock : Stmt := topS 51
abbrev sBuiltRows : Stmt := topS 50
def PartH (K : PySem.W.Frag) (H : Hp) (L : Addr) (p : List Smt) : Prop := ∃ vs, H L = some (.lst vs) ∧ DpAll K H vs (sdata p)
def UpsH (K : PySem.W.Frag) (H : Hp) : List Addr → List (List Smt) → Prop
  | a :: as, p :: ps => PartH K H a p ∧ UpsH K H as ps
  | [], [] => True
  | _, _ => False
def RowsH (K : PySem.W.Frag) (H : Hp) : List Addr → List Addr → List (Str × List Smt) → Prop
  | t :: ts, L :: Ls, r :: rs => H t = some (.tup [.str r.1, .ref L]) ∧ PartH K H L r.2 ∧ RowsH K H ts Ls rs
  | [], [], [] => True
  | _, _, _ => False
section
variable {K : PySem.W.Frag} {H H' : Hp}
theorem PartH.keep {L : Addr} {p : List Smt} (k : Keeps H H') (e : ∀ xs, H L = some (.lst xs) → H' L = some (.lst xs)) (h : PartH K H L p) : PartH K H' L p := by
  obtain ⟨vs, h1, h2⟩ := h
  exact ⟨vs, e _ h1, dpAll_keep k.1 k.2 h2 (sts_noList p)⟩
theorem UpsH.keep (k : Keeps H H') : ∀ {as : List Addr} {ps : List (List Smt)}, (∀ a ∈ as, ∀ xs, H a = some (.lst xs) → H' a = some (.lst xs)) → UpsH K H as ps → UpsH K H' as ps
  | a :: as, p :: ps, e, ⟨h1, h2⟩ => ⟨h1.keep k (e a (by simp)), UpsH.keep k (fun x hx => e x (List.mem_cons_of_mem _ hx)) h2⟩
  | [], [], _, _ => trivial
  | _ :: _, [], _, h => h.elim
  | [], _ :: _, _, h => h.elim
theorem RowsH.keep (k : Keeps H H') : ∀ {ts Ls : List Addr} {rs : List (Str × List Smt)}, (∀ a ∈ Ls, ∀ xs, H a = some (.lst xs) → H' a = some (.lst xs)) → RowsH K H ts Ls rs → RowsH K H' ts Ls rs
  | t :: ts, L :: Ls, r :: rs, e, ⟨h0, h1, h2⟩ => ⟨k.1 _ _ h0, h1.keep k (e L (by simp)), RowsH.keep k (fun x hx => e x (List.mem_cons_of_mem _ hx)) h2⟩
  | [], [], [], _, _ => trivial
  | _ :: _, [], _, _, h => h.elim
  | [], _ :: _, _, _, h => h.elim
  | _ :: _, _ :: _, [], _, h => h.elim
  | [], [], _ :: _, _, h => h.elim
theorem upsH_len : ∀ {as : List Addr} {ps : List (List Smt)}, UpsH K H as ps → as.length = ps.length
  | _ :: _, _ :: _, ⟨_, h⟩ => by rw [List.length_cons, List.length_cons, upsH_len h]
  | [], [], _ => rfl
  | _ :: _, [], h => h.elim
  | [], _ :: _, h => h.elim
end
theorem rest_tr {K : PySem.W.Frag} {H : Hp} {ys : List V} {t : Tr} (h : DpAll K H ys [t.data]) : ∃ v, ys = [v] ∧ Dp K H v t.data := by
  cases h with
  | cons a r => cases r; exact ⟨_, rfl, a⟩
theorem sl_len : ∀ p : List Smt, p.length ≤ (slines p).length
  | [] => Nat.zero_le _
  | s :: r => by
    have := sl_len r
    have h1 : 1 ≤ s.lines.length := by cases s <;> simp [Smt.lines]
    simp only [slines, List.length_cons, List.length_append]
    omega
theorem atI_lastR {xs : List V} {v : V} : atI (xs ++ [v]) (-1) = some v := atI_last _ _
/-- what close_block leaves -/
structure ClosedTo (K : PySem.W.Frag) (H H' : Hp) (Hd P : Addr) (as : List Addr) (b : BSt) (hs' : List V) (as' : List Addr) : Prop where
  suf : ∃ pre, as = pre ++ as'
  hd : H' Hd = some (.lst hs'.reverse)
  dp : DpAll K H' hs' (b.heads.map Stp.data)
  pt : H' P = some (.lst (as'.reverse.map V.ref))
  ups : UpsH K H' as' b.parts
  kp : Keeps H H'
  els : ∀ a o, H a = some o → a ≠ Hd → a ≠ P → a ∉ as → H' a = some o
def spCloseB (K : PySem.W.Frag) : Sp := fun vs H Q _ => ∃ (Hd P : Addr) (hs : List V) (as : List Addr) (b : BSt) (bs : List Str), vs = [.ref Hd, .ref P] ∧ H Hd = some (.lst hs.reverse) ∧ DpAll K H hs (b.heads.map Stp.data) ∧ H P = some (.lst (as.reverse.map V.ref)) ∧ UpsH K H as b.parts ∧ (P :: Hd :: as).Nodup ∧ BI bs b.heads b.parts ∧ bs ≠ [] ∧ cntP b.parts + b.heads.length ≤ 1000 ∧
  ∀ H' hs' as', ClosedTo K H H' Hd P as b.close hs' as' → Q .non H'
section
variable {P : Program} {w : World} {K : PySem.W.Frag} {mg : Str → Option Value} {base : Heap} {CP : Addr}
abbrev cbN : List Str := ["heads", "parts", "head", "last", "then", "condition"]
theorem scCB : FnScope cbN ["heads", "parts"] (defScope sCloseBlock) := ⟨rfl, rfl, rfl, by decide +kernel, rfl, by decide +kernel, by decide +kernel⟩
theorem ok_closeBlock {f : Addr} {fd : FuncData} (F : Fun K "close_block" "close_block" sCloseBlock f fd) (mtup : mg "tuple" = none) : FnOk P w K mg base CX0 1 f fd ["heads", "parts"] (spCloseB K) := by
  refine F.ok scCB (fun vs H Q E h => ?_) (fun cdv A outer s H vs Q E hr h => ?_)
  · obtain ⟨_, _, _, _, _, _, rfl, _⟩ := h
    rfl
  · obtain ⟨Hd, P, hs, as, b, bs, rfl, hHd, hdp, hP, hups, hnd, hbi, hne, hcnt, k⟩ := h
    refine ⟨_, (pss_cons (ps_set (i := 2) scCB.nd rfl (.inl rfl) (pe_bm0 PySem.F.plainAttrs_list PySem.F.slot_list_pop PySem.F.type_list_pop mt_pop (pv 0))) (pss_cons (ps_set (i := 3) scCB.nd rfl (.inl rfl) (pe_callTy call_tuple_of (by rfl) mtup (by decide +kernel) (pa_cons (pe_bm0 PySem.F.plainAttrs_list PySem.F.slot_list_pop PySem.F.type_list_pop mt_pop (pv 1)) pa_nil))) (pss_one (ps_if (pt_cmpR op_eq (pe_ix ix_tup (pv 2) pe_int (fun _ _ => rfl)) pe_str (nomark _)) (pss_one (ps_expr (pe_bm PySem.F.plainAttrs_list PySem.F.slot_list_append PySem.F.type_list_append mt_append (pe_ix ix_list (pv 1) (pe_un un_neg pe_int) (fun _ _ => rfl)) (pa_cons (pe_tup (pa_cons pe_str (pa_cons (pe_ix ix_tup (pv 2) pe_int (fun _ _ => rfl)) (pa_cons (pv 3) pa_nil)))) pa_nil)))) (pss_one (ps_if (pt_cmpR op_eq (pe_ix ix_tup (pv 2) pe_int (fun _ _ => rfl)) pe_str (nomark _)) (pss_one (ps_expr (pe_bm PySem.F.plainAttrs_list PySem.F.slot_list_append PySem.F.type_list_append mt_append (pe_ix ix_list (pv 1) (pe_un un_neg pe_int) (fun _ _ => rfl)) (pa_cons (pe_tup (pa_cons pe_str (pa_cons (pe_ix ix_tup (pv 2) pe_int (fun _ _ => rfl)) (pa_cons (pv 3) (pa_cons (pe_tup pa_nil) pa_nil))))) pa_nil)))) (pss_cons (ps_set (i := 4) scCB.nd rfl (.inl rfl) (pe_callTy call_tuple_of (by rfl) mtup (by decide +kernel) (pa_cons (pe_bm0 PySem.F.plainAttrs_list PySem.F.slot_list_pop PySem.F.type_list_pop mt_pop (pv 1)) pa_nil))) (pss_cons (ps_set (i := 5) scCB.nd rfl (.inl rfl) (pe_ix ix_tup (pe_bm0 PySem.F.plainAttrs_list PySem.F.slot_list_pop PySem.F.type_list_pop mt_pop (pv 0)) pe_int (fun _ _ => rfl))) (pss_one (ps_expr (pe_bm PySem.F.plainAttrs_list PySem.F.slot_list_append PySem.F.type_list_append mt_append (pe_ix ix_list (pv 1) (pe_un un_neg pe_int) (fun _ _ => rfl)) (pa_cons (pe_tup (pa_cons pe_str (pa_cons (pv 5) (pa_cons (pv 4) (pa_cons (pv 3) pa_nil))))) pa_nil)))))))))))), ?_⟩
    unfold BSt.close at k
    have hlen := hbi.len
    generalize hb1 : b.heads = heads at *
    generalize hb2 : b.parts = parts at *
    have hPH : P ≠ Hd := fun z => by simp [z] at hnd
    have hla := upsH_len hups
    cases hbi with
    | nil _ _ => exact absurd rfl hne
    | @iff bs hh ps p t g1 g2 g3 g4 =>
      obtain ⟨q0, ps, rfl⟩ := g1.ne
      cases hdp with
      | @cons v hs' _ _ hv hdp =>
      obtain ⟨a, ys, rfl, ha, hys⟩ := stp_ref hv
      obtain ⟨tv, rfl, htv⟩ := rest_tr (t := t) hys
      match as, hups with
      | a1 :: a2 :: as, ⟨⟨vs1, hv1, hd1⟩, ⟨vs2, hv2, hd2⟩, hups⟩ =>
      simp only [List.nodup_cons, List.mem_cons, not_or] at hnd
      obtain ⟨⟨_, nPa1, nPa2, nPas⟩, ⟨nHa1, nHa2, nHas⟩, ⟨n12, n1as⟩, n2as, _⟩ := hnd
      have hc2 : vs2.length ≤ 1000 := by
        have := dpAll_len hd2
        rw [sdata_map, List.length_map] at this
        have l1 := sl_len q0
        simp only [cntP, List.map_cons, List.sum_cons] at hcnt
        omega
      refine ⟨_, rfl, .inl ⟨rfl, _, SqL.of hHd⟩, Hd, _, .ref a, rfl, rfl, hHd, by simp, ?_⟩
      have k1 : Keeps H (upd H Hd (.lst (V.ref a :: hs').reverse.dropLast)) := keeps_lst hHd
      have f1 : upd H Hd (.lst (V.ref a :: hs').reverse.dropLast) Hd = some (.lst hs'.reverse) := by rw [upd_same]; simp
      have o1 : ∀ x, x ≠ Hd → upd H Hd (.lst (V.ref a :: hs').reverse.dropLast) x = H x := fun x h => upd_ne h
      generalize upd H Hd (.lst (V.ref a :: hs').reverse.dropLast) = H1 at k1 f1 o1 ⊢
      have hP1 : H1 P = some (.lst ((a1 :: a2 :: as).reverse.map V.ref)) := (o1 P hPH).trans hP
      refine ⟨_, rfl, .inl ⟨rfl, _, SqL.of hP1⟩, P, _, .ref a1, rfl, rfl, hP1, by simp, ?_⟩
      have k2 : Keeps H1 (upd H1 P (.lst ((a1 :: a2 :: as).reverse.map V.ref).dropLast)) := keeps_lst hP1
      have f2 : upd H1 P (.lst ((a1 :: a2 :: as).reverse.map V.ref).dropLast) P = some (.lst ((a2 :: as).reverse.map V.ref)) := by rw [upd_same]; simp
      have o2 : ∀ x, x ≠ P → upd H1 P (.lst ((a1 :: a2 :: as).reverse.map V.ref).dropLast) x = H1 x := fun x h => upd_ne h
      generalize upd H1 P (.lst ((a1 :: a2 :: as).reverse.map V.ref).dropLast) = H2 at k2 f2 o2 ⊢
      have b1 : H2 a1 = some (.lst vs1) := by rw [o2 _ (Ne.symm nPa1), o1 _ (Ne.symm nHa1)]; exact hv1
      have b2 : H2 a2 = some (.lst vs2) := by rw [o2 _ (Ne.symm nPa2), o1 _ (Ne.symm nHa2)]; exact hv2
      refine ⟨a1, vs1, rfl, .inl ⟨SqL.of b1, fun l nl => ?_⟩⟩
      have k12 := k1.trans k2
      have s3 : Same H2 (upd H2 l (.tup vs1)) := same_new nl
      have k3 := k12.trans (keeps_new (o := .tup vs1) nl)
      have l3 : upd H2 l (.tup vs1) l = some (.tup vs1) := upd_same
      generalize upd H2 l (.tup vs1) = H3 at s3 k3 l3 ⊢
      have ha3 : SqT K H3 a [.str "if", tv] := sqT_keep k3.1 k3.2 ha
      have ix : atI ((a2 :: as).reverse.map V.ref) (-1) = some (.ref a2) := by
        have := atI_lastR (xs := as.reverse.map V.ref) (v := .ref a2)
        simpa using this
      refine ⟨_, rfl, a, _, _, _, rfl, rfl, ha3, at0, rfl, _, rfl, iteFc (by decide +kernel) ⟨_, rfl, a, _, _, _, rfl, rfl, ha3, at0, rfl, _, rfl, iteTc (by decide +kernel) ⟨_, rfl, 1, rfl, P, _, _, .ref a2, rfl, rfl, SqL.of (s3 _ _ f2), ix, .inl ⟨rfl, _, SqL.of (s3 _ _ b2)⟩, _, rfl, a, _, _, _, rfl, rfl, ha3, at1, _, rfl, (by show 0 ≤ sizeLine; decide), fun e ne => ⟨(by show 4 ≤ sizeLine; decide), fun q nq => ?_⟩⟩⟩⟩
      have s4 := (same_new (o := .tup []) ne).trans (same_new (o := .tup [.str "if", tv, .ref l, .ref e]) nq)
      have k4 := k3.trans ((keeps_new (o := .tup []) ne).trans (keeps_new (o := .tup [.str "if", tv, .ref l, .ref e]) nq))
      have q4 : upd (upd H3 e (.tup [])) q (.tup [.str "if", tv, .ref l, .ref e]) q = some (.tup [.str "if", tv, .ref l, .ref e]) := upd_same
      have e4 : upd (upd H3 e (.tup [])) q (.tup [.str "if", tv, .ref l, .ref e]) e = some (.tup []) := by rw [upd_ne (ne_of_none upd_same nq), upd_same]
      generalize upd (upd H3 e (.tup [])) q (.tup [.str "if", tv, .ref l, .ref e]) = H4 at s4 k4 q4 e4 ⊢
      have b4 := s4 _ _ (s3 _ _ b2)
      have hq : Dp K H4 (.ref q) (Smt.data (.ife t p [])) := .tup (SqT.of q4) (.cons (.str _) (.cons (dp_keep k4.1 k4.2 htv (tr_noList t)) (.cons (.tup (SqT.of (s4 _ _ l3)) (dpAll_keep k4.1 k4.2 hd1 (sts_noList p))) (.cons (.tup (SqT.of e4) .nil) .nil))))
      refine ⟨a2, vs2, .ref q, rfl, rfl, b4, Nat.lt_of_le_of_lt hc2 (by decide), ?_⟩
      have k5 : Keeps H4 (upd H4 a2 (.lst (vs2 ++ [.ref q]))) := keeps_lst b4
      have o5 : ∀ x o, H x = some o → x ≠ Hd → x ≠ P → x ≠ a2 → upd H4 a2 (.lst (vs2 ++ [.ref q])) x = some o := fun x o h h1 h2 h3 => by
        rw [upd_ne h3]
        exact s4 _ _ (s3 _ _ (by rw [o2 _ h2, o1 _ h1]; exact h))
      refine k _ hs' (a2 :: as) ⟨⟨[a1], rfl⟩, ?_, dpAll_keep (k4.trans k5).1 (k4.trans k5).2 hdp (stps_noAll _), ?_, ⟨⟨vs2 ++ [.ref q], upd_same, ?_⟩, hups.keep (k4.trans k5) (fun x hx xs e => o5 x _ e (fun z => nHas (z ▸ hx)) (fun z => nPas (z ▸ hx)) (fun z => n2as (z ▸ hx)))⟩, k4.trans k5, fun x o e n1 n2 n3 => o5 x o e n1 n2 (fun z => n3 (by simp [z]))⟩
      · rw [upd_ne nHa2]
        exact s4 _ _ (s3 _ _ (by rw [o2 _ (Ne.symm hPH)]; exact f1))
      · rw [upd_ne nPa2]
        exact s4 _ _ (s3 _ _ f2)
      · have hs := dpAll_snoc hq (dpAll_keep k4.1 k4.2 hd2 (sts_noList q0))
        rw [show sdata q0 ++ [Smt.data (.ife t p [])] = sdata (q0 ++ [.ife t p []]) by simp [sdata_map]] at hs
        exact dpAll_keep k5.1 k5.2 hs (sts_noList _)
    | @whil bs hh ps p t g1 g2 g3 g4 =>
      obtain ⟨q0, ps, rfl⟩ := g1.ne
      cases hdp with
      | @cons v hs' _ _ hv hdp =>
      obtain ⟨a, ys, rfl, ha, hys⟩ := stp_ref hv
      obtain ⟨tv, rfl, htv⟩ := rest_tr (t := t) hys
      match as, hups with
      | a1 :: a2 :: as, ⟨⟨vs1, hv1, hd1⟩, ⟨vs2, hv2, hd2⟩, hups⟩ =>
      simp only [List.nodup_cons, List.mem_cons, not_or] at hnd
      obtain ⟨⟨_, nPa1, nPa2, nPas⟩, ⟨nHa1, nHa2, nHas⟩, ⟨n12, n1as⟩, n2as, _⟩ := hnd
      have hc2 : vs2.length ≤ 1000 := by
        have := dpAll_len hd2
        rw [sdata_map, List.length_map] at this
        have l1 := sl_len q0
        simp only [cntP, List.map_cons, List.sum_cons] at hcnt
        omega
      refine ⟨_, rfl, .inl ⟨rfl, _, SqL.of hHd⟩, Hd, _, .ref a, rfl, rfl, hHd, by simp, ?_⟩
      have k1 : Keeps H (upd H Hd (.lst (V.ref a :: hs').reverse.dropLast)) := keeps_lst hHd
      have f1 : upd H Hd (.lst (V.ref a :: hs').reverse.dropLast) Hd = some (.lst hs'.reverse) := by rw [upd_same]; simp
      have o1 : ∀ x, x ≠ Hd → upd H Hd (.lst (V.ref a :: hs').reverse.dropLast) x = H x := fun x h => upd_ne h
      generalize upd H Hd (.lst (V.ref a :: hs').reverse.dropLast) = H1 at k1 f1 o1 ⊢
      have hP1 : H1 P = some (.lst ((a1 :: a2 :: as).reverse.map V.ref)) := (o1 P hPH).trans hP
      refine ⟨_, rfl, .inl ⟨rfl, _, SqL.of hP1⟩, P, _, .ref a1, rfl, rfl, hP1, by simp, ?_⟩
      have k2 : Keeps H1 (upd H1 P (.lst ((a1 :: a2 :: as).reverse.map V.ref).dropLast)) := keeps_lst hP1
      have f2 : upd H1 P (.lst ((a1 :: a2 :: as).reverse.map V.ref).dropLast) P = some (.lst ((a2 :: as).reverse.map V.ref)) := by rw [upd_same]; simp
      have o2 : ∀ x, x ≠ P → upd H1 P (.lst ((a1 :: a2 :: as).reverse.map V.ref).dropLast) x = H1 x := fun x h => upd_ne h
      generalize upd H1 P (.lst ((a1 :: a2 :: as).reverse.map V.ref).dropLast) = H2 at k2 f2 o2 ⊢
      have b1 : H2 a1 = some (.lst vs1) := by rw [o2 _ (Ne.symm nPa1), o1 _ (Ne.symm nHa1)]; exact hv1
      have b2 : H2 a2 = some (.lst vs2) := by rw [o2 _ (Ne.symm nPa2), o1 _ (Ne.symm nHa2)]; exact hv2
      refine ⟨a1, vs1, rfl, .inl ⟨SqL.of b1, fun l nl => ?_⟩⟩
      have k12 := k1.trans k2
      have s3 : Same H2 (upd H2 l (.tup vs1)) := same_new nl
      have k3 := k12.trans (keeps_new (o := .tup vs1) nl)
      have l3 : upd H2 l (.tup vs1) l = some (.tup vs1) := upd_same
      generalize upd H2 l (.tup vs1) = H3 at s3 k3 l3 ⊢
      have ha3 : SqT K H3 a [.str "while", tv] := sqT_keep k3.1 k3.2 ha
      have ix : atI ((a2 :: as).reverse.map V.ref) (-1) = some (.ref a2) := by
        have := atI_lastR (xs := as.reverse.map V.ref) (v := .ref a2)
        simpa using this
      refine ⟨_, rfl, a, _, _, _, rfl, rfl, ha3, at0, rfl, _, rfl, iteTc (by decide +kernel) ⟨_, rfl, 1, rfl, P, _, _, .ref a2, rfl, rfl, SqL.of (s3 _ _ f2), ix, .inl ⟨rfl, _, SqL.of (s3 _ _ b2)⟩, _, rfl, a, _, _, _, rfl, rfl, ha3, at1, _, rfl, (by show 3 ≤ sizeLine; decide), fun q nq => ?_⟩⟩
      have s4 := same_new (o := .tup [.str "while", tv, .ref l]) nq
      have k4 := k3.trans (keeps_new (o := .tup [.str "while", tv, .ref l]) nq)
      have q4 : upd H3 q (.tup [.str "while", tv, .ref l]) q = some (.tup [.str "while", tv, .ref l]) := upd_same
      generalize upd H3 q (.tup [.str "while", tv, .ref l]) = H4 at s4 k4 q4 ⊢
      have b4 := s4 _ _ (s3 _ _ b2)
      have hq : Dp K H4 (.ref q) (Smt.data (.wh t p)) := .tup (SqT.of q4) (.cons (.str _) (.cons (dp_keep k4.1 k4.2 htv (tr_noList t)) (.cons (.tup (SqT.of (s4 _ _ l3)) (dpAll_keep k4.1 k4.2 hd1 (sts_noList p))) .nil)))
      refine ⟨a2, vs2, .ref q, rfl, rfl, b4, Nat.lt_of_le_of_lt hc2 (by decide), ?_⟩
      have k5 : Keeps H4 (upd H4 a2 (.lst (vs2 ++ [.ref q]))) := keeps_lst b4
      have o5 : ∀ x o, H x = some o → x ≠ Hd → x ≠ P → x ≠ a2 → upd H4 a2 (.lst (vs2 ++ [.ref q])) x = some o := fun x o h h1 h2 h3 => by
        rw [upd_ne h3]
        exact s4 _ _ (s3 _ _ (by rw [o2 _ h2, o1 _ h1]; exact h))
      refine k _ hs' (a2 :: as) ⟨⟨[a1], rfl⟩, ?_, dpAll_keep (k4.trans k5).1 (k4.trans k5).2 hdp (stps_noAll _), ?_, ⟨⟨vs2 ++ [.ref q], upd_same, ?_⟩, hups.keep (k4.trans k5) (fun x hx xs e => o5 x _ e (fun z => nHas (z ▸ hx)) (fun z => nPas (z ▸ hx)) (fun z => n2as (z ▸ hx)))⟩, k4.trans k5, fun x o e n1 n2 n3 => o5 x o e n1 n2 (fun z => n3 (by simp [z]))⟩
      · rw [upd_ne nHa2]
        exact s4 _ _ (s3 _ _ (by rw [o2 _ (Ne.symm hPH)]; exact f1))
      · rw [upd_ne nPa2]
        exact s4 _ _ (s3 _ _ f2)
      · have hs := dpAll_snoc hq (dpAll_keep k4.1 k4.2 hd2 (sts_noList q0))
        rw [show sdata q0 ++ [Smt.data (.wh t p)] = sdata (q0 ++ [.wh t p]) by simp [sdata_map]] at hs
        exact dpAll_keep k5.1 k5.2 hs (sts_noList _)
    | @els bs hh ps p e t g1 g2 g3 g4 g5 g6 =>
      obtain ⟨q0, ps, rfl⟩ := g1.ne
      cases hdp with
      | @cons v hs' _ _ hv hdp =>
      cases hdp with
      | @cons v' hs' _ _ hv' hdp =>
      obtain ⟨a0, ys0, rfl, ha0, _⟩ := stp_ref hv
      obtain ⟨a, ys, rfl, ha, hys⟩ := stp_ref hv'
      obtain ⟨tv, rfl, htv⟩ := rest_tr (t := t) hys
      match as, hups with
      | aE :: a1 :: a2 :: as, ⟨⟨vsE, hvE, hdE⟩, ⟨vs1, hv1, hd1⟩, ⟨vs2, hv2, hd2⟩, hups⟩ =>
      simp only [List.nodup_cons, List.mem_cons, not_or] at hnd
      obtain ⟨⟨_, nPaE, nPa1, nPa2, nPas⟩, ⟨nHaE, nHa1, nHa2, nHas⟩, ⟨nE1, nE2, nEas⟩, ⟨n12, n1as⟩, n2as, _⟩ := hnd
      have hc2 : vs2.length ≤ 1000 := by
        have := dpAll_len hd2
        rw [sdata_map, List.length_map] at this
        have l1 := sl_len q0
        simp only [cntP, List.map_cons, List.sum_cons] at hcnt
        omega
      refine ⟨_, rfl, .inl ⟨rfl, _, SqL.of hHd⟩, Hd, _, .ref a0, rfl, rfl, hHd, by simp, ?_⟩
      have k1 : Keeps H (upd H Hd (.lst (V.ref a0 :: V.ref a :: hs').reverse.dropLast)) := keeps_lst hHd
      have f1 : upd H Hd (.lst (V.ref a0 :: V.ref a :: hs').reverse.dropLast) Hd = some (.lst (V.ref a :: hs').reverse) := by rw [upd_same]; simp
      have o1 : ∀ x, x ≠ Hd → upd H Hd (.lst (V.ref a0 :: V.ref a :: hs').reverse.dropLast) x = H x := fun x h => upd_ne h
      generalize upd H Hd (.lst (V.ref a0 :: V.ref a :: hs').reverse.dropLast) = H1 at k1 f1 o1 ⊢
      have hP1 : H1 P = some (.lst ((aE :: a1 :: a2 :: as).reverse.map V.ref)) := (o1 P hPH).trans hP
      refine ⟨_, rfl, .inl ⟨rfl, _, SqL.of hP1⟩, P, _, .ref aE, rfl, rfl, hP1, by simp, ?_⟩
      have k2 : Keeps H1 (upd H1 P (.lst ((aE :: a1 :: a2 :: as).reverse.map V.ref).dropLast)) := keeps_lst hP1
      have f2 : upd H1 P (.lst ((aE :: a1 :: a2 :: as).reverse.map V.ref).dropLast) P = some (.lst ((a1 :: a2 :: as).reverse.map V.ref)) := by rw [upd_same]; simp
      have o2 : ∀ x, x ≠ P → upd H1 P (.lst ((aE :: a1 :: a2 :: as).reverse.map V.ref).dropLast) x = H1 x := fun x h => upd_ne h
      generalize upd H1 P (.lst ((aE :: a1 :: a2 :: as).reverse.map V.ref).dropLast) = H2 at k2 f2 o2 ⊢
      have bE : H2 aE = some (.lst vsE) := by rw [o2 _ (Ne.symm nPaE), o1 _ (Ne.symm nHaE)]; exact hvE
      have b1 : H2 a1 = some (.lst vs1) := by rw [o2 _ (Ne.symm nPa1), o1 _ (Ne.symm nHa1)]; exact hv1
      have b2 : H2 a2 = some (.lst vs2) := by rw [o2 _ (Ne.symm nPa2), o1 _ (Ne.symm nHa2)]; exact hv2
      refine ⟨aE, vsE, rfl, .inl ⟨SqL.of bE, fun l nl => ?_⟩⟩
      have k12 := k1.trans k2
      have s3 : Same H2 (upd H2 l (.tup vsE)) := same_new nl
      have k3 := k12.trans (keeps_new (o := .tup vsE) nl)
      have l3 : upd H2 l (.tup vsE) l = some (.tup vsE) := upd_same
      generalize upd H2 l (.tup vsE) = H3 at s3 k3 l3 ⊢
      have ha03 : SqT K H3 a0 (.str "else" :: ys0) := sqT_keep k3.1 k3.2 ha0
      have f3 := s3 _ _ f2
      refine ⟨_, rfl, a0, _, _, _, rfl, rfl, ha03, at0, rfl, _, rfl, iteFc (by decide +kernel) ⟨_, rfl, a0, _, _, _, rfl, rfl, ha03, at0, rfl, _, rfl, iteFc (by decide +kernel) ⟨_, rfl, .inl ⟨rfl, _, SqL.of f3⟩, P, _, .ref a1, rfl, rfl, f3, by simp, ?_⟩⟩⟩
      have k4 := k3.trans (keeps_lst (o := .lst ((a1 :: a2 :: as).reverse.map V.ref).dropLast) f3)
      have f4 : upd H3 P (.lst ((a1 :: a2 :: as).reverse.map V.ref).dropLast) P = some (.lst ((a2 :: as).reverse.map V.ref)) := by rw [upd_same]; simp
      have o4 : ∀ x o, H2 x = some o → x ≠ P → upd H3 P (.lst ((a1 :: a2 :: as).reverse.map V.ref).dropLast) x = some o := fun x o e h => by rw [upd_ne h]; exact s3 _ _ e
      have lP : l ≠ P := (ne_of_none f2 nl).symm
      have l4 : upd H3 P (.lst ((a1 :: a2 :: as).reverse.map V.ref).dropLast) l = some (.tup vsE) := by rw [upd_ne lP]; exact l3
      generalize upd H3 P (.lst ((a1 :: a2 :: as).reverse.map V.ref).dropLast) = H4 at k4 f4 o4 l4 ⊢
      refine ⟨a1, vs1, rfl, .inl ⟨SqL.of (o4 _ _ b1 (Ne.symm nPa1)), fun l2 nl2 => ?_⟩⟩
      have s5 : Same H4 (upd H4 l2 (.tup vs1)) := same_new nl2
      have k5 := k4.trans (keeps_new (o := .tup vs1) nl2)
      have l5 : upd H4 l2 (.tup vs1) l2 = some (.tup vs1) := upd_same
      generalize upd H4 l2 (.tup vs1) = H5 at s5 k5 l5 ⊢
      have hH5 : H5 Hd = some (.lst (V.ref a :: hs').reverse) := s5 _ _ (o4 _ _ (by rw [o2 _ (Ne.symm hPH)]; exact f1) (Ne.symm hPH))
      have ha5 : SqT K H5 a [.str "if", tv] := sqT_keep k5.1 k5.2 ha
      refine ⟨_, rfl, .inl ⟨rfl, _, SqL.of hH5⟩, Hd, _, .ref a, rfl, rfl, hH5, by simp, ?_⟩
      have k6 := k5.trans (keeps_lst (o := .lst (V.ref a :: hs').reverse.dropLast) hH5)
      have f6 : upd H5 Hd (.lst (V.ref a :: hs').reverse.dropLast) Hd = some (.lst hs'.reverse) := by rw [upd_same]; simp
      have o6 : ∀ x o, H5 x = some o → x ≠ Hd → upd H5 Hd (.lst (V.ref a :: hs').reverse.dropLast) x = some o := fun x o e h => by rw [upd_ne h]; exact e
      generalize upd H5 Hd (.lst (V.ref a :: hs').reverse.dropLast) = H6 at k6 f6 o6 ⊢
      have ha6 : SqT K H6 a [.str "if", tv] := sqT_keep k6.1 k6.2 ha
      have ix : atI ((a2 :: as).reverse.map V.ref) (-1) = some (.ref a2) := by
        have := atI_lastR (xs := as.reverse.map V.ref) (v := .ref a2)
        simpa using this
      have c2 : H6 a2 = some (.lst vs2) := o6 _ _ (s5 _ _ (o4 _ _ b2 (Ne.symm nPa2))) (Ne.symm nHa2)
      have cl : H6 l = some (.tup vsE) := o6 _ _ (s5 _ _ l4) (ne_of (s5 _ _ l4) hH5 (by intro z; cases z))
      have cl2 : H6 l2 = some (.tup vs1) := o6 _ _ l5 (ne_of l5 hH5 (by intro z; cases z))
      have cP : H6 P = some (.lst ((a2 :: as).reverse.map V.ref)) := o6 _ _ (s5 _ _ f4) hPH
      refine ⟨a, _, _, tv, rfl, rfl, ha6, at1, _, rfl, 1, rfl, P, _, _, .ref a2, rfl, rfl, SqL.of cP, ix, .inl ⟨rfl, _, SqL.of c2⟩, _, rfl, _, rfl, _, rfl, (by show 4 ≤ sizeLine; decide), fun q nq => ?_⟩
      have s7 := same_new (o := .tup [.str "if", tv, .ref l2, .ref l]) nq
      have k7 := k6.trans (keeps_new (o := .tup [.str "if", tv, .ref l2, .ref l]) nq)
      have q7 : upd H6 q (.tup [.str "if", tv, .ref l2, .ref l]) q = some (.tup [.str "if", tv, .ref l2, .ref l]) := upd_same
      generalize upd H6 q (.tup [.str "if", tv, .ref l2, .ref l]) = H7 at s7 k7 q7 ⊢
      have hq : Dp K H7 (.ref q) (Smt.data (.ife t p e)) := .tup (SqT.of q7) (.cons (.str _) (.cons (dp_keep k7.1 k7.2 htv (tr_noList t)) (.cons (.tup (SqT.of (s7 _ _ cl2)) (dpAll_keep k7.1 k7.2 hd1 (sts_noList p))) (.cons (.tup (SqT.of (s7 _ _ cl)) (dpAll_keep k7.1 k7.2 hdE (sts_noList e))) .nil))))
      have c27 := s7 _ _ c2
      refine ⟨a2, vs2, .ref q, rfl, rfl, c27, Nat.lt_of_le_of_lt hc2 (by decide), ?_⟩
      have k8 : Keeps H7 (upd H7 a2 (.lst (vs2 ++ [.ref q]))) := keeps_lst c27
      have o8 : ∀ x o, H x = some o → x ≠ Hd → x ≠ P → x ≠ a2 → upd H7 a2 (.lst (vs2 ++ [.ref q])) x = some o := fun x o h h1 h2 h3 => by
        rw [upd_ne h3]
        exact s7 _ _ (o6 _ _ (s5 _ _ (o4 _ _ (by rw [o2 _ h2, o1 _ h1]; exact h) h2)) h1)
      refine k _ hs' (a2 :: as) ⟨⟨[aE, a1], rfl⟩, ?_, dpAll_keep (k7.trans k8).1 (k7.trans k8).2 hdp (stps_noAll _), ?_, ⟨⟨vs2 ++ [.ref q], upd_same, ?_⟩, hups.keep (k7.trans k8) (fun x hx xs e => o8 x _ e (fun z => nHas (z ▸ hx)) (fun z => nPas (z ▸ hx)) (fun z => n2as (z ▸ hx)))⟩, k7.trans k8, fun x o e n1 n2 n3 => o8 x o e n1 n2 (fun z => n3 (by simp [z]))⟩
      · rw [upd_ne nHa2]
        exact s7 _ _ f6
      · rw [upd_ne nPa2]
        exact s7 _ _ cP
      · have hs := dpAll_snoc hq (dpAll_keep k7.1 k7.2 hd2 (sts_noList q0))
        rw [show sdata q0 ++ [Smt.data (.ife t p e)] = sdata (q0 ++ [.ife t p e]) by simp [sdata_map]] at hs
        exact dpAll_keep k8.1 k8.2 hs (sts_noList _)
end
end XE

set_option Elab.async false
set_option linter.all false
set_option maxRecDepth 100000
set_option maxHeartbeats 1000000
namespace XE
open PySem PySem.Spec PyProof.Rows L2 Rx SX
abbrev rTupOf (K : PySem.W.Frag) : List V → Hp → VK → Prop := fun xs H Q => ∃ p ys, xs = [.ref p] ∧ ((SqL K H p ys ∧ ∀ l, H l = none → Q (.ref l) (upd H l (.tup ys))) ∨ SqT K H p ys ∧ Q (.ref p) H)
structure BH (K : PySem.W.Frag) (H0 H : Hp) (R Pa Hd : Addr) (b : BSt) (ts Ls : List Addr) (t a0 : Addr) (as : List Addr) (hs : List V) : Prop where
  hR : H R = some (.lst ((ts ++ [t]).map V.ref))
  rows : RowsH K H ts Ls b.rows
  bot : ∃ pre, as = pre ++ [a0]
  ht : H t = some (.tup [.str b.cur, .ref a0])
  hP : H Pa = some (.lst (as.reverse.map V.ref))
  ups : UpsH K H as b.parts
  hH : H Hd = some (.lst hs.reverse)
  dp : DpAll K H hs (b.heads.map Stp.data)
  nd : (R :: Pa :: Hd :: (Ls ++ as)).Nodup
  new : ∀ x ∈ R :: Pa :: Hd :: (Ls ++ as), H0 x = none
theorem rowsH_len {K : PySem.W.Frag} {H : Hp} : ∀ {ts Ls : List Addr} {rs : List (Str × List Smt)}, RowsH K H ts Ls rs → ts.length = rs.length ∧ Ls.length = rs.length
  | _ :: _, _ :: _, _ :: _, ⟨_, _, h⟩ => by
    have := rowsH_len h
    simp only [List.length_cons]; omega
  | [], [], [], _ => ⟨rfl, rfl⟩
  | _ :: _, [], _, h => h.elim
  | [], _ :: _, _, h => h.elim
  | _ :: _, _ :: _, [], h => h.elim
  | [], [], _ :: _, h => h.elim
theorem rowsH_snoc {K : PySem.W.Frag} {H : Hp} {t L : Addr} {r : Str × List Smt} (h0 : H t = some (.tup [.str r.1, .ref L])) (h1 : PartH K H L r.2) : ∀ {ts Ls : List Addr} {rs : List (Str × List Smt)}, RowsH K H ts Ls rs → RowsH K H (ts ++ [t]) (Ls ++ [L]) (rs ++ [r])
  | _ :: _, _ :: _, _ :: _, ⟨a, b, h⟩ => ⟨a, b, rowsH_snoc h0 h1 h⟩
  | [], [], [], _ => ⟨h0, h1, trivial⟩
  | _ :: _, [], _, h => h.elim
  | [], _ :: _, _, h => h.elim
  | _ :: _, _ :: _, [], h => h.elim
  | [], [], _ :: _, h => h.elim
theorem rowsH_get {K : PySem.W.Frag} {H : Hp} : ∀ {ts Ls : List Addr} {rs : List (Str × List Smt)} {i : Nat} {t : Addr}, RowsH K H ts Ls rs → ts[i]? = some t → ∃ L r, rs[i]? = some r ∧ H t = some (.tup [.str r.1, .ref L]) ∧ PartH K H L r.2
  | _ :: _, L :: _, r :: _, 0, t, ⟨a, b, h⟩, e => by simp at e; subst e; exact ⟨L, r, rfl, a, b⟩
  | _ :: _, _ :: _, _ :: _, i + 1, t, ⟨_, _, h⟩, e => by simp only [List.getElem?_cons_succ] at e ⊢; exact rowsH_get h e
  | [], _, _, i, t, _, e => by simp at e
  | _ :: _, [], _, _, _, h, _ => h.elim
  | _ :: _, _ :: _, [], _, _, h, _ => h.elim
theorem add_parts {b : BSt} {p : List Smt} {ps : List (List Smt)} {x : Smt} (h : b.parts = p :: ps) : b.add x = { b with parts := (p ++ [x]) :: ps } := by
  unfold BSt.add
  rw [h]
/-- a list of the builder's is changed: what was there before stands still -/
theorem same_upd0 {H0 H : Hp} {a : Addr} {o : HO} (s : Same H0 H) (n : H0 a = none) : Same H0 (upd H a o) := fun b x e => by
  rw [upd_ne (ne_of_none e n)]
  exact s _ _ e
theorem rowsH_some {K : PySem.W.Frag} {H : Hp} : ∀ {ts Ls : List Addr} {rs : List (Str × List Smt)}, RowsH K H ts Ls rs → ∀ L ∈ Ls, ∃ vs, H L = some (.lst vs)
  | _ :: _, _ :: _, _ :: _, ⟨_, ⟨vs, b, _⟩, h⟩, L, hL => by
    rcases List.mem_cons.mp hL with rfl | hL
    · exact ⟨vs, b⟩
    · exact rowsH_some h L hL
  | [], [], [], _, _, hL => by cases hL
  | _ :: _, [], _, h, _, _ => h.elim
  | [], _ :: _, _, h, _, _ => h.elim
  | _ :: _, _ :: _, [], h, _, _ => h.elim
  | [], [], _ :: _, h, _, _ => h.elim
theorem upsH_some {K : PySem.W.Frag} {H : Hp} : ∀ {as : List Addr} {ps : List (List Smt)}, UpsH K H as ps → ∀ L ∈ as, ∃ vs, H L = some (.lst vs)
  | _ :: _, _ :: _, ⟨⟨vs, b, _⟩, h⟩, L, hL => by
    rcases List.mem_cons.mp hL with rfl | hL
    · exact ⟨vs, b⟩
    · exact upsH_some h L hL
  | [], [], _, _, hL => by cases hL
  | _ :: _, [], h, _, _ => h.elim
  | [], _ :: _, h, _, _ => h.elim
theorem keeps_same {H H' : Hp} (s : Same H H') : Keeps H H' := ⟨fun a xs => s a _, fun a o u => s a _⟩
theorem BH.same {K : PySem.W.Frag} {H0 H H' : Hp} {R Pa Hd : Addr} {b : BSt} {ts Ls : List Addr} {t a0 : Addr} {as : List Addr} {hs : List V} (h : BH K H0 H R Pa Hd b ts Ls t a0 as hs) (s : Same H H') : BH K H0 H' R Pa Hd b ts Ls t a0 as hs :=
  ⟨s _ _ h.hR, h.rows.keep (keeps_same s) (fun a _ xs e => s _ _ e), h.bot, s _ _ h.ht, s _ _ h.hP, h.ups.keep (keeps_same s) (fun a _ xs e => s _ _ e), s _ _ h.hH, dpAll_same s h.dp, h.nd, h.new⟩
theorem close_rows (b : BSt) : b.close.rows = b.rows ∧ b.close.cur = b.cur := by
  unfold BSt.close BSt.add
  split
  · dsimp only; split <;> exact ⟨rfl, rfl⟩
  · dsimp only; split <;> exact ⟨rfl, rfl⟩
  · dsimp only; split <;> exact ⟨rfl, rfl⟩
  · exact ⟨rfl, rfl⟩
theorem blk_next {n : Nat} {bs : List Str} {s : Stp} {r : List Stp} (h : blkF n bs (s :: r) = none) : fitsW s.word bs = true ∧ blkF (n + 1) (pushB s.word bs) r = none ∧ (n = 0 → s.word = "process") := by
  rw [blkF_cons] at h
  split at h
  · cases h
  · rename_i hc
    refine ⟨?_, h, fun h0 => Classical.byContradiction fun hw => hc (.inl ⟨h0, hw⟩)⟩
    cases hf : fitsW s.word bs with
    | true => rfl
    | false => exact absurd (.inr hf) hc
theorem rows_noAll : ∀ rs : List (Str × List Smt), noListAll (rs.map rowD) = true
  | [] => rfl
  | r :: rs => by
    show (noList (rowD r) && noListAll (rs.map rowD)) = true
    rw [rows_noAll rs]
    simp [rowD, noList, noListAll, sts_noList]
def spBuilt (K : PySem.W.Frag) : Sp := fun vs H Q _ => ∃ (l : Addr) (xs : List V) (n : Str) (r : List Stp), vs = [.ref l] ∧ H l = some (.lst xs) ∧ DpAll K H xs ((Stp.proc n :: r).map Stp.data) ∧ r.length < 400 ∧ (∀ s ∈ Stp.proc n :: r, s.good) ∧ blkF 0 [] (Stp.proc n :: r) = none ∧
  ∀ l' vs H', Same H H' → H l' = none → H' l' = some (.lst vs) → DpAll K H' vs ((rowsOf (Stp.proc n :: r)).map rowD) → Q (.ref l') H'
theorem kind (s : Stp) : (∃ n, s = .proc n) ∨ (s.word ∈ blkL ∧ s.word ≠ "process") ∨ s = .fin ∨ (leafS s = true ∧ s.word ≠ "process" ∧ s.word ∉ blkL ∧ s.word ≠ "end") := by
  cases s with
  | proc n => exact .inl ⟨n, rfl⟩
  | iff t => exact .inr (.inl (by simp only [Stp.word]; decide +kernel))
  | whil t => exact .inr (.inl (by simp only [Stp.word]; decide +kernel))
  | els => exact .inr (.inl (by simp only [Stp.word]; decide +kernel))
  | fin => exact .inr (.inr (.inl rfl))
  | _ => exact .inr (.inr (.inr (by simp only [Stp.word, leafS]; decide +kernel)))
theorem step_leaf {b : BSt} {s : Stp} (h : leafS s = true) : b.step s = b.add (.lf s) := by
  cases s <;> first | rfl | cases h
theorem step_head {b : BSt} {s : Stp} (h : s.word ∈ blkL) : b.step s = ⟨b.rows, b.cur, [] :: b.parts, s :: b.heads⟩ := by
  cases s <;> first | rfl | (exfalso; revert h; simp only [Stp.word]; decide +kernel)
theorem run_snoc (b : BSt) (l : List Stp) (s : Stp) : b.run (l ++ [s]) = (b.run l).step s := by
  unfold BSt.run
  rw [List.foldl_append]
  rfl
section
variable {P : Program} {w : World} {K : PySem.W.Frag} {mg : Str → Option Value} {base : Heap} {CP : Addr}
abbrev brN : List Str := ["steps", "rows", "parts", "heads", "step", "word", "name", "body"]
theorem scBR : FnScope brN ["steps"] (defScope sBuiltRows) := ⟨rfl, rfl, rfl, by decide +kernel, rfl, by decide +kernel, by decide +kernel⟩
theorem ok_builtRows {f fC : Addr} {fd fdC : FuncData} (F : Fun K "built_rows" "built_rows" sBuiltRows f fd) (mtup : mg "tuple" = none) (CC : Cal P w K mg base 1 "close_block" fC fdC ["heads", "parts"] (spCloseB K)) : FnOk P w K mg base CX0 2 f fd ["steps"] (spBuilt K) := by
  refine F.ok scBR (fun vs H Q E h => ?_) (fun cdv A outer s H vs Q E hr h => ?_)
  · obtain ⟨_, _, _, _, rfl, _⟩ := h
    rfl
  · obtain ⟨l, xs, n0, r0, rfl, hl, hd, hlen, hg, hblk, k⟩ := h
    refine ⟨_, (pss_cons (ps_set (i := 1) scBR.nd rfl (.inl rfl) (pe_lst pa_nil)) (pss_cons (ps_set (i := 2) scBR.nd rfl (.inl rfl) (pe_lst pa_nil)) (pss_cons (ps_set (i := 3) scBR.nd rfl (.inl rfl) (pe_lst pa_nil)) (pss_cons (ps_for PassesOwn.never rfl (pi_list (pv 0)) (pg_name (i := 4) scBR.nd rfl (.inl rfl)) (pss_cons (ps_set (i := 5) scBR.nd rfl (.inl rfl) (pe_ix ix_tup (pv 4) pe_int (fun _ _ => rfl))) (pss_one (ps_if (pt_cmpR op_eq (pv 5) pe_str (nomark _)) (pss_cons (ps_set (i := 2) scBR.nd rfl (.inl rfl) (pe_lst (pa_cons (pe_lst pa_nil) pa_nil))) (pss_one (ps_expr (pe_bm PySem.F.plainAttrs_list PySem.F.slot_list_append PySem.F.type_list_append mt_append (pv 1) (pa_cons (pe_tup (pa_cons (pe_ix ix_tup (pv 4) pe_int (fun _ _ => rfl)) (pa_cons (pe_ix ix_list (pv 2) pe_int (fun _ _ => rfl)) pa_nil))) pa_nil))))) (pss_one (ps_if (pt_cmpR op_in_seq (pv 5) (pe_tup (pa_cons pe_str (pa_cons pe_str (pa_cons pe_str pa_nil)))) rfl) (pss_cons (ps_expr (pe_bm PySem.F.plainAttrs_list PySem.F.slot_list_append PySem.F.type_list_append mt_append (pv 3) (pa_cons (pv 4) pa_nil))) (pss_one (ps_expr (pe_bm PySem.F.plainAttrs_list PySem.F.slot_list_append PySem.F.type_list_append mt_append (pv 2) (pa_cons (pe_lst pa_nil) pa_nil))))) (pss_one (ps_if (pt_cmpR op_eq (pv 5) pe_str (nomark _)) (pss_one (ps_expr (pe_call CC.ok hr rfl CC.mg CC.kp CC.bi .nil pass0 (pa_cons (pv 3) (pa_cons (pv 2) pa_nil))))) (pss_one (ps_expr (pe_bm PySem.F.plainAttrs_list PySem.F.slot_list_append PySem.F.type_list_append mt_append (pe_ix ix_list (pv 2) (pe_un un_neg pe_int) (fun _ _ => rfl)) (pa_cons (pv 4) pa_nil)))))))))))) (pss_one (ps_ret (pe_lc (own := [("name", 6), ("body", 7)]) (g := gTup K 2 (gCons (gName 6) (gCons (gName 7) gNil))) (tt := tYes) (te := tTup (tCons (tVar 6) (tCons (tCB (rTupOf K) (tCons (tVar 7) tNil)) tNil))) rfl scBR.nd (pi_list (pv 1)) (blkOk_by (own := [("name", 6), ("body", 7)]) (N := brN) (sc := defScope sBuiltRows) (by decide +kernel)) (fun _ _ _ _ _ => (pg_tup rfl (pgs_cons (pg_name (i := 6) scBR.nd rfl (Or.inl rfl)) (pgs_cons (pg_name (i := 7) scBR.nd rfl (Or.inl rfl)) pgs_nil)))) (fun _ _ _ _ _ => pts_nil) (fun _ _ _ _ _ => (pe_tup (pa_cons (pv 6) (pa_cons (pe_callTy call_tuple_of (by rfl) mtup (by decide +kernel) (pa_cons (pv 7) pa_nil)) pa_nil))))))))))), ?_⟩
    generalize hss : Stp.proc n0 :: r0 = ss at *
    have hxl := dpAll_len hd
    rw [List.length_map] at hxl
    have hsl : ss.length = r0.length + 1 := by rw [← hss]; rfl
    refine ⟨(by show 0 ≤ sizeLine; decide), fun R nR => ⟨(by show 0 ≤ sizeLine; decide), fun P0 nP0 => ⟨(by show 0 ≤ sizeLine; decide), fun Hd nHd => ?_⟩⟩⟩
    have hPn : H P0 = none := (same_new nR).free nP0
    have hHn : H Hd = none := ((same_new nR).trans (same_new nP0)).free nHd
    have s0 : Same H (upd (upd (upd H R (.lst [])) P0 (.lst [])) Hd (.lst [])) := ((same_new nR).trans (same_new nP0)).trans (same_new nHd)
    have hRH : R ≠ Hd := fun z => by
      rw [← z] at nHd
      exact absurd ((same_new nP0 (o := .lst [])) R _ upd_same) (by rw [nHd]; intro z; cases z)
    have i1 : upd (upd (upd H R (.lst [])) P0 (.lst [])) Hd (.lst []) R = some (.lst []) := by
      rw [upd_ne hRH]
      exact same_new nP0 _ _ upd_same
    have i2 : upd (upd (upd H R (.lst [])) P0 (.lst [])) Hd (.lst []) Hd = some (.lst []) := upd_same
    generalize upd (upd (upd H R (.lst [])) P0 (.lst [])) Hd (.lst []) = Hi at s0 i1 i2 ⊢
    refine ⟨_, rfl, l, rfl, ⟨_, SqL.of (s0 _ _ hl)⟩, for_list (K := K) (a := l) (xs := xs) (fun i σ Hx => ∃ (Pa : Addr) (x4 x5 : Option V), σ = [some (.ref l), some (.ref R), some (.ref Pa), some (.ref Hd), x4, x5, none, none] ∧ Same H Hx ∧ ((i = 0 ∧ Hx R = some (.lst []) ∧ Hx Hd = some (.lst [])) ∨ (∃ bs ts Ls t a0 as hs, PInv bs (bst0.run (ss.take i)) i ∧ blkF i bs (ss.drop i) = none ∧ BH K H Hx R Pa Hd (bst0.run (ss.take i)) ts Ls t a0 as hs)))
      ⟨P0, none, none, rfl, s0, .inl ⟨rfl, i1, i2⟩⟩ (fun i σ Hx _ ⟨_, _, _, _, sm, _⟩ => SqL.of (sm _ _ hl)) ?_ ?_⟩
    · rintro i x σ Hx hx ⟨Pa, x4, x5, rfl, sm, hst⟩
      obtain ⟨s, a, ys, hsi, rfl, ha, hys⟩ := stp_at hd hx
      have hi : i < ss.length := (List.getElem?_eq_some_iff.mp hsi).1
      have hdrop : ss.drop i = s :: ss.drop (i + 1) := by
        obtain ⟨h1, h2⟩ := List.getElem?_eq_some_iff.mp hsi
        rw [← h2, List.getElem_cons_drop]
      have htk : bst0.run (ss.take (i + 1)) = (bst0.run (ss.take i)).step s := by
        rw [List.take_add_one, hsi]
        exact run_snoc _ _ _
      have hgs : s.good := hg s (List.mem_of_getElem? hsi)
      have ha1 := sqT_same sm ha
      refine ⟨_, rfl, a, _, _, _, rfl, rfl, ha1, at0, _, rfl, rfl, _, rfl, ?_⟩
      rw [eqW]
      rcases kind s with ⟨n, rfl⟩ | hk
      · -- a process
        obtain ⟨zs, rfl, _⟩ := rest_one hys
        have pre : ∃ ts0 Ls0, Hx R = some (.lst (ts0.map V.ref)) ∧ RowsH K Hx ts0 Ls0 (bst0.run (ss.take i)).fin ∧ Hx Hd = some (.lst []) ∧ (R :: Hd :: Ls0).Nodup ∧ (∀ x ∈ Ls0, H x = none) ∧ ts0.length ≤ i ∧ PInv [] ((bst0.run (ss.take i)).step (.proc n)) (i + 1) ∧ blkF (i + 1) [] (ss.drop (i + 1)) = none := by
          rcases hst with ⟨h0, h1, h2⟩ | ⟨bs, ts, Ls, t, a0, as, hs, hI, hF, hB⟩
          · subst h0
            rw [← hss] at hblk hsi
            obtain ⟨_, g2, _⟩ := blk_next hblk
            rw [show pushB (Stp.proc n0).word [] = [] from (pushW []).2.2.2.2.1] at g2
            refine ⟨[], [], h1, trivial, h2, by simp [hRH], (fun x h => by cases h), Nat.le_refl _, ?_, ?_⟩
            · exact ⟨.nil trivial (Nat.zero_le _), (fun r h => by cases h), hgs, by simp [bst0, BSt.run, BSt.step, BSt.fin, cntR, cntP, slines]⟩
            · rw [← hss]; exact g2
          · rw [hdrop] at hF
            obtain ⟨g1, g2, _⟩ := blk_next hF
            have hb0 := fitsW_proc g1
            subst hb0
            have hI' := pinv_step hI hgs g1
            rw [show pushB (Stp.proc n).word [] = [] from (pushW []).2.2.2.2.1] at g2 hI'
            have hbi := hI.bi
            obtain ⟨pre, hpre⟩ := hB.bot
            have hups := hB.ups
            have hdp := hB.dp
            have hH := hB.hH
            have hcnt := hI.cnt
            generalize hb : bst0.run (ss.take i) = b at *
            have hfin : ∃ p, b.parts = [p] ∧ b.heads = [] := by
              generalize b.parts = ps at hbi
              generalize b.heads = hh at hbi
              cases hbi with
              | nil _ _ => exact ⟨_, rfl, rfl⟩
            obtain ⟨p, hp, hh⟩ := hfin
            rw [hp] at hups
            rw [hh] at hdp
            cases hdp
            match as, hups with
            | [a1], ⟨hu, _⟩ =>
            have e1 : a1 = a0 := by
              cases pre with
              | nil => simpa using hpre
              | cons _ _ => simp at hpre
            subst e1
            have hrl := rowsH_len hB.rows
            have hnd := hB.nd
            refine ⟨ts ++ [t], Ls ++ [a1], hB.hR, ?_, hH, ?_, fun x hx => hB.new x (by simp only [List.mem_cons]; exact .inr (.inr (.inr hx))), ?_, hI', g2⟩
            · unfold BSt.fin
              rw [hp]
              exact rowsH_snoc hB.ht hu hB.rows
            · simp only [List.nodup_cons, List.mem_cons, not_or] at hnd ⊢
              exact ⟨⟨hnd.1.2.1, hnd.1.2.2⟩, hnd.2.2⟩
            · have : b.rows.length ≤ cntR b.rows := by
                generalize b.rows = rs
                induction rs with
                | nil => exact Nat.zero_le _
                | cons r rs ih => simp only [cntR, List.map_cons, List.sum_cons, List.length_cons] at ih ⊢; omega
              simp only [List.length_append, List.length_cons, List.length_nil]
              omega
        obtain ⟨ts0, Ls0, hR, hrows, hH, hnd, hnew, htl, hI', hF'⟩ := pre
        refine iteTc (decide_eq_true rfl) ?_
        refine ⟨(by show 0 ≤ sizeLine; decide), fun L0 n0' => ⟨(by show 1 ≤ sizeLine; decide), fun P1 nP1 => ?_⟩⟩
        have L0P : L0 ≠ P1 := ne_of_none upd_same nP1
        have nP1x : Hx P1 = none := (same_new n0').free nP1
        have s2 : Same Hx (upd (upd Hx L0 (.lst [])) P1 (.lst [.ref L0])) := (same_new n0').trans (same_new nP1)
        have c1 : upd (upd Hx L0 (.lst [])) P1 (.lst [.ref L0]) P1 = some (.lst [.ref L0]) := upd_same
        have c2 : upd (upd Hx L0 (.lst [])) P1 (.lst [.ref L0]) L0 = some (.lst []) := by rw [upd_ne L0P, upd_same]
        generalize upd (upd Hx L0 (.lst [])) P1 (.lst [.ref L0]) = H2 at s2 c1 c2 ⊢
        have ha2 := sqT_same s2 ha1
        refine ⟨_, rfl, .inl ⟨rfl, _, SqL.of (s2 _ _ hR)⟩, _, rfl, a, _, _, _, rfl, rfl, ha2, at1, _, rfl, P1, _, _, .ref L0, rfl, rfl, SqL.of c1, at0, (by show 2 ≤ sizeLine; decide), fun t1 nt1 => ?_⟩
        have s3 : Same Hx (upd H2 t1 (.tup [.str n, .ref L0])) := s2.trans (same_new nt1)
        have s23 : Same H2 (upd H2 t1 (.tup [.str n, .ref L0])) := same_new nt1
        have c3 : upd H2 t1 (.tup [.str n, .ref L0]) t1 = some (.tup [.str n, .ref L0]) := upd_same
        generalize upd H2 t1 (.tup [.str n, .ref L0]) = H3 at s3 s23 c3 ⊢
        have hR3 := s3 _ _ hR
        refine ⟨R, _, .ref t1, rfl, rfl, hR3, by rw [List.length_map]; exact Nat.lt_of_le_of_lt (by omega : ts0.length ≤ 400) (by decide), ?_⟩
        have k4 : Keeps H3 (upd H3 R (.lst (ts0.map V.ref ++ [.ref t1]))) := keeps_lst hR3
        have nR0 : L0 ≠ R := (ne_of_none hR n0').symm
        have nRP : P1 ≠ R := (ne_of_none hR nP1x).symm
        have nH0 : L0 ≠ Hd := (ne_of_none hH n0').symm
        have nHP : P1 ≠ Hd := (ne_of_none hH nP1x).symm
        have sall : Same H (upd H3 R (.lst (ts0.map V.ref ++ [.ref t1]))) := same_upd0 (sm.trans s3) nR
        refine ⟨P1, _, _, rfl, sall, .inr ⟨[], ts0, Ls0, t1, L0, [L0], [], by rw [htk]; exact hI', hF', ?_⟩⟩
        rw [htk]
        have hsome := rowsH_some hrows
        refine ⟨by rw [upd_same]; simp, (hrows.keep ((keeps_same s3).trans k4) (fun L hL xs e => by
          rw [upd_ne (fun z => by rw [z] at hL; simp only [List.nodup_cons, List.mem_cons, not_or] at hnd; exact hnd.1.2 hL)]
          exact s3 _ _ e)), ⟨[], rfl⟩, k4.1 _ _ c3, ?_, ⟨⟨[], ?_, .nil⟩, trivial⟩, ?_, .nil, ?_, ?_⟩
        · rw [upd_ne nRP]; exact s23 _ _ c1
        · rw [upd_ne nR0]; exact s23 _ _ c2
        · rw [upd_ne (Ne.symm hRH)]; exact s3 _ _ hH
        · simp only [List.nodup_cons, List.mem_cons, not_or] at hnd
          have p1 : P1 ∉ Ls0 := fun hh => by obtain ⟨vs, hv⟩ := hsome _ hh; exact ne_of_none hv nP1x rfl
          have p2 : L0 ∉ Ls0 := fun hh => by obtain ⟨vs, hv⟩ := hsome _ hh; exact ne_of_none hv n0' rfl
          simp only [List.nodup_cons, List.mem_cons, List.mem_append, List.nodup_append, List.not_mem_nil, not_or, or_false]
          exact ⟨⟨Ne.symm nRP, hRH, hnd.1.2, Ne.symm nR0⟩, ⟨nHP, p1, Ne.symm L0P⟩, ⟨hnd.2.1, Ne.symm nH0⟩, hnd.2.2, ⟨not_false, List.nodup_nil⟩, fun x hx y hy e => p2 (by rw [← hy, ← e]; exact hx)⟩
        · intro x hx
          simp only [List.mem_cons, List.mem_append, List.not_mem_nil, or_false] at hx
          rcases hx with rfl | rfl | rfl | hx | rfl
          · exact nR
          · exact sm.free nP1x
          · exact hHn
          · exact hnew x hx
          · exact sm.free n0'
      refine iteFc (decide_eq_false (by rcases hk with h | h | h; exact h.2; (rw [h]; simp only [Stp.word]; decide +kernel); exact h.2.1)) ?_
      -- in a process
      rcases hst with ⟨h0, _⟩ | ⟨bs, ts, Ls, t, a0, as, hs, hI, hF, hB⟩
      · exfalso
        subst h0
        rw [← hss] at hblk hsi
        injection hsi with hsi
        rcases hk with h | h | h
        · exact h.2 (by rw [← hsi]; rfl)
        · rw [← hsi] at h; cases h
        · exact h.2.1 (by rw [← hsi]; rfl)
      rw [hdrop] at hF
      obtain ⟨g1, g2, _⟩ := blk_next hF
      have hI' := pinv_step hI hgs g1
      have hlenB := hI.bi.len
      have hcnt := hI.cnt
      generalize hb : bst0.run (ss.take i) = b at *
      refine ⟨_, rfl, (by show 3 ≤ sizeLine; decide), fun q nq => ⟨q, blkL.map V.str, rfl, .inr (SqT.of upd_same), rfl, flat_strs _, _, rfl, ?_⟩⟩
      have sq : Same Hx (upd Hx q (.tup [V.str "if", V.str "while", V.str "else"])) := same_new nq
      have hBq := hB.same sq
      have smq := sm.trans sq
      have haq := sqT_same sq ha1
      generalize upd Hx q (.tup [V.str "if", V.str "while", V.str "else"]) = Hq at sq hBq smq haq ⊢
      have hinv : inV (.str s.word) (blkL.map V.str) = blkL.contains s.word := inV_strs _ blkL
      have hnd := hBq.nd
      obtain ⟨pre, hpre⟩ := hBq.bot
      have nR' := hBq.new R (by simp)
      have nP' := hBq.new Pa (by simp)
      have nH' := hBq.new Hd (by simp)
      rcases hk with hk | rfl | hk
      · -- a head
        refine iteTc (by rw [if_neg (by decide), hinv]; exact List.contains_iff_mem.mpr hk.1) ?_
        have hhl : hs.reverse.length < sizeLine := by
          have := dpAll_len hBq.dp
          rw [List.length_map] at this
          rw [List.length_reverse]
          exact Nat.lt_of_le_of_lt (by omega : hs.length ≤ 400) (by decide)
        have hal : (as.reverse.map V.ref).length < sizeLine := by
          have := upsH_len hBq.ups
          rw [List.length_map, List.length_reverse]
          exact Nat.lt_of_le_of_lt (by omega : as.length ≤ 401) (by decide)
        simp only [List.nodup_cons, List.mem_cons, List.mem_append, not_or] at hnd
        obtain ⟨⟨nRP, nRH, nRL, nRa⟩, ⟨nPH, nPL, nPa⟩, ⟨nHL, nHa⟩, hndL⟩ := hnd
        refine ⟨_, rfl, .inl ⟨rfl, _, SqL.of hBq.hH⟩, _, rfl, Hd, _, .ref a, rfl, rfl, hBq.hH, hhl, ?_⟩
        have k1 : Keeps Hq (upd Hq Hd (.lst (hs.reverse ++ [.ref a]))) := keeps_lst hBq.hH
        have e1 : upd Hq Hd (.lst (hs.reverse ++ [.ref a])) Hd = some (.lst (V.ref a :: hs).reverse) := by rw [upd_same]; simp
        have o1 : ∀ x, x ≠ Hd → upd Hq Hd (.lst (hs.reverse ++ [.ref a])) x = Hq x := fun x h => upd_ne h
        have sm1 : Same H (upd Hq Hd (.lst (hs.reverse ++ [.ref a]))) := same_upd0 smq nH'
        generalize upd Hq Hd (.lst (hs.reverse ++ [.ref a])) = H1 at k1 e1 o1 sm1 ⊢
        have hP1 : H1 Pa = some (.lst (as.reverse.map V.ref)) := (o1 _ nPH).trans hBq.hP
        refine ⟨_, rfl, .inl ⟨rfl, _, SqL.of hP1⟩, (by show 0 ≤ sizeLine; decide), fun U nU => ?_⟩
        have s2 : Same H1 (upd H1 U (.lst [])) := same_new nU
        have e2 : upd H1 U (.lst []) U = some (.lst []) := upd_same
        have kU : Keeps H1 (upd H1 U (.lst [])) := keeps_new nU
        generalize upd H1 U (.lst []) = H2 at s2 e2 kU ⊢
        have hP2 := s2 _ _ hP1
        refine ⟨Pa, _, .ref U, rfl, rfl, hP2, hal, ?_⟩
        have k3 : Keeps H2 (upd H2 Pa (.lst (as.reverse.map V.ref ++ [.ref U]))) := keeps_lst hP2
        have kall := (k1.trans kU).trans k3
        have hq : ∀ x xs, x ≠ Hd → x ≠ Pa → Hq x = some (.lst xs) → upd H2 Pa (.lst (as.reverse.map V.ref ++ [.ref U])) x = some (.lst xs) := fun x xs h1 h2 e => by
          rw [upd_ne h2]
          exact s2 _ _ (by rw [o1 _ h1]; exact e)
        have uP : U ≠ Pa := (ne_of_none hP1 nU).symm
        have hsomeL := rowsH_some hBq.rows
        have hsomeA := upsH_some hBq.ups
        have nq' : ∀ x xs, Hq x = some (.lst xs) → U ≠ x := fun x xs e => by
          by_cases h : x = Hd
          · rw [h]; exact (ne_of_none e1 nU).symm
          · exact (ne_of_none ((o1 _ h).trans e) nU).symm
        refine ⟨Pa, _, _, rfl, same_upd0 (sm1.trans s2) nP', .inr ⟨pushB s.word bs, ts, Ls, t, a0, U :: as, .ref a :: hs, by rw [htk]; exact hI', g2, ?_⟩⟩
        rw [htk, step_head hk.1]
        refine ⟨hq _ _ nRH nRP hBq.hR, hBq.rows.keep kall (fun L hL xs e => hq L xs (fun z => nHL (z ▸ hL)) (fun z => nPL (z ▸ hL)) e), ⟨U :: pre, by rw [hpre]; rfl⟩, kall.1 _ _ hBq.ht, by rw [upd_same]; simp, ⟨⟨[], ?_, .nil⟩, hBq.ups.keep kall (fun L hL xs e => hq L xs (fun z => nHa (z ▸ hL)) (fun z => nPa (z ▸ hL)) e)⟩, ?_, .cons ?_ (dpAll_keep kall.1 kall.2 hBq.dp (stps_noAll _)), ?_, ?_⟩
        · rw [upd_ne uP]; exact e2
        · rw [upd_ne (Ne.symm nPH)]; exact s2 _ _ e1
        · exact .tup (sqT_keep kall.1 kall.2 haq) (.cons (.str _) (dpAll_keep kall.1 kall.2 (dpAll_same smq hys) (by have := s.noList; unfold Stp.data at this; simpa [noList, noListAll] using this)))
        · have u1 : U ∉ Ls := fun hh => by obtain ⟨vs, hv⟩ := hsomeL _ hh; exact nq' _ _ hv rfl
          have u2 : U ∉ as := fun hh => by obtain ⟨vs, hv⟩ := hsomeA _ hh; exact nq' _ _ hv rfl
          have u3 : R ≠ U := (nq' _ _ hBq.hR).symm
          have u4 : Hd ≠ U := (nq' _ _ hBq.hH).symm
          have hndL' : (Ls ++ U :: as).Nodup := by
            rw [List.nodup_append] at hndL ⊢
            refine ⟨hndL.1, List.nodup_cons.mpr ⟨u2, hndL.2.1⟩, fun x hx y hy e => ?_⟩
            rcases List.mem_cons.mp hy with rfl | hy
            · exact u1 (e ▸ hx)
            · exact hndL.2.2 x hx y hy e
          simp only [List.nodup_cons, List.mem_cons, List.mem_append, not_or]
          exact ⟨⟨nRP, nRH, nRL, u3, nRa⟩, ⟨nPH, nPL, Ne.symm uP, nPa⟩, ⟨nHL, u4, nHa⟩, hndL'⟩
        · intro x hx
          simp only [List.mem_cons, List.mem_append] at hx
          rcases hx with rfl | rfl | rfl | hx | rfl | hx
          · exact nR'
          · exact nP'
          · exact nH'
          · exact hBq.new x (by simp [hx])
          · exact sm1.free nU
          · exact hBq.new x (by simp [hx])
      · -- an end
        refine iteFc (by rw [if_neg (by decide), hinv]; simp only [Stp.word]; decide +kernel) ⟨_, rfl, rfl, _, rfl, iteTc (decide_eq_true rfl) ⟨_, rfl, _, rfl, Hd, Pa, hs, as, b, bs, rfl, hBq.hH, hBq.dp, hBq.hP, hBq.ups, ?_, hI.bi, fitsW_end g1, by omega, fun H' hs' as' C => ?_⟩⟩
        · simp only [List.nodup_cons, List.mem_cons, List.mem_append, not_or] at hnd ⊢
          exact ⟨⟨hnd.2.1.1, hnd.2.1.2.2⟩, hnd.2.2.1.2, (List.nodup_append.mp hnd.2.2.2).2.1⟩
        · obtain ⟨pre', hsuf⟩ := C.suf
          obtain ⟨c1, c2⟩ := close_rows b
          have hne : as' ≠ [] := by
            have := upsH_len C.ups
            have h2 : b.close.parts.length = b.close.heads.length + 1 := (hI'.bi.len).2
            intro e
            rw [e] at this
            simp only [List.length_nil] at this
            omega
          simp only [List.nodup_cons, List.mem_cons, List.mem_append, not_or] at hnd
          obtain ⟨⟨nRP, nRH, nRL, nRa⟩, ⟨nPH, nPL, nPa⟩, ⟨nHL, nHa⟩, hndL⟩ := hnd
          have smA : Same H H' := fun x o e => by
            have hx := smq _ _ e
            refine C.els x o hx (fun z => ?_) (fun z => ?_) (fun z => ?_)
            · rw [z, nH'] at e; cases e
            · rw [z, nP'] at e; cases e
            · rw [hBq.new x (by simp [z])] at e; cases e
          have sub : ∀ x ∈ as', x ∈ as := fun x hx => by rw [hsuf]; exact List.mem_append_right _ hx
          refine ⟨Pa, _, _, rfl, smA, .inr ⟨pushB Stp.fin.word bs, ts, Ls, t, a0, as', hs', by rw [htk]; exact hI', g2, ?_⟩⟩
          rw [htk]
          have hnL : ∀ L ∈ Ls, L ∉ as := fun L hL hh => (List.nodup_append.mp hndL).2.2 L hL L hh rfl
          refine ⟨C.els _ _ hBq.hR nRH nRP nRa, ?_, ?_, ?_, C.pt, C.ups, C.hd, C.dp, ?_, ?_⟩
          · show RowsH K H' ts Ls b.close.rows
            rw [c1]
            exact hBq.rows.keep C.kp (fun L hL xs e => C.els L _ e (fun z => nHL (z ▸ hL)) (fun z => nPL (z ▸ hL)) (hnL L hL))
          · have h1 : as.getLast? = some a0 := by rw [hpre]; simp
            rw [hsuf, List.getLast?_append] at h1
            cases e : as'.getLast? with
            | none => exact absurd (List.getLast?_eq_none_iff.mp e) hne
            | some y =>
              rw [e] at h1
              simp only [Option.some_or, Option.some.injEq] at h1
              subst h1
              exact List.getLast?_eq_some_iff.mp e
          · show H' t = some (.tup [.str b.close.cur, .ref a0])
            rw [c2]
            exact C.kp.1 _ _ hBq.ht
          · simp only [List.nodup_cons, List.mem_cons, List.mem_append, not_or]
            refine ⟨⟨nRP, nRH, nRL, fun h => nRa (sub _ h)⟩, ⟨nPH, nPL, fun h => nPa (sub _ h)⟩, ⟨nHL, fun h => nHa (sub _ h)⟩, ?_⟩
            rw [List.nodup_append] at hndL ⊢
            refine ⟨hndL.1, ?_, fun x hx y hy => hndL.2.2 x hx y (sub y hy)⟩
            have := hndL.2.1
            rw [hsuf] at this
            exact (List.nodup_append.mp this).2.1
          · intro x hx
            simp only [List.mem_cons, List.mem_append] at hx
            refine hBq.new x ?_
            simp only [List.mem_cons, List.mem_append]
            rcases hx with h | h | h | h | h
            · exact .inl h
            · exact .inr (.inl h)
            · exact .inr (.inr (.inl h))
            · exact .inr (.inr (.inr (.inl h)))
            · exact .inr (.inr (.inr (.inr (sub x h))))
      · -- another statement
        have hnc : blkL.contains s.word = false := Bool.eq_false_iff.mpr (fun h => hk.2.2.1 (List.contains_iff_mem.mp h))
        refine iteFc (by rw [if_neg (by decide), hinv]; exact hnc) ⟨_, rfl, rfl, _, rfl, iteFc (by rw [eqW]; exact decide_eq_false hk.2.2.2) ?_⟩
        obtain ⟨p, ps, hps⟩ := hI.bi.ne
        have hups := hBq.ups
        have hPq := hBq.hP
        rw [hps] at hups
        match as, hups with
        | a1 :: as2, ⟨⟨vs1, hv1, hd1⟩, hups⟩ =>
        have ix : atI ((a1 :: as2).reverse.map V.ref) (-1) = some (.ref a1) := by
          have := atI_lastR (xs := as2.reverse.map V.ref) (v := .ref a1)
          simpa using this
        have hvl : vs1.length < sizeLine := by
          have h1 := dpAll_len hd1
          rw [sdata_map, List.length_map] at h1
          have h2 := sl_len p
          rw [hps] at hcnt
          simp only [cntP, List.map_cons, List.sum_cons] at hcnt
          exact Nat.lt_of_le_of_lt (by omega : vs1.length ≤ 400) (by decide)
        simp only [List.nodup_cons, List.mem_cons, List.mem_append, not_or] at hnd
        obtain ⟨⟨nRP, nRH, nRL, nRa⟩, ⟨nPH, nPL, nPa⟩, ⟨nHL, nHa⟩, hndL⟩ := hnd
        have hndA := List.nodup_append.mp hndL
        have hnd1 := List.nodup_cons.mp hndA.2.1
        refine ⟨_, rfl, 1, rfl, Pa, _, _, .ref a1, rfl, rfl, SqL.of hPq, ix, .inl ⟨rfl, _, SqL.of hv1⟩, _, rfl, a1, vs1, .ref a, rfl, rfl, hv1, hvl, ?_⟩
        have k1 : Keeps Hq (upd Hq a1 (.lst (vs1 ++ [.ref a]))) := keeps_lst hv1
        have o1 : ∀ x o, x ≠ a1 → Hq x = some o → upd Hq a1 (.lst (vs1 ++ [.ref a])) x = some o := fun x o h e => by rw [upd_ne h]; exact e
        have nA := hBq.new a1 (by simp)
        refine ⟨Pa, _, _, rfl, same_upd0 smq nA, .inr ⟨pushB s.word bs, ts, Ls, t, a0, a1 :: as2, hs, by rw [htk]; exact hI', g2, ?_⟩⟩
        rw [htk, step_leaf hk.1, add_parts hps]
        refine ⟨o1 _ _ nRa.1 hBq.hR, hBq.rows.keep k1 (fun L hL xs e => o1 L _ (fun z => hndA.2.2 L hL a1 (by simp) z) e), ⟨pre, hpre⟩, k1.1 _ _ hBq.ht, o1 _ _ nPa.1 hPq, ⟨⟨vs1 ++ [.ref a], upd_same, ?_⟩, hups.keep k1 (fun L hL xs e => o1 L _ (fun z => hnd1.1 (z ▸ hL)) e)⟩, o1 _ _ nHa.1 hBq.hH, dpAll_keep k1.1 k1.2 hBq.dp (stps_noAll _), ?_, hBq.new⟩
        · have hq : Dp K Hq (.ref a) (Smt.data (.lf s)) := by
            show Dp K Hq (.ref a) s.data
            exact .tup haq (.cons (.str _) (dpAll_same smq hys))
          have := dpAll_snoc hq hd1
          rw [show sdata p ++ [Smt.data (.lf s)] = sdata (p ++ [.lf s]) by simp [sdata_map]] at this
          exact dpAll_keep k1.1 k1.2 this (sts_noList _)
        · exact hBq.nd
    · rintro σ Hx ⟨Pa, x4, x5, rfl, sm, hst⟩
      rcases hst with ⟨h0, _⟩ | ⟨bs, ts, Ls, t, a0, as, hs, hI, hF, hB⟩
      · omega
      rw [hxl] at hI hF hB
      rw [List.take_length] at hI hB
      rw [List.drop_length, blkF_nil] at hF
      have hbs : bs = [] := by
        cases bs with
        | nil => rfl
        | cons _ _ => cases hF
      subst hbs
      have hfin : ∃ ts' Ls', Hx R = some (.lst (ts'.map V.ref)) ∧ RowsH K Hx ts' Ls' (bst0.run ss).fin := by
        have hbi := hI.bi
        obtain ⟨pre, hpre⟩ := hB.bot
        have hups := hB.ups
        have hr := hB.rows
        have ht := hB.ht
        have hR := hB.hR
        generalize bst0.run ss = b at *
        have hfin : ∃ p, b.parts = [p] := by
          generalize b.parts = ps at hbi
          generalize b.heads = hh at hbi
          cases hbi with
          | nil _ _ => exact ⟨_, rfl⟩
        obtain ⟨p, hp⟩ := hfin
        rw [hp] at hups
        match as, hups with
        | [a1], ⟨hu, _⟩ =>
        have e1 : a1 = a0 := by
          cases pre with
          | nil => simpa using hpre
          | cons _ _ => simp at hpre
        subst e1
        refine ⟨ts ++ [t], Ls ++ [a1], hR, ?_⟩
        unfold BSt.fin
        rw [hp]
        exact rowsH_snoc ht hu hr
      obtain ⟨ts', Ls', hR, hrows⟩ := hfin
      have hrl := rowsH_len hrows
      have hcn : (bst0.run ss).fin.length ≤ 401 := by
        have hc := hI.cnt
        have hl1 : ∀ rs : List (Str × List Smt), rs.length ≤ cntR rs := fun rs => by
          induction rs with
          | nil => exact Nat.zero_le _
          | cons r rs ih => simp only [cntR, List.map_cons, List.sum_cons, List.length_cons] at ih ⊢; omega
        have h1 := hl1 (bst0.run ss).rows
        unfold BSt.fin
        split
        · simp only [List.length_append, List.length_cons, List.length_nil]; omega
        · omega
      have hrf : rowsOf ss = (bst0.run ss).fin := rfl
      rw [hrf] at k
      generalize (bst0.run ss).fin = rows at *
      refine ⟨_, rfl, R, rfl, ⟨_, SqL.of hR⟩, fun D hD => ?_⟩
      have hDn : H D = none := sm.free hD
      refine lc_list (K := K) (a := R) (xs := ts'.map V.ref) (fun i Hy => ∃ vs, Hy D = some (.lst vs) ∧ vs.length ≤ i ∧ DpAll K Hy vs ((rows.take i).map rowD) ∧ Same Hx Hy) ⟨[], upd_same, Nat.le_refl _, by rw [List.take_zero]; exact .nil, same_new hD⟩ (fun i Hy _ q => SqL.of (q.choose_spec.2.2.2 _ _ hR)) ?_ ?_
      · rintro i x Hy hx ⟨vs, h1, h2, h3, h4⟩
        rw [List.getElem?_map] at hx
        obtain ⟨t1, ht1, rfl⟩ := Option.map_eq_some_iff.mp hx
        have hi : i < ts'.length := (List.getElem?_eq_some_iff.mp ht1).1
        obtain ⟨L, r, hr1, hr2, ⟨ws, hr3, hr4⟩⟩ := rowsH_get hrows ht1
        refine ⟨t1, _, rfl, SqT.of (h4 _ _ hr2), rfl, _, _, rfl, _, _, rfl, rfl, rfl, ?_⟩
        refine ⟨_, rfl, _, rfl, L, ws, rfl, .inl ⟨SqL.of (h4 _ _ hr3), fun l1 nl1 => ⟨(by show 2 ≤ sizeLine; decide), fun q nq => ?_⟩⟩⟩
        have s5 : Same Hy (upd (upd Hy l1 (.tup ws)) q (.tup [.str r.1, .ref l1])) := (same_new nl1).trans (same_new nq)
        have e5 : upd (upd Hy l1 (.tup ws)) q (.tup [.str r.1, .ref l1]) q = some (.tup [.str r.1, .ref l1]) := upd_same
        have e6 : upd (upd Hy l1 (.tup ws)) q (.tup [.str r.1, .ref l1]) l1 = some (.tup ws) := same_new nq _ _ upd_same
        generalize upd (upd Hy l1 (.tup ws)) q (.tup [.str r.1, .ref l1]) = Hz at s5 e5 e6 ⊢
        have hD1 := s5 _ _ h1
        refine ⟨vs, hD1, Nat.lt_of_le_of_lt (by omega : vs.length ≤ 401) (by decide), vs ++ [.ref q], upd_same, by rw [List.length_append, List.length_singleton]; omega, ?_, ?_⟩
        · have k6 : Keeps Hz (upd Hz D (.lst (vs ++ [.ref q]))) := keeps_lst hD1
          have hq : Dp K Hz (.ref q) (rowD r) := .tup (SqT.of e5) (.cons (.str _) (.cons (.tup (SqT.of e6) (dpAll_same (h4.trans s5) hr4)) .nil))
          have h7 := dpAll_snoc hq (dpAll_same s5 h3)
          have h8 : (rows.take i).map rowD ++ [rowD r] = (rows.take (i + 1)).map rowD := by rw [List.take_add_one, hr1]; simp
          rw [h8] at h7
          exact dpAll_keep k6.1 k6.2 h7 (rows_noAll _)
        · exact same_upd0 (h4.trans s5) hD
      · rintro Hy ⟨vs, h1, h2, h3, h4⟩
        refine k D vs Hy (sm.trans h4) hDn h1 ?_
        rw [List.length_map, hrl.1, List.take_length] at h3
        exact h3
end
end XE

set_option Elab.async false
set_option linter.all false
set_option maxRecDepth 100000
set_option maxHeartbeats 1000000
namespace XE
open PySem PySem.Spec PyProof.Rows L2 Rx SX
abbrev sWritten : Stmt := topS 32
abbrev sPartsOf : Stmt := topS 33
abbrev sEnclosed : Stmt := topS 34
def bwL : List Str := ["or", "and", "not", "=", "!=", "<", "<=", ">", ">=", "+", "-", "*", "//", "mod", "negate", "number", "variable"]
structure TxtW (K : PySem.W.Frag) (w : World) (mg : Str → Option Value) : Prop where
  bind : ∃ a, mg "BINDING" = some (.ref a) ∧ ∀ z ∈ bwL, KDct K w a z (.int (bindOf z))
  loose : ∃ t, mg "LOOSEST_EXPRESSION" = some (.int 5 t)
theorem word_bw {t : Tr} (h : t.wf) : t.word ∈ bwL := by
  cases t with
  | num n => exact (by decide +kernel : ("number" : Str) ∈ bwL)
  | var x => exact (by decide +kernel : ("variable" : Str) ∈ bwL)
  | pre w a => exact (by decide +kernel : ∀ w ∈ prefL, w ∈ bwL) w h.1
  | bin w a b => exact (by decide +kernel : ∀ w ∈ binL, w ∈ bwL) w h.1
def spEncl (K : PySem.W.Frag) : Sp := fun vs H Q _ => ∃ (Hb : Hp) (v : V) (d : PyData) (t : Tr) (l : Int), vs = [v, .int l] ∧ Same Hb H ∧ Dp K Hb v d ∧ Rep d t ∧ t.wf ∧ ∀ (p : Addr) (H' : Hp) (us : List V), Same H H' → H p = none → H' p = some (.lst us) → PartsAt K Hb us (enclT t l) → Q (.ref p) H'
def spParts (K : PySem.W.Frag) : Sp := fun vs H Q _ => ∃ (Hb : Hp) (v : V) (d : PyData) (t : Tr), vs = [v] ∧ Same Hb H ∧ Dp K Hb v d ∧ Rep d t ∧ t.wf ∧ ∀ (p : Addr) (H' : Hp) (us : List V), Same H H' → H p = none → H' p = some (.lst us) → PartsAt K Hb us (partsT t) → Q (.ref p) H'
def spWritten (K : PySem.W.Frag) : Sp := fun vs H Q _ => ∃ (v : V) (d : PyData) (t : Tr), vs = [v] ∧ Dp K H v d ∧ Rep d t ∧ t.wf ∧ t.sz ≤ 100000 ∧ t.txt.length ≤ 100000 ∧ ∀ H', Same H H' → Q (.str (S t.txt)) H'
section
variable {P : Program} {w : World} {K : PySem.W.Frag} {mg : Str → Option Value} {base : Heap}
theorem scEn : FnScope ["node", "least", "binding"] ["node", "least"] (defScope sEnclosed) := ⟨rfl, rfl, rfl, by decide +kernel, rfl, by decide +kernel, by decide +kernel⟩
theorem ok_encl {f : Addr} {fd : FuncData} (F : Fun K "enclosed" "enclosed" sEnclosed f fd) (T : TxtW K w mg) : FnOk P w K mg base CX0 1 f fd ["node", "least"] (spEncl K) := by
  obtain ⟨aB, mB, kB⟩ := T.bind
  obtain ⟨tl, mL⟩ := T.loose
  refine F.ok scEn (fun vs H Q E h => ?_) (fun cdv A outer s H vs Q E hr h => ?_)
  · obtain ⟨_, _, _, _, _, rfl, _⟩ := h
    rfl
  · obtain ⟨Hb, v, d, t, l, rfl, sb, hd, hrep, hwf, k⟩ := h
    refine ⟨_, pss_cons (ps_set (i := 2) scEn.nd rfl (.inl rfl) (pe_ix ix_kdict (pe_glob (v := .ref aB) rfl mB rfl) (pe_ix ix_seq (pv 0) pe_int (fun _ _ => rfl)) (fun _ _ => rfl)))
      (pss_cons (ps_if (pt_cmpR op_ge (pv 2) (pv 1) (nomark _)) (pss_one (ps_ret (pe_lst (pa_cons (pv 0) pa_nil)))) pss_nil)
      (pss_cons (ps_if (pt_cmpR op_lt (pv 2) (pe_glob (v := .int 5) rfl mL ⟨_, rfl⟩) (nomark _)) (pss_one (ps_ret (pe_lst (pa_cons pe_str (pa_cons (pv 0) (pa_cons pe_str pa_nil)))))) pss_nil)
      (pss_one (ps_ret (pe_lst (pa_cons pe_str (pa_cons (pv 0) (pa_cons pe_str pa_nil)))))))), ?_⟩
    obtain ⟨a, xs, rfl, hs, hb⟩ := node_at (dp_same sb hd) hrep
    have me : PartAt K Hb (.ref a) (.inr t) := ⟨d, hd, hrep⟩
    refine ⟨_, rfl, ix_any hs rfl (below_head hb) ?_⟩
    refine ⟨aB, t.word, .int (bindOf t.word), rfl, rfl, kB _ (word_bw hwf), ?_⟩
    refine ⟨_, rfl, _, rfl, _, _, rfl, rfl, _, rfl, ite2 (fun e => ?_) (fun e => ?_)⟩
    · have e' : l ≤ t.bnd := of_decide_eq_true e
      refine ⟨_, rfl, (by show 1 ≤ sizeLine; decide), fun p np => k p _ _ (same_new np) np upd_same ?_⟩
      unfold enclT
      rw [if_pos e']
      exact .cons me .nil
    · have e' : ¬ l ≤ t.bnd := fun z => e (decide_eq_true z)
      refine ⟨_, rfl, _, _, rfl, rfl, _, rfl, ite2 (fun e2 => ?_) (fun e2 => ?_)⟩
      · have e2' : t.bnd < 5 := of_decide_eq_true e2
        refine ⟨_, rfl, (by show 3 ≤ sizeLine; decide), fun p np => k p _ _ (same_new np) np upd_same ?_⟩
        unfold enclT
        rw [if_neg e', if_pos e2']
        exact .cons rfl (.cons me (.cons rfl .nil))
      · have e2' : ¬ t.bnd < 5 := fun z => e2 (decide_eq_true z)
        refine ⟨_, rfl, (by show 3 ≤ sizeLine; decide), fun p np => k p _ _ (same_new np) np upd_same ?_⟩
        unfold enclT
        rw [if_neg e', if_neg e2']
        exact .cons rfl (.cons me (.cons rfl .nil))
theorem scPo : FnScope ["node", "word", "binding"] ["node"] (defScope sPartsOf) := ⟨rfl, rfl, rfl, by decide +kernel, rfl, by decide +kernel, by decide +kernel⟩
theorem dS (x y : Str) : decide (V.str x = V.str y) = decide (x = y) := by
  rw [decide_eq_decide]
  exact ⟨fun h => by injection h, fun h => by rw [h]⟩
theorem cVN : decide (("variable" : Str) = "number") = false := by decide +kernel
theorem cNN : decide (("not" : Str) = "negate") = false := by decide +kernel
theorem ok_parts {f fE : Addr} {fd fdE : FuncData} (F : Fun K "parts_of" "parts_of" sPartsOf f fd) (T : TxtW K w mg) (mstr : mg "str" = none) (CE : Cal P w K mg base 1 "enclosed" fE fdE ["node", "least"] (spEncl K)) : FnOk P w K mg base CX0 2 f fd ["node"] (spParts K) := by
  obtain ⟨aB, mB, kB⟩ := T.bind
  refine F.ok scPo (fun vs H Q E h => ?_) (fun cdv A outer s H vs Q E hr h => ?_)
  · obtain ⟨_, _, _, _, rfl, _⟩ := h
    rfl
  · obtain ⟨Hb, v, d, t, rfl, sb, hd, hrep, hwf, k⟩ := h
    refine ⟨_, pss_cons (ps_set (i := 1) scPo.nd rfl (.inl rfl) (pe_ix ix_seq (pv 0) pe_int (fun _ _ => rfl)))
      (pss_cons (ps_if (pt_cmpR op_eq (pv 1) pe_str (nomark _)) (pss_one (ps_ret (pe_lst (pa_cons (pe_callTy call_str_int (by rfl) mstr (by decide +kernel) (pa_cons (pe_ix ix_seq (pv 0) pe_int (fun _ _ => rfl)) pa_nil)) pa_nil)))) pss_nil)
      (pss_cons (ps_if (pt_cmpR op_eq (pv 1) pe_str (nomark _)) (pss_one (ps_ret (pe_lst (pa_cons (pe_ix ix_seq (pv 0) pe_int (fun _ _ => rfl)) pa_nil)))) pss_nil)
      (pss_cons (ps_set (i := 2) scPo.nd rfl (.inl rfl) (pe_ix ix_kdict (pe_glob (v := .ref aB) rfl mB rfl) (pv 1) (fun _ _ => rfl)))
      (pss_cons (ps_if (pt_cmpR op_eq (pv 1) pe_str (nomark _)) (pss_one (ps_ret (pe_op op_cat (pe_lst (pa_cons pe_str pa_nil)) (pe_call CE.ok hr rfl CE.mg CE.kp CE.bi .nil pass0 (pa_cons (pe_ix ix_seq (pv 0) pe_int (fun _ _ => rfl)) (pa_cons (pv 2) pa_nil)))))) pss_nil)
      (pss_cons (ps_if (pt_cmpR op_eq (pv 1) pe_str (nomark _)) (pss_one (ps_ret (pe_op op_cat (pe_lst (pa_cons pe_str pa_nil)) (pe_call CE.ok hr rfl CE.mg CE.kp CE.bi .nil pass0 (pa_cons (pe_ix ix_seq (pv 0) pe_int (fun _ _ => rfl)) (pa_cons (pv 2) pa_nil)))))) pss_nil)
      (pss_one (ps_ret (pe_op op_cat (pe_op op_cat (pe_call CE.ok hr rfl CE.mg CE.kp CE.bi .nil pass0 (pa_cons (pe_ix ix_seq (pv 0) pe_int (fun _ _ => rfl)) (pa_cons (pv 2) pa_nil))) (pe_lst (pa_cons (pe_joined (PJ.cons pe_str (PJ.cons (pe_fmt (pv 1)) (PJ.cons pe_str PJ.nil)))) pa_nil))) (pe_call CE.ok hr rfl CE.mg CE.kp CE.bi .nil pass0 (pa_cons (pe_ix ix_seq (pv 0) pe_int (fun _ _ => rfl)) (pa_cons (pe_op op_add (pv 2) pe_int) pa_nil))))))))))), ?_⟩
    obtain ⟨a, xs, rfl, hs, hb⟩ := node_at hd hrep
    have hs' : SqL K H a xs ∨ SqT K H a xs := hs.imp (sqL_same sb) (sqT_same sb)
    refine ⟨_, rfl, ix_any hs' rfl (below_head hb) ?_⟩
    have bw := word_bw hwf
    cases t with
    | num n =>
      have hb' : xs = [.str "number", .int n] := hb
      subst hb'
      refine ⟨_, rfl, rfl, _, rfl, iteTc (decide_eq_true rfl) ⟨_, rfl, ix_any (i := 1) hs' rfl rfl ⟨n, rfl, hwf, (by show 1 ≤ sizeLine; decide), fun p np => k p _ _ (same_new np) np upd_same (.cons rfl .nil)⟩⟩⟩
    | var x =>
      have hb' : xs = [.str "variable", .str x] := hb
      subst hb'
      refine ⟨_, rfl, rfl, _, rfl, iteFc ((dS _ _).trans cVN) ⟨_, rfl, rfl, _, rfl, iteTc (decide_eq_true rfl) ⟨_, rfl, ix_any (i := 1) hs' rfl rfl ⟨(by show 1 ≤ sizeLine; decide), fun p np => k p _ _ (same_new np) np upd_same (.cons rfl .nil)⟩⟩⟩⟩
    | pre w1 a1 =>
      obtain ⟨v1, d1, rfl, hd1, hr1⟩ := hb
      obtain ⟨hw, hwf1⟩ := hwf
      have hne : ∀ w ∈ prefL, decide (w = ("number" : Str)) = false ∧ decide (w = ("variable" : Str)) = false := by decide +kernel
      obtain ⟨g1, g2⟩ := hne w1 hw
      have hw2 : w1 = "not" ∨ w1 = "negate" := by simpa [prefL] using hw
      refine ⟨_, rfl, rfl, _, rfl, iteFc (by rw [dS]; exact g1) ⟨_, rfl, rfl, _, rfl, iteFc (by rw [dS]; exact g2) ⟨_, rfl, aB, w1, .int (bindOf w1), rfl, rfl, kB _ bw, ?_⟩⟩⟩
      rcases hw2 with rfl | rfl
      · refine ⟨_, rfl, rfl, _, rfl, iteFc ((dS _ _).trans cNN) ⟨_, rfl, rfl, _, rfl, iteTc (decide_eq_true rfl) ⟨(by show 1 ≤ sizeLine; decide), fun p np => ?_⟩⟩⟩
        have s1 := same_new (o := .lst [.str "not "]) np
        refine ⟨_, rfl, ix_any (i := 1) (hs'.imp (sqL_same s1) (sqT_same s1)) rfl rfl ⟨_, rfl, Hb, v1, d1, a1, _, rfl, sb.trans s1, hd1, hr1, hwf1, fun q H2 us s2 nq hq hps => ?_⟩⟩
        have hlen := hps.len
        have h3 := enclT_len a1 (bindOf "not")
        refine ⟨p, q, [.str "not "], us, rfl, rfl, s2 _ _ upd_same, hq, Nat.le_trans (by show 1 + us.length ≤ 10; omega) (by decide), fun r nr => k r _ _ ((s1.trans s2).trans (same_new nr)) ((s1.trans s2).free nr) upd_same ?_⟩
        exact PartsAt.app (PartsAt.cons (p := .inl ("not " : Str)) rfl .nil) hps
      · refine ⟨_, rfl, rfl, _, rfl, iteTc (decide_eq_true rfl) ⟨(by show 1 ≤ sizeLine; decide), fun p np => ?_⟩⟩
        have s1 := same_new (o := .lst [.str "-"]) np
        refine ⟨_, rfl, ix_any (i := 1) (hs'.imp (sqL_same s1) (sqT_same s1)) rfl rfl ⟨_, rfl, Hb, v1, d1, a1, _, rfl, sb.trans s1, hd1, hr1, hwf1, fun q H2 us s2 nq hq hps => ?_⟩⟩
        have hlen := hps.len
        have h3 := enclT_len a1 (bindOf "negate")
        refine ⟨p, q, [.str "-"], us, rfl, rfl, s2 _ _ upd_same, hq, Nat.le_trans (by show 1 + us.length ≤ 10; omega) (by decide), fun r nr => k r _ _ ((s1.trans s2).trans (same_new nr)) ((s1.trans s2).free nr) upd_same ?_⟩
        exact PartsAt.app (PartsAt.cons (p := .inl ("-" : Str)) rfl .nil) hps
    | bin w1 a1 b1 =>
      obtain ⟨v1, d1, v2, d2, rfl, hd1, hr1, hd2, hr2⟩ := hb
      obtain ⟨hw, hwf1, hwf2⟩ := hwf
      have hne : ∀ w ∈ binL, decide (w = ("number" : Str)) = false ∧ decide (w = ("variable" : Str)) = false ∧ decide (w = ("negate" : Str)) = false ∧ decide (w = ("not" : Str)) = false ∧ w.length ≤ 3 := by decide +kernel
      obtain ⟨g1, g2, g3, g4, g5⟩ := hne w1 hw
      refine ⟨_, rfl, rfl, _, rfl, iteFc (by rw [dS]; exact g1) ⟨_, rfl, rfl, _, rfl, iteFc (by rw [dS]; exact g2) ⟨_, rfl, aB, w1, .int (bindOf w1), rfl, rfl, kB _ bw, ?_⟩⟩⟩
      refine ⟨_, rfl, rfl, _, rfl, iteFc (by rw [dS]; exact g3) ⟨_, rfl, rfl, _, rfl, iteFc (by rw [dS]; exact g4) ?_⟩⟩
      refine ⟨_, rfl, ix_any (i := 1) hs' rfl rfl ⟨_, rfl, Hb, v1, d1, a1, _, rfl, sb, hd1, hr1, hwf1, fun q H2 us s2 nq hq hps => ?_⟩⟩
      have l1 : (Str.empty ++ (" " : Str)).length ≤ 1 := by decide +kernel
      have len_cat' : ∀ x y : Str, (x ++ y).length = x.length + y.length := fun x y => by rw [← cod_len, cat_cod, List.length_append, cod_len, cod_len]
      have l2 : ((Str.empty ++ (" " : Str)) ++ w1).length ≤ 4 := by rw [len_cat']; omega
      have l0 : (" " : Str).length = 1 := by decide +kernel
      have l3 : (((Str.empty ++ (" " : Str)) ++ w1) ++ (" " : Str)).length ≤ 5 := by rw [len_cat', l0]; omega
      refine ⟨_, rfl, Nat.le_trans l1 (by decide), _, rfl, .inl ⟨w1, rfl, Nat.le_trans g5 (by decide), _, rfl, Nat.le_trans l2 (by decide), _, rfl, Nat.le_trans l3 (by decide), (by show 1 ≤ sizeLine; decide), fun p np => ?_⟩⟩
      have s3 := same_new (o := .lst [.str (midS w1)]) np
      have h3 := enclT_len
      have hl1 := hps.len
      have e1 := h3 a1 (bindOf w1)
      refine ⟨q, p, us, [.str (midS w1)], rfl, rfl, s3 _ _ hq, upd_same, Nat.le_trans (by show us.length + 1 ≤ 10; omega) (by decide), fun r nr => ?_⟩
      have s4 := same_new (o := .lst (us ++ [.str (midS w1)])) nr
      have s24 := (s2.trans s3).trans s4
      refine ⟨_, rfl, ix_any (i := 2) (hs'.imp (sqL_same s24) (sqT_same s24)) rfl rfl ⟨_, rfl, _, _, rfl, rfl, Hb, v2, d2, b1, _, rfl, sb.trans s24, hd2, hr2, hwf2, fun q2 H5 us2 s5 nq2 hq2 hps2 => ?_⟩⟩
      have hl2 := hps2.len
      have e2 := h3 b1 (bindOf w1 + 1)
      refine ⟨r, q2, us ++ [.str (midS w1)], us2, rfl, rfl, s5 _ _ upd_same, hq2, Nat.le_trans (by simp; omega : (us ++ [V.str (midS w1)]).length + us2.length ≤ 20) (by decide), fun r2 nr2 => k r2 _ _ ((s24.trans s5).trans (same_new nr2)) ((s24.trans s5).free nr2) upd_same ?_⟩
      exact PartsAt.app (PartsAt.app hps (PartsAt.cons (p := .inl (midS w1)) rfl .nil)) hps2
theorem scWr : FnScope ["node", "texts", "parts", "part"] ["node"] (defScope sWritten) := ⟨rfl, rfl, rfl, by decide +kernel, rfl, by decide +kernel, by decide +kernel⟩
theorem ok_written {f fP : Addr} {fd fdP : FuncData} (F : Fun K "written" "written" sWritten f fd) (misi : mg "isinstance" = none) (mstr : mg "str" = none) (CP : Cal P w K mg base 2 "parts_of" fP fdP ["node"] (spParts K)) : FnOk P w K mg base CX0 3 f fd ["node"] (spWritten K) := by
  refine F.ok scWr (fun vs H Q E h => ?_) (fun cdv A outer s H vs Q E hr h => ?_)
  · obtain ⟨_, _, _, rfl, _⟩ := h
    rfl
  · obtain ⟨v, d, t, rfl, hd, hrep, hwf, hsz, htl, k⟩ := h
    refine ⟨_, pss_cons (ps_set (i := 1) scWr.nd rfl (.inl rfl) (pe_lst pa_nil))
      (pss_cons (ps_set (i := 2) scWr.nd rfl (.inl rfl) (pe_lst (pa_cons (pv 0) pa_nil)))
      (pss_cons (ps_while PassesOwn.never (pt_truth (pv 2) (by intro _; rfl))
        (pss_cons (ps_set (i := 3) scWr.nd rfl (.inl rfl) (pe_bm0 PySem.F.plainAttrs_list PySem.F.slot_list_pop PySem.F.type_list_pop mt_pop (pv 2)))
        (pss_one (ps_if (pt_val (pe_callB call_isi (by rfl) misi (by decide +kernel) (pa_cons (pv 3) (pa_cons (pe_bltn (v := .ty "str") (by rfl) mstr (by decide +kernel) rfl) pa_nil))))
          (pss_one (ps_expr (pe_bm PySem.F.plainAttrs_list PySem.F.slot_list_append PySem.F.type_list_append mt_append (pv 1) (pa_cons (pv 3) pa_nil))))
          (pss_one (ps_expr (pe_bm PySem.F.plainAttrs_list PySem.F.slot_list_extend PySem.F.type_list_extend mt_extend (pv 2) (pa_cons (pe_revL (pe_call CP.ok hr rfl CP.mg CP.kp CP.bi .nil pass0 (pa_cons (pv 3) pa_nil))) pa_nil))))))))
      (pss_one (ps_ret (pe_join pe_str (pv 1)))))), ?_⟩
    refine ⟨(by show 0 ≤ sizeLine; decide), fun tl ntl => ⟨_, rfl, (by show 1 ≤ sizeLine; decide), fun pl npl => ?_⟩⟩
    have tp : tl ≠ pl := ne_of_none upd_same npl
    have nplH : H pl = none := (same_new ntl).free npl
    refine ⟨fun m σ Hx => ∃ (x3 : Option V) (ss : List Str) (us : List V) (ps : List Part), m = msL ps ∧ σ = [some v, some (.ref tl), some (.ref pl), x3] ∧ Hx tl = some (.lst (ss.map V.str)) ∧ Hx pl = some (.lst us.reverse) ∧ PartsAt K H us ps ∧ Same H Hx ∧ ss.flatMap cod ++ ps.flatMap txtP = t.txt ∧ (∀ p ∈ ps, wfP p) ∧ ss.length + msL ps ≤ t.sz,
      ⟨_, none, [], [v], [.inr t], rfl, rfl, by rw [upd_ne tp, upd_same]; rfl, upd_same, .cons ⟨d, hd, hrep⟩ .nil, (same_new ntl).trans (same_new npl), by simp [txtP], (fun p hp => by rw [List.mem_singleton.mp hp]; exact hwf), by simp [msL, msP]⟩, ?_⟩
    rintro m σ Hx ⟨x3, ss, us, ps, rfl, rfl, h1, h2, h3, h4, h5, h6, h7⟩
    have hbig : 100001 < sizeLine := by decide
    cases h3 with
    | nil =>
      refine ⟨_, rfl, false, .inl ⟨_, SqL.of h2, rfl⟩, iteFc rfl ⟨⟨_, rfl⟩, _, rfl, _, tl, ss, rfl, rfl, .inl (SqL.of h1), ?_, ?_⟩⟩
      · have hsum : ∀ l : List Str, (l.map (·.length)).sum = (l.flatMap cod).length := fun l => by
          induction l with
          | nil => rfl
          | cons x l ih => rw [List.map_cons, List.sum_cons, ih, List.flatMap_cons, List.length_append, cod_len]
        have e0 : (Str.ofString "").length = 0 := by decide +kernel
        simp only [List.flatMap_nil, List.append_nil] at h5
        rw [hsum, h5]
        simp only [e0]
        omega
      · rw [Rx.join_nil]
        simp only [List.flatMap_nil, List.append_nil] at h5
        rw [h5]
        exact k Hx h4
    | @cons u p us ps hu hus =>
      rw [List.reverse_cons] at h2
      rw [msL_cons] at h7
      have hml := ms_len ps
      refine ⟨_, rfl, true, .inl ⟨_, SqL.of h2, by simp⟩, iteTc rfl ⟨_, fun _ _ h => h, _, rfl, .inl ⟨rfl, _, SqL.of h2⟩, pop_read h2 ?_⟩⟩
      have h1' : upd Hx pl (.lst us.reverse) tl = some (.lst (ss.map V.str)) := by rw [upd_ne tp]; exact h1
      have h2' := upd_same (H := Hx) (a := pl) (o := .lst us.reverse)
      have h4' : Same H (upd Hx pl (.lst us.reverse)) := same_upd h4 nplH
      generalize upd Hx pl (.lst us.reverse) = Hy at h1' h2' h4'
      rw [List.flatMap_cons] at h5
      cases p with
      | inl x =>
        have hu' : u = .str x := hu
        subst hu'
        refine ⟨_, rfl, _, _, _, _, _, rfl, .ty "str", .base (.str x), kit_ty (b := "str") (r := true) (by decide +kernel), _, rfl, iteTc rfl ⟨_, rfl, .inl ⟨rfl, _, SqL.of h1'⟩, _, rfl, tl, _, _, rfl, rfl, h1', by rw [List.length_map]; omega, ?_⟩⟩
        refine ⟨msL ps, by rw [msL_cons]; simp [msP], _, ss ++ [x], us, ps, rfl, rfl, by rw [upd_same, List.map_append]; rfl, by rw [upd_ne tp.symm]; exact h2', hus, same_upd h4' ntl, ?_, fun p hp => h6 p (List.mem_cons_of_mem _ hp), ?_⟩
        · rw [List.flatMap_append, ← h5, List.append_assoc]
          simp [txtP]
        · rw [List.length_append]
          simp only [msP, List.length_cons, List.length_nil] at h7 ⊢
          omega
      | inr t1 =>
        obtain ⟨d1, hd1, hr1⟩ := hu
        have hwf1 : t1.wf := h6 (.inr t1) List.mem_cons_self
        obtain ⟨uu, tu, ku⟩ := no_str (dp_same h4' hd1) hr1
        refine ⟨_, rfl, _, _, uu, _, _, rfl, .ty "str", tu, ku, _, rfl, iteFc rfl ⟨_, rfl, .inl ⟨rfl, _, SqL.of h2'⟩, _, rfl, H, u, d1, t1, rfl, h4', hd1, hr1, hwf1, fun q H2 us2 s2 nq hq hps => ?_⟩⟩
        refine ⟨q, _, rfl, SqL.of hq, fun r nr => ?_⟩
        have s3 := same_new (o := .lst us2.reverse) nr
        have hp2 := s3 _ _ (s2 _ _ h2')
        have hms := partsT_ms t1
        have hl2 := hps.len
        have hm2 := ms_len (partsT t1)
        have hl1 := hus.len
        simp only [msP] at h7
        refine ⟨pl, r, _, _, rfl, rfl, hp2, upd_same, ?_, ?_⟩
        · rw [List.length_reverse, List.length_reverse]; omega
        · refine ⟨msL (partsT t1 ++ ps), ?_, _, ss, us2 ++ us, partsT t1 ++ ps, rfl, rfl, ?_, ?_, PartsAt.app hps hus, same_upd ((h4'.trans s2).trans s3) nplH, ?_, ?_, ?_⟩
          · rw [msL_app, msL_cons]; simp only [msP]; omega
          · rw [upd_ne tp]; exact s3 _ _ (s2 _ _ h1')
          · rw [upd_same, List.reverse_append]
          · rw [List.flatMap_append, partsT_txt]
            exact h5
          · intro p hp
            rcases List.mem_append.mp hp with hp | hp
            · exact partsT_wf hwf1 p hp
            · exact h6 p (List.mem_cons_of_mem _ hp)
          · rw [msL_app]; omega
end
end XE

set_option Elab.async false
set_option linter.all false
set_option maxRecDepth 100000
set_option maxHeartbeats 1000000
namespace Rx
open PySem PySem.Spec PyProof.Rows L2 SX
theorem cutS_len (z : Str) (lo hi : Option Int) : (cutS z lo hi).length ≤ z.length := by
  unfold cutS
  show (((z.cps.toList.drop _).take _).toArray).size ≤ z.cps.size
  rw [List.size_toArray, List.length_take, List.length_drop, Array.length_toList]
  omega
theorem cod_cut (z : Str) (lo hi : Option Int) : cod (cutS z lo hi) = ((cod z).drop (HT.sIx z.length 0 lo)).take (HT.sIx z.length z.length hi - HT.sIx z.length 0 lo) := by
  unfold cutS
  simp
theorem cod_apps (a b : Str) : cod (a ++ b) = cod a ++ cod b := by
  show (a ++ b).cps.toList = _
  exact Array.toList_append
theorem len_apps (a b : Str) : (a ++ b).length = a.length + b.length := by
  show (a ++ b).cps.size = a.cps.size + b.cps.size
  exact Array.size_append
/-- the text without the pair of brackets at i and j -/
def bareS (z : Str) (i j : Nat) : Str := cutS z none (some (i : Int)) ++ (" " ++ cutS z (some ((i : Int) + 1)) (some (j : Int)) ++ " ") ++ cutS z (some ((j : Int) + 1)) none
theorem bare_cod (z : Str) (i j : Nat) (hij : i < j) (hj : j < (cod z).length) : cod (bareS z i j) = (cod z).take i ++ (32 :: (((cod z).drop (i + 1)).take (j - (i + 1)) ++ [32])) ++ (cod z).drop (j + 1) := by
  have hl : (cod z).length = z.length := by simp [Str.length]
  have e1 : cod (" " : Str) = [32] := by decide +kernel
  have c1 : HT.sIx z.length 0 (none : Option Int) = 0 := HT.sIx_none _ _
  have c2 : HT.sIx z.length z.length (some (i : Int)) = i := by rw [HT.sIx_nat]; omega
  have c3 : HT.sIx z.length 0 (some ((i : Int) + 1)) = i + 1 := by rw [show (i : Int) + 1 = ((i + 1 : Nat) : Int) by omega, HT.sIx_nat]; omega
  have c4 : HT.sIx z.length z.length (some (j : Int)) = j := by rw [HT.sIx_nat]; omega
  have c5 : HT.sIx z.length 0 (some ((j : Int) + 1)) = j + 1 := by rw [show (j : Int) + 1 = ((j + 1 : Nat) : Int) by omega, HT.sIx_nat]; omega
  have c6 : HT.sIx z.length z.length (none : Option Int) = z.length := HT.sIx_none _ _
  unfold bareS
  rw [cod_apps, cod_apps, cod_apps, cod_apps, cod_cut, cod_cut, cod_cut, e1, c1, c2, c3, c4, c5, c6, List.drop_zero, Nat.sub_zero]
  have e2 : ((cod z).drop (j + 1)).take (z.length - (j + 1)) = (cod z).drop (j + 1) := List.take_of_length_le (by rw [List.length_drop]; omega)
  rw [e2]
  simp
theorem bare_len (z : Str) (i j : Nat) : (bareS z i j).length ≤ 3 * z.length + 2 := by
  have e1 : (" " : Str).length = 1 := by decide +kernel
  have h1 := cutS_len z none (some (i : Int))
  have h2 := cutS_len z (some ((i : Int) + 1)) (some (j : Int))
  have h3 := cutS_len z (some ((j : Int) + 1)) none
  unfold bareS
  rw [len_apps, len_apps, len_apps, len_apps, e1]
  omega
end Rx

set_option Elab.async false
set_option linter.all false
set_option maxRecDepth 100000
set_option maxHeartbeats 1000000
namespace XE
open PySem PySem.Spec PyProof.Rows L2 Rx SX
abbrev sStmtLines : Stmt := topS 41
abbrev sBodyLines : Stmt := topS 40
abbrev sCanonLines : Stmt := topS 39
def spStmtL (K : PySem.W.Frag) (n : Nat) : Sp := fun vs H Q _ => ∃ (v : V) (s : Smt), vs = [v] ∧ Dp K H v s.data ∧ s.ok ∧ s.dep ≤ n ∧ s.lines.length ≤ 1000 ∧ ∀ l H', Same H H' → H l = none → H' l = some (.lst (s.lines.map V.str)) → Q (.ref l) H'
def spBodyL (K : PySem.W.Frag) (n : Nat) : Sp := fun vs H Q _ => ∃ (v : V) (b : List Smt), vs = [v] ∧ Dp K H v (.tuple (sdata b)) ∧ sok b ∧ sdep b ≤ n ∧ (slines b).length ≤ 1000 ∧ ∀ l H', Same H H' → H l = none → H' l = some (.lst ((slines b).map V.str)) → Q (.ref l) H'
theorem join2S (a b : Str) : Txt.join " " [a, b] = S (cod a ++ 32 :: cod b) := by
  have e : (" " : Str) = S [32] := by decide +kernel
  have h := join_S [32] [cod a, cod b]
  simp only [List.map_cons, List.map_nil, str_cod] at h
  rw [e, h]
  rfl
theorem join3T (a b c : Str) : Txt.join " " [a, b, c] = S (cod a ++ 32 :: (cod b ++ 32 :: cod c)) := by
  have e : (" " : Str) = S [32] := by decide +kernel
  have h := join_S [32] [cod a, cod b, cod c]
  simp only [List.map_cons, List.map_nil, str_cod] at h
  rw [e, h]
  rfl
theorem join1T (a : Str) : Txt.join " " [a] = a := by
  have e : (" " : Str) = S [32] := by decide +kernel
  have h := join_S [32] [cod a]
  simp only [List.map_cons, List.map_nil, str_cod] at h
  rw [e, h]
  exact str_cod a
theorem wh_at {K : PySem.W.Frag} {H : Hp} {v : V} {t : Tr} {b : List Smt} (h : Dp K H v (Smt.data (.wh t b))) : ∃ a tv bv, v = .ref a ∧ SqT K H a [.str "while", tv, bv] ∧ Dp K H tv t.data ∧ Dp K H bv (.tuple (sdata b)) := by
  simp only [Smt.data] at h
  cases h with
  | tup h1 h2 =>
    cases h2 with
    | cons h3 h4 =>
      cases h3
      cases h4 with
      | cons h5 h6 =>
        cases h6 with
        | cons h7 h8 => cases h8; exact ⟨_, _, _, rfl, h1, h5, h7⟩
theorem ife_at {K : PySem.W.Frag} {H : Hp} {v : V} {t : Tr} {a b : List Smt} (h : Dp K H v (Smt.data (.ife t a b))) : ∃ p tv av bv, v = .ref p ∧ SqT K H p [.str "if", tv, av, bv] ∧ Dp K H tv t.data ∧ Dp K H av (.tuple (sdata a)) ∧ Dp K H bv (.tuple (sdata b)) := by
  simp only [Smt.data] at h
  cases h with
  | tup h1 h2 =>
    cases h2 with
    | cons h3 h4 =>
      cases h3
      cases h4 with
      | cons h5 h6 =>
        cases h6 with
        | cons h7 h8 =>
          cases h8 with
          | cons h9 h10 => cases h10; exact ⟨_, _, _, _, rfl, h1, h5, h7, h9⟩
theorem fitL {n : Nat} (h : n ≤ 3000000) : n ≤ sizeLine := Nat.le_trans h (by decide)
theorem at3 {x y z u : V} {xs : List V} : atI (x :: y :: z :: u :: xs) 3 = some u := atI_nat (xs := x :: y :: z :: u :: xs) (j := 3) rfl
theorem emptyS : Str.empty = S [] := by decide +kernel
theorem spS : (" " : Str) = S [32] := by decide +kernel
theorem fst3 (w x : Str) (y : List Nat) : ((((Str.empty ++ w) ++ (" " : Str)) ++ x) ++ (" " : Str)) ++ S y = namT w x y := by
  obtain ⟨a, rfl⟩ : ∃ a, w = S a := ⟨cod w, (str_cod w).symm⟩
  obtain ⟨b, rfl⟩ : ∃ b, x = S b := ⟨cod x, (str_cod x).symm⟩
  unfold namT
  rw [emptyS, spS, S_cat, S_cat, S_cat, S_cat, S_cat, codS, codS]
  congr 1
  simp
theorem fst1 (w : Str) (y : List Nat) (ws : Str) (h : ws = S (cod w ++ [32])) : (Str.empty ++ ws) ++ S y = S (cod w ++ 32 :: y) := by
  rw [emptyS, h, S_cat, S_cat]
  congr 1
  simp
section
variable {P : Program} {w : World} {K : PySem.W.Frag} {mg : Str → Option Value} {base : Heap} {CP : Addr}
abbrev slN : List Str := ["statement", "word", "lines"]
theorem scSL : FnScope slN ["statement"] (defScope sStmtLines) := ⟨rfl, rfl, rfl, by decide +kernel, rfl, by decide +kernel, by decide +kernel⟩
theorem step_stmt {n : Nat} {f fW fB : Addr} {fd fdW fdB : FuncData} {spR : Sp} (F : Fun K "statement_lines" "statement_lines" sStmtLines f fd) (CW : Cal P w K mg base 3 "written" fW fdW ["node"] (spWritten K))
    (CB : Cal P w K mg base (2 * n + 3) "body_lines" fB fdB ["body"] spR) (hR : ∀ k, n = k + 1 → spR = spBodyL K k) : FnOk P w K mg base CX0 (2 * n + 4) f fd ["statement"] (spStmtL K n) := by
  refine F.ok scSL (fun vs H Q E h => ?_) (fun cdv A outer s H vs Q E hr h => ?_)
  · obtain ⟨_, _, rfl, _⟩ := h
    rfl
  · obtain ⟨v, sm, rfl, hv, hok, hdep, hlen, k⟩ := h
    have hr3 : Room 3 _ := hr.mono (by omega)
    refine ⟨_, (pss_cons (ps_set (i := 1) scSL.nd rfl (.inl rfl) (pe_ix ix_tup (pv 0) pe_int (fun _ _ => rfl))) (pss_cons (ps_if (PW.pt (pw_or (pt_cmpR op_eq (pv 1) pe_str (nomark _)) (pw_or1 (pt_cmpR op_eq (pv 1) pe_str (nomark _))))) (pss_one (ps_ret (pe_lst (pa_cons (pe_joined (PJ.cons (pe_fmt (pv 1)) (PJ.cons pe_str (PJ.cons (pe_fmt (pe_ix ix_tup (pv 0) pe_int (fun _ _ => rfl))) (PJ.cons pe_str (PJ.cons (pe_fmt (pe_call CW.ok hr3 rfl CW.mg CW.kp CW.bi .nil pass0 (pa_cons (pe_ix ix_tup (pv 0) pe_int (fun _ _ => rfl)) pa_nil))) PJ.nil)))))) pa_nil)))) pss_nil) (pss_cons (ps_if (pt_cmpR op_eq (pv 1) pe_str (nomark _)) (pss_one (ps_ret (pe_op op_cat (pe_op op_cat (pe_lst (pa_cons (pe_joined (PJ.cons pe_str (PJ.cons (pe_fmt (pe_call CW.ok hr3 rfl CW.mg CW.kp CW.bi .nil pass0 (pa_cons (pe_ix ix_tup (pv 0) pe_int (fun _ _ => rfl)) pa_nil))) PJ.nil))) pa_nil)) (pe_call CB.ok hr rfl CB.mg CB.kp CB.bi .nil pass0 (pa_cons (pe_ix ix_tup (pv 0) pe_int (fun _ _ => rfl)) pa_nil))) (pe_lst (pa_cons pe_str pa_nil))))) pss_nil) (pss_cons (ps_if (pt_cmpR op_eq (pv 1) pe_str (nomark _)) (pss_cons (ps_set (i := 2) scSL.nd rfl (.inl rfl) (pe_op op_cat (pe_lst (pa_cons (pe_joined (PJ.cons pe_str (PJ.cons (pe_fmt (pe_call CW.ok hr3 rfl CW.mg CW.kp CW.bi .nil pass0 (pa_cons (pe_ix ix_tup (pv 0) pe_int (fun _ _ => rfl)) pa_nil))) PJ.nil))) pa_nil)) (pe_call CB.ok hr rfl CB.mg CB.kp CB.bi .nil pass0 (pa_cons (pe_ix ix_tup (pv 0) pe_int (fun _ _ => rfl)) pa_nil)))) (C8.pss_cut (ps_if (pt_truth (pe_ix ix_tup (pv 0) pe_int (fun _ _ => rfl)) (by intro _; rfl)) (pss_one (ps_aug (i := 2) scSL.nd rfl (.inl rfl) (pe_op op_cat (pe_lst (pa_cons pe_str pa_nil)) (pe_call CB.ok hr rfl CB.mg CB.kp CB.bi .nil pass0 (pa_cons (pe_ix ix_tup (pv 0) pe_int (fun _ _ => rfl)) pa_nil))) iop_ext)) pss_nil) (pss_one (ps_ret (pe_op op_cat (pv 2) (pe_lst (pa_cons pe_str pa_nil))))))) pss_nil) (pss_one (ps_ret (pe_lst (pa_cons (pe_join pe_str (pv 0)) pa_nil)))))))), ?_⟩
    have big : 3000000 ≤ sizeLine := by decide
    have sl : (" " : Str).length = 1 := by decide +kernel
    have el : Str.empty.length = 0 := by decide +kernel
    have cl : ∀ x : Str, (cod x).length = x.length := fun x => by simp [Str.length]
    have Sl : ∀ y : List Nat, (S y).length = y.length := fun y => by simp [S, Str.length]
    have nl : ∀ {x : Str}, isName (cod x) = true → x.length ≤ 8 := fun {x} h => by
      obtain ⟨_, _, h3, _⟩ := name_parts h
      rw [← cl]; exact h3
    have tl : ∀ {t : Tr}, t.gt → t.sz ≤ 9010 → t.txt.length ≤ 100000 := fun {t} h1 h2 => by
      have := gt_len h1
      omega
    have wr : ∀ {H' : Hp} {v : V} {t : Tr} {Q : V → Hp → Prop}, Dp K H' v t.data → t.gt → t.sz ≤ 9010 → (∀ H2, Same H' H2 → Q (.str (S t.txt)) H2) → spWritten K [v] H' Q E0 := fun h1 h2 h3 k => ⟨_, _, _, rfl, h1, rep_data _, h2.wf, by omega, tl h2 h3, k⟩
    cases sm with
    | lf s =>
      obtain ⟨hlf, hgd⟩ := hok
      obtain ⟨a, ys, rfl, ha, hys⟩ := stp_ref (s := s) hv
      have named : ∀ (x : Str) (t : Tr), s.rest = [.str x, t.data] → isName (cod x) = true → t.gt → t.sz ≤ 9010 → s.word.length ≤ 10 → s.text = namT s.word x t.txt → ∃ tv, ys = [.str x, tv] ∧ Dp K H tv t.data := fun x t e _ _ _ _ _ => by
        rw [e] at hys
        obtain ⟨zs, rfl, hz⟩ := rest_one hys
        obtain ⟨tv, rfl, htv⟩ := rest_tr hz
        exact ⟨tv, rfl, htv⟩
      have hwl : s.word.length ≤ 10 := by cases s <;> simp only [Stp.word] <;> decide +kernel
      refine ⟨_, rfl, a, _, _, _, rfl, rfl, ha, at0, _, rfl, rfl, _, rfl, ?_⟩
      rw [eqW]
      cases s with
      | set x t =>
        obtain ⟨tv, rfl, htv⟩ := named x t rfl hgd.1 hgd.2.1 hgd.2.2 (by simp only [Stp.word]; decide +kernel) rfl
        have hx := nl hgd.1
        have htt := tl hgd.2.1 hgd.2.2
        have St1 : (S t.txt).length = t.txt.length := Sl t.txt
        have hw : (Stp.set x t).word.length ≤ 10 := by simp only [Stp.word]; decide +kernel
        refine iteTc (decide_eq_true rfl) ?_
        refine ⟨_, rfl, .inl ⟨_, rfl, (by refine fitL ?_; (try simp only [len_apps, el, sl, St1]); omega), _, rfl, (by refine fitL ?_; (try simp only [len_apps, el, sl, St1]); omega), _, rfl, (by refine fitL ?_; (try simp only [len_apps, el, sl, St1]); omega), _, rfl, a, _, _, _, rfl, rfl, ha, at1, .inl ⟨_, rfl, (by refine fitL ?_; (try simp only [len_apps, el, sl, St1]); omega), _, rfl, (by refine fitL ?_; (try simp only [len_apps, el, sl, St1]); omega), _, rfl, (by refine fitL ?_; (try simp only [len_apps, el, sl, St1]); omega), _, rfl, a, _, _, _, rfl, rfl, ha, at2, ⟨_, _, t, rfl, htv, rep_data _, hgd.2.1.wf, Nat.le_trans hgd.2.2 (by decide), htt, fun H2 s2 => .inl ⟨_, rfl, (by refine fitL ?_; (try simp only [len_apps, el, sl, St1]); omega), _, rfl, (by refine fitL ?_; (try simp only [len_apps, el, sl, St1]); omega), (by show 1 ≤ sizeLine; decide), fun l nl => k l _ (s2.trans (same_new nl)) (s2.free nl) ?_⟩⟩⟩⟩⟩
        rw [fst3]
        exact upd_same
      | send x t =>
        obtain ⟨tv, rfl, htv⟩ := named x t rfl hgd.1 hgd.2.1 hgd.2.2 (by simp only [Stp.word]; decide +kernel) rfl
        have hx := nl hgd.1
        have htt := tl hgd.2.1 hgd.2.2
        have St1 : (S t.txt).length = t.txt.length := Sl t.txt
        have hw : (Stp.send x t).word.length ≤ 10 := by simp only [Stp.word]; decide +kernel
        refine iteFc (decide_eq_false (by simp only [Stp.word]; decide +kernel)) ⟨_, rfl, rfl, _, rfl, iteTc (by rw [eqW]; exact decide_eq_true rfl) ?_⟩
        refine ⟨_, rfl, .inl ⟨_, rfl, (by refine fitL ?_; (try simp only [len_apps, el, sl, St1]); omega), _, rfl, (by refine fitL ?_; (try simp only [len_apps, el, sl, St1]); omega), _, rfl, (by refine fitL ?_; (try simp only [len_apps, el, sl, St1]); omega), _, rfl, a, _, _, _, rfl, rfl, ha, at1, .inl ⟨_, rfl, (by refine fitL ?_; (try simp only [len_apps, el, sl, St1]); omega), _, rfl, (by refine fitL ?_; (try simp only [len_apps, el, sl, St1]); omega), _, rfl, (by refine fitL ?_; (try simp only [len_apps, el, sl, St1]); omega), _, rfl, a, _, _, _, rfl, rfl, ha, at2, ⟨_, _, t, rfl, htv, rep_data _, hgd.2.1.wf, Nat.le_trans hgd.2.2 (by decide), htt, fun H2 s2 => .inl ⟨_, rfl, (by refine fitL ?_; (try simp only [len_apps, el, sl, St1]); omega), _, rfl, (by refine fitL ?_; (try simp only [len_apps, el, sl, St1]); omega), (by show 1 ≤ sizeLine; decide), fun l nl => k l _ (s2.trans (same_new nl)) (s2.free nl) ?_⟩⟩⟩⟩⟩
        rw [fst3]
        exact upd_same
      | take x =>
        obtain ⟨zs, rfl, hz⟩ := rest_one hys
        cases hz
        have hx := nl hgd
        refine iteFc (decide_eq_false (by simp only [Stp.word]; decide +kernel)) ⟨_, rfl, rfl, _, rfl, iteFc (by rw [eqW]; exact decide_eq_false (by simp only [Stp.word]; decide +kernel)) ⟨_, rfl, rfl, _, rfl, iteFc (by rw [eqW]; exact decide_eq_false (by simp only [Stp.word]; decide +kernel)) ⟨_, rfl, rfl, _, rfl, iteFc (by rw [eqW]; exact decide_eq_false (by simp only [Stp.word]; decide +kernel)) ⟨⟨_, rfl⟩, _, rfl, " ", a, [(Stp.take x).word, x], rfl, rfl, .inr ha, ?_, (by show 1 ≤ sizeLine; decide), fun l nl => k l _ (same_new nl) nl ?_⟩⟩⟩⟩
        · simp only [List.map_cons, List.map_nil, List.sum_cons, List.sum_nil, List.length_cons, List.length_nil, sl]
          omega
        · rw [join2S]
          exact upd_same
      | inp x =>
        obtain ⟨zs, rfl, hz⟩ := rest_one hys
        cases hz
        have hx := nl hgd
        refine iteFc (decide_eq_false (by simp only [Stp.word]; decide +kernel)) ⟨_, rfl, rfl, _, rfl, iteFc (by rw [eqW]; exact decide_eq_false (by simp only [Stp.word]; decide +kernel)) ⟨_, rfl, rfl, _, rfl, iteFc (by rw [eqW]; exact decide_eq_false (by simp only [Stp.word]; decide +kernel)) ⟨_, rfl, rfl, _, rfl, iteFc (by rw [eqW]; exact decide_eq_false (by simp only [Stp.word]; decide +kernel)) ⟨⟨_, rfl⟩, _, rfl, " ", a, [(Stp.inp x).word, x], rfl, rfl, .inr ha, ?_, (by show 1 ≤ sizeLine; decide), fun l nl => k l _ (same_new nl) nl ?_⟩⟩⟩⟩
        · simp only [List.map_cons, List.map_nil, List.sum_cons, List.sum_nil, List.length_cons, List.length_nil, sl]
          omega
        · rw [join2S]
          exact upd_same
      | recv x y =>
        obtain ⟨zs, rfl, hz⟩ := rest_one hys
        obtain ⟨zs2, rfl, hz2⟩ := rest_one hz
        cases hz2
        have hx := nl hgd.1
        have hy := nl hgd.2
        refine iteFc (decide_eq_false (by simp only [Stp.word]; decide +kernel)) ⟨_, rfl, rfl, _, rfl, iteFc (by rw [eqW]; exact decide_eq_false (by simp only [Stp.word]; decide +kernel)) ⟨_, rfl, rfl, _, rfl, iteFc (by rw [eqW]; exact decide_eq_false (by simp only [Stp.word]; decide +kernel)) ⟨_, rfl, rfl, _, rfl, iteFc (by rw [eqW]; exact decide_eq_false (by simp only [Stp.word]; decide +kernel)) ⟨⟨_, rfl⟩, _, rfl, " ", a, [(Stp.recv x y).word, x, y], rfl, rfl, .inr ha, ?_, (by show 1 ≤ sizeLine; decide), fun l nl => k l _ (same_new nl) nl ?_⟩⟩⟩⟩
        · simp only [List.map_cons, List.map_nil, List.sum_cons, List.sum_nil, List.length_cons, List.length_nil, sl]
          omega
        · rw [join3T]
          exact upd_same
      | chk =>
        cases hys
        refine iteFc (decide_eq_false (by simp only [Stp.word]; decide +kernel)) ⟨_, rfl, rfl, _, rfl, iteFc (by rw [eqW]; exact decide_eq_false (by simp only [Stp.word]; decide +kernel)) ⟨_, rfl, rfl, _, rfl, iteFc (by rw [eqW]; exact decide_eq_false (by simp only [Stp.word]; decide +kernel)) ⟨_, rfl, rfl, _, rfl, iteFc (by rw [eqW]; exact decide_eq_false (by simp only [Stp.word]; decide +kernel)) ⟨⟨_, rfl⟩, _, rfl, " ", a, [Stp.chk.word], rfl, rfl, .inr ha, ?_, (by show 1 ≤ sizeLine; decide), fun l nl => k l _ (same_new nl) nl ?_⟩⟩⟩⟩
        · simp only [List.map_cons, List.map_nil, List.sum_cons, List.sum_nil, List.length_cons, List.length_nil, sl]
          omega
        · rw [join1T]
          exact upd_same
      | _ => cases hlf
    | wh t b =>
      cases n with
      | zero => simp only [Smt.dep] at hdep; omega
      | succ n =>
      have := hR n rfl
      subst this
      obtain ⟨a, tv, bv, rfl, ha, htv, hbv⟩ := wh_at hv
      have htt := tl hok.1 hok.2.1
      have St1 : (S t.txt).length = t.txt.length := Sl t.txt
      have l6 : ("while " : Str).length = 6 := by decide +kernel
      simp only [Smt.lines, List.length_cons, List.length_append, List.length_nil] at hlen
      refine ⟨_, rfl, a, _, _, _, rfl, rfl, ha, at0, _, rfl, rfl, _, rfl, iteFc (by rw [eqW]; decide +kernel) ⟨_, rfl, rfl, _, rfl, iteFc (by rw [eqW]; decide +kernel) ⟨_, rfl, rfl, _, rfl, iteTc (by rw [eqW]; decide +kernel) ?_⟩⟩⟩
      refine ⟨_, rfl, (by refine fitL ?_; simp only [len_apps, el, l6]; omega), _, rfl, a, _, _, _, rfl, rfl, ha, at1, ⟨_, _, t, rfl, htv, rep_data _, hok.1.wf, Nat.le_trans hok.2.1 (by decide), htt, fun H2 s2 => .inl ⟨_, rfl, (by refine fitL ?_; (try simp only [len_apps, el, sl, St1]); omega), _, rfl, (by refine fitL ?_; (try simp only [len_apps, el, l6, St1]); omega), (by show 1 ≤ sizeLine; decide), fun l1 nl1 => ?_⟩⟩⟩
      have s12 := s2.trans (same_new (o := .lst [.str (Str.empty ++ "while " ++ S t.txt)]) nl1)
      have hb2 : sdep b ≤ n := by simp only [Smt.dep] at hdep; omega
      refine ⟨_, rfl, a, _, _, _, rfl, rfl, sqT_same s12 ha, at2, _, b, rfl, dp_same s12 hbv, hok.2.2, hb2, by omega, fun l2 H3 s3 nl2 hl2 => ?_⟩
      have h1 := s3 _ _ (upd_same (H := H2) (a := l1) (o := .lst [.str (Str.empty ++ "while " ++ S t.txt)]))
      refine ⟨l1, l2, _, _, rfl, rfl, h1, hl2, by simp only [List.length_map, List.length_cons, List.length_nil]; omega, fun r nr => ⟨(by show 1 ≤ sizeLine; decide), fun c nc => ?_⟩⟩
      refine ⟨r, c, _, _, rfl, rfl, same_new nc _ _ upd_same, upd_same, by simp only [List.length_append, List.length_map, List.length_cons, List.length_nil]; omega, fun r2 nr2 => k r2 _ (((s12.trans s3).trans (same_new nr)).trans ((same_new nc).trans (same_new nr2))) ?_ ?_⟩
      · exact (((s12.trans s3).trans (same_new nr)).trans (same_new nc)).free nr2
      · rw [upd_same, fst1 "while" t.txt "while " (by decide +kernel)]
        simp [Smt.lines, headT]
    | ife t p0 b =>
      cases n with
      | zero => simp only [Smt.dep] at hdep; omega
      | succ n =>
      have := hR n rfl
      subst this
      obtain ⟨a, tv, av, bv, rfl, ha, htv, hav, hbv⟩ := ife_at hv
      have htt := tl hok.1 hok.2.1
      have St1 : (S t.txt).length = t.txt.length := Sl t.txt
      have l6 : ("if " : Str).length = 3 := by decide +kernel
      simp only [Smt.lines, List.length_cons, List.length_append, List.length_nil] at hlen
      refine ⟨_, rfl, a, _, _, _, rfl, rfl, ha, at0, _, rfl, rfl, _, rfl, iteFc (by rw [eqW]; decide +kernel) ⟨_, rfl, rfl, _, rfl, iteFc (by rw [eqW]; decide +kernel) ⟨_, rfl, rfl, _, rfl, iteFc (by rw [eqW]; decide +kernel) ⟨_, rfl, rfl, _, rfl, iteTc (by rw [eqW]; decide +kernel) ?_⟩⟩⟩⟩
      refine ⟨_, rfl, (by refine fitL ?_; (try simp only [len_apps, el, l6, St1]); omega), _, rfl, a, _, _, _, rfl, rfl, ha, at1, ⟨_, _, t, rfl, htv, rep_data _, hok.1.wf, Nat.le_trans hok.2.1 (by decide), htt, fun H2 s2 => .inl ⟨_, rfl, (by refine fitL ?_; (try simp only [len_apps, el, sl, St1]); omega), _, rfl, (by refine fitL ?_; (try simp only [len_apps, el, l6, St1]); omega), (by show 1 ≤ sizeLine; decide), fun l1 nl1 => ?_⟩⟩⟩
      have s12 := s2.trans (same_new (o := .lst [.str (Str.empty ++ "if " ++ S t.txt)]) nl1)
      have hb1 : sdep p0 ≤ n := by simp only [Smt.dep] at hdep; omega
      have hb2 : sdep b ≤ n := by simp only [Smt.dep] at hdep; omega
      refine ⟨_, rfl, a, _, _, _, rfl, rfl, sqT_same s12 ha, at2, _, p0, rfl, dp_same s12 hav, hok.2.2.1, hb1, by omega, fun l2 H3 s3 nl2 hl2 => ?_⟩
      have h1 := s3 _ _ (upd_same (H := H2) (a := l1) (o := .lst [.str (Str.empty ++ "if " ++ S t.txt)]))
      refine ⟨l1, l2, _, _, rfl, rfl, h1, hl2, by simp only [List.length_map, List.length_cons, List.length_nil]; omega, fun r1 nr1 => ?_⟩
      have s4 := s12.trans s3
      have nr1H := s4.free nr1
      have s5 : Same H (upd H3 r1 (.lst ([.str (Str.empty ++ "if " ++ S t.txt)] ++ (slines p0).map V.str))) := s4.trans (same_new nr1)
      have e5 : upd H3 r1 (.lst ([.str (Str.empty ++ "if " ++ S t.txt)] ++ (slines p0).map V.str)) r1 = some (.lst ((headT "if" t :: slines p0).map V.str)) := by
        rw [upd_same, fst1 "if" t.txt "if " (by decide +kernel)]
        rfl
      generalize upd H3 r1 (.lst ([.str (Str.empty ++ "if " ++ S t.txt)] ++ (slines p0).map V.str)) = H4 at s5 e5 ⊢
      refine ⟨fun σ H' => σ = [some (.ref a), some (.str "if"), some (.ref r1)] ∧ Same H H' ∧ H' r1 = some (.lst ((headT "if" t :: (slines p0 ++ (if b.isEmpty = true then [] else ("else" : Str) :: slines b))).map V.str)), ?_, ?_⟩
      · cases hbv with
        | @tup b0 ws _ h7 h8 =>
        have hwl := dpAll_len h8
        rw [sdata_map, List.length_map] at hwl
        have hwe : ws.isEmpty = b.isEmpty := by cases ws <;> cases b <;> first | rfl | (simp at hwl)
        refine ⟨_, rfl, a, _, _, _, rfl, rfl, sqT_same s5 ha, at3, !ws.isEmpty, .inr (.inl ⟨ws, sqT_same s5 h7, rfl⟩), ?_⟩
        rw [hwe]
        by_cases hbe : b.isEmpty = true
        · rw [if_pos hbe]
          exact iteFc (by rw [hbe]; rfl) ⟨rfl, s5, by rw [List.append_nil]; exact e5⟩
        · rw [if_neg hbe]
          have hbe' : b.isEmpty = false := Bool.eq_false_iff.mpr hbe
          rw [hbe'] at hlen
          simp only [Bool.false_eq_true, if_false, List.length_cons] at hlen
          refine iteTc (by rw [hbe']; rfl) ⟨_, rfl, (by show 1 ≤ sizeLine; decide), fun e ne => ?_⟩
          have s6 := s5.trans (same_new (o := .lst [.str "else"]) ne)
          refine ⟨_, rfl, a, _, _, _, rfl, rfl, sqT_same s6 ha, at3, _, b, rfl, dp_same s6 (.tup h7 h8), hok.2.2.2, hb2, by omega, fun l3 H6 s7 nl3 hl3 => ?_⟩
          have h2 := s7 _ _ (upd_same (H := H4) (a := e) (o := .lst [.str "else"]))
          have er := s7 _ _ (same_new (o := .lst [.str "else"]) ne _ _ e5)
          refine ⟨e, l3, _, _, rfl, rfl, h2, hl3, by simp only [List.length_map, List.length_cons, List.length_nil]; omega, fun r2 nr2 => ?_⟩
          refine ⟨r1, r2, _, _, rfl, rfl, same_new nr2 _ _ er, upd_same, by simp only [List.length_append, List.length_map, List.length_cons, List.length_nil]; omega, rfl, same_upd0 ((s6.trans s7).trans (same_new nr2)) nr1H, ?_⟩
          rw [upd_same]
          simp
      · rintro σ H5 ⟨rfl, s6, e6⟩
        refine ⟨_, rfl, (by show 1 ≤ sizeLine; decide), fun c nc => ?_⟩
        have hll : ((headT "if" t :: (slines p0 ++ (if b.isEmpty = true then [] else ("else" : Str) :: slines b))).map V.str).length + 1 ≤ sizeLine := by
          simp only [List.length_map, List.length_cons, List.length_append]
          exact fitL (by omega)
        refine ⟨r1, c, _, _, rfl, rfl, same_new nc _ _ e6, upd_same, hll, fun r2 nr2 => k r2 _ ((s6.trans (same_new nc)).trans (same_new nr2)) ((s6.trans (same_new nc)).free nr2) ?_⟩
        rw [upd_same]
        simp [Smt.lines]
def spBody0 : Sp := fun _ _ _ _ => False
abbrev blN : List Str := ["body", "lines", "statement"]
theorem scBL : FnScope blN ["body"] (defScope sBodyLines) := ⟨rfl, rfl, rfl, by decide +kernel, rfl, by decide +kernel, by decide +kernel⟩
theorem step_body {n : Nat} {f fS : Addr} {fd fdS : FuncData} (F : Fun K "body_lines" "body_lines" sBodyLines f fd) (CS : Cal P w K mg base (2 * n + 4) "statement_lines" fS fdS ["statement"] (spStmtL K n)) : FnOk P w K mg base CX0 (2 * n + 5) f fd ["body"] (spBodyL K n) := by
  refine F.ok scBL (fun vs H Q E h => ?_) (fun cdv A outer s H vs Q E hr h => ?_)
  · obtain ⟨_, _, rfl, _⟩ := h
    rfl
  · obtain ⟨v, b, rfl, hv, hok, hdep, hlen, k⟩ := h
    refine ⟨_, (pss_cons (ps_set (i := 1) scBL.nd rfl (.inl rfl) (pe_lst pa_nil)) (pss_cons (ps_for PassesOwn.never rfl (pi_tup (pv 0)) (pg_name (i := 2) scBL.nd rfl (.inl rfl)) (pss_one (ps_expr (pe_bm PySem.F.plainAttrs_list PySem.F.slot_list_extend PySem.F.type_list_extend mt_extend (pv 1) (pa_cons (pe_call CS.ok hr rfl CS.mg CS.kp CS.bi .nil pass0 (pa_cons (pv 2) pa_nil)) pa_nil))))) (pss_one (ps_ret (pv 1))))), ?_⟩
    cases hv with
    | @tup a xs _ h1 h2 =>
    have hxl := dpAll_len h2
    rw [sdata_map, List.length_map] at hxl
    refine ⟨(by show 0 ≤ sizeLine; decide), fun L nL => ⟨_, rfl, a, rfl, ⟨_, sqT_same (same_new nL) h1⟩, ?_⟩⟩
    refine for_tup (K := K) (a := a) (xs := xs) (fun i σ Hx => ∃ x2 : Option V, σ = [some (.ref a), some (.ref L), x2] ∧ Same H Hx ∧ Hx L = some (.lst ((slines (b.take i)).map V.str))) ⟨none, rfl, same_new nL, upd_same⟩ (fun i σ Hx _ ⟨_, _, sm, _⟩ => sqT_same sm h1) ?_ ?_
    · rintro i x σ Hx hx ⟨x2, rfl, sm, hL⟩
      obtain ⟨d, hd1, hd2⟩ := dpAll_get h2 hx
      rw [sdata_map, List.getElem?_map] at hd1
      obtain ⟨st, hst, rfl⟩ := Option.map_eq_some_iff.mp hd1
      have hmem := List.mem_of_getElem? hst
      have hsl : slines (b.take (i + 1)) = slines (b.take i) ++ st.lines := by
        rw [List.take_add_one, hst, slines_app]
        simp [slines]
      have hle : (slines (b.take (i + 1))).length ≤ (slines b).length := by
        have : slines b = slines (b.take (i + 1)) ++ slines (b.drop (i + 1)) := by rw [← slines_app, List.take_append_drop]
        rw [this, List.length_append]; omega
      rw [hsl, List.length_append] at hle
      refine ⟨_, rfl, .inl ⟨rfl, _, SqL.of hL⟩, _, rfl, x, st, rfl, dp_same sm hd2, sok_iff.mp hok st hmem, sdep_le.mp hdep st hmem, by omega, fun l H2 s2 nl hl => ?_⟩
      refine ⟨L, l, _, _, rfl, rfl, s2 _ _ hL, hl, by simp only [List.length_map]; exact fitL (by omega), ⟨_, rfl, same_upd0 (sm.trans s2) nL, ?_⟩⟩
      rw [upd_same, hsl, List.map_append]
    · rintro σ Hx ⟨x2, rfl, sm, hL⟩
      rw [hxl, List.take_length] at hL
      exact ⟨_, rfl, k L Hx sm nL hL⟩
theorem ok_body {f g fW : Addr} {fd gd fdW : FuncData} (F : Fun K "body_lines" "body_lines" sBodyLines f fd) (G : Fun K "statement_lines" "statement_lines" sStmtLines g gd) (mf : mg "body_lines" = some (.ref f)) (bf : Binds K fd ["body"] []) (mgg : mg "statement_lines" = some (.ref g)) (bg : Binds K gd ["statement"] []) (CW : Cal P w K mg base 3 "written" fW fdW ["node"] (spWritten K)) :
    ∀ n, Cal P w K mg base (2 * n + 5) "body_lines" f fd ["body"] (spBodyL K n)
  | 0 => ⟨step_body F ⟨step_stmt (spR := spBody0) (fB := f) (fdB := fd) G CW ⟨fn_none, mf, F.kp, bf⟩ (fun k h => by cases h), mgg, G.kp, bg⟩, mf, F.kp, bf⟩
  | n + 1 => ⟨step_body F ⟨step_stmt G CW (ok_body F G mf bf mgg bg CW n) (fun k h => by cases h; rfl), mgg, G.kp, bg⟩, mf, F.kp, bf⟩
end
end XE

set_option Elab.async false
set_option linter.all false
set_option maxRecDepth 100000
set_option maxHeartbeats 1000000
namespace XE
open PySem PySem.Spec PyProof.Rows L2 Rx SX
abbrev cProgram : Stmt := topS 38
abbrev sPInit : Stmt := inClass cProgram 0
abbrev sParseProg : Stmt := topS 42
def spCanonL (K : PySem.W.Frag) : Sp := fun vs H Q _ => ∃ (a : Addr) (xs : List V) (rows : List (Str × List Smt)), vs = [.ref a] ∧ SqT K H a xs ∧ DpAll K H xs (rows.map rowD) ∧ (∀ r ∈ rows, RowOk r) ∧ cntR rows ≤ 1000 ∧ ∀ l H', Same H H' → H l = none → H' l = some (.lst ((rlines rows).map V.str)) → Q (.ref l) H'
theorem rlines_snoc (rs : List (Str × List Smt)) (r : Str × List Smt) : rlines (rs ++ [r]) = rlines rs ++ ((Stp.proc r.1).text :: slines r.2) := by
  induction rs with
  | nil => simp [rlines]
  | cons x rs ih => simp [rlines, ih]
theorem rlines_len (rs : List (Str × List Smt)) : (rlines rs).length = cntR rs := by
  induction rs with
  | nil => rfl
  | cons x rs ih => simp only [rlines, cntR, List.map_cons, List.sum_cons, List.length_cons, List.length_append] at ih ⊢; omega
structure TxtG (K : PySem.W.Frag) (C : Addr) : Prop where
  cl : Cls K C
  nRows : NoAttr K C "rows"
  nTexts : NoAttr K C "texts"
def ProgAt (K : PySem.W.Frag) (C : Addr) (H : Hp) (p : Addr) (rows : List (Str × List Smt)) : Prop := ∃ dx t1 t2 vs, H p = some (.ins C dx [("rows", .ref t1), ("texts", .ref t2)]) ∧ H t1 = some (.tup vs) ∧ DpAll K H vs (rows.map rowD) ∧ H t2 = some (.tup ((rlines rows).map V.str))
def spPInit (K : PySem.W.Frag) (C : Addr) : Sp := fun us H Q _ => ∃ (p dx l : Addr) (vs : List V) (rows : List (Str × List Smt)), us = [.ref p, .ref l] ∧ H p = some (.ins C dx []) ∧ H l = some (.lst vs) ∧ DpAll K H vs (rows.map rowD) ∧ (∀ r ∈ rows, RowOk r) ∧ cntR rows ≤ 1000 ∧
  ∀ H', ProgAt K C H' p rows → (∀ a x, H a = some x → a ≠ p → H' a = some x) → Q .non H'
section
variable {P : Program} {w : World} {K : PySem.W.Frag} {mg : Str → Option Value} {base : Heap} {CP C : Addr}
abbrev clN : List Str := ["rows", "lines", "name", "body"]
theorem scCL : FnScope clN ["rows"] (defScope sCanonLines) := ⟨rfl, rfl, rfl, by decide +kernel, rfl, by decide +kernel, by decide +kernel⟩
theorem ok_canonL {f fB : Addr} {fd fdB : FuncData} (F : Fun K "canonical_lines" "canonical_lines" sCanonLines f fd) (CB : Cal P w K mg base 45 "body_lines" fB fdB ["body"] (spBodyL K 20)) : FnOk P w K mg base CX0 46 f fd ["rows"] (spCanonL K) := by
  refine F.ok scCL (fun vs H Q E h => ?_) (fun cdv A outer s H vs Q E hr h => ?_)
  · obtain ⟨_, _, _, rfl, _⟩ := h
    rfl
  · obtain ⟨a, xs, rows, rfl, h1, h2, hok, hcn, k⟩ := h
    refine ⟨_, (pss_cons (ps_set (i := 1) scCL.nd rfl (.inl rfl) (pe_lst pa_nil)) (pss_cons (ps_for PassesOwn.never rfl (pi_tup (pv 0)) (pg_tup rfl (pgs_cons (pg_name (i := 2) scCL.nd rfl (.inl rfl)) (pgs_cons (pg_name (i := 3) scCL.nd rfl (.inl rfl)) pgs_nil))) (pss_cons (ps_expr (pe_bm PySem.F.plainAttrs_list PySem.F.slot_list_append PySem.F.type_list_append mt_append (pv 1) (pa_cons (pe_joined (PJ.cons pe_str (PJ.cons (pe_fmt (pv 2)) PJ.nil))) pa_nil))) (pss_one (ps_expr (pe_bm PySem.F.plainAttrs_list PySem.F.slot_list_extend PySem.F.type_list_extend mt_extend (pv 1) (pa_cons (pe_call CB.ok hr rfl CB.mg CB.kp CB.bi .nil pass0 (pa_cons (pv 3) pa_nil)) pa_nil)))))) (pss_one (ps_ret (pv 1))))), ?_⟩
    have hxl := dpAll_len h2
    rw [List.length_map] at hxl
    refine ⟨(by show 0 ≤ sizeLine; decide), fun L nL => ⟨_, rfl, a, rfl, ⟨_, sqT_same (same_new nL) h1⟩, ?_⟩⟩
    refine for_tup (K := K) (a := a) (xs := xs) (fun i σ Hx => ∃ x2 x3 : Option V, σ = [some (.ref a), some (.ref L), x2, x3] ∧ Same H Hx ∧ Hx L = some (.lst ((rlines (rows.take i)).map V.str))) ⟨none, none, rfl, same_new nL, upd_same⟩ (fun i σ Hx _ ⟨_, _, _, sm, _⟩ => sqT_same sm h1) ?_ ?_
    · rintro i x σ Hx hx ⟨x2, x3, rfl, sm, hL⟩
      obtain ⟨d, hd1, hd2⟩ := dpAll_get h2 hx
      rw [List.getElem?_map] at hd1
      obtain ⟨r, hr1, rfl⟩ := Option.map_eq_some_iff.mp hd1
      have hmem := List.mem_of_getElem? hr1
      obtain ⟨g1, g2, g3⟩ := hok r hmem
      have hsl : rlines (rows.take (i + 1)) = rlines (rows.take i) ++ ((Stp.proc r.1).text :: slines r.2) := by
        rw [List.take_add_one, hr1, ← rlines_snoc]
        rfl
      have hle : (rlines (rows.take (i + 1))).length ≤ 1000 := by
        rw [rlines_len]
        have : cntR rows = cntR (rows.take (i + 1)) + cntR (rows.drop (i + 1)) := by rw [← cntR_app, List.take_append_drop]
        omega
      rw [hsl, List.length_append, List.length_cons] at hle
      unfold rowD at hd2
      cases hd2 with
      | @tup q ws _ h5 h6 =>
      cases h6 with
      | cons h7 h8 =>
      cases h7
      cases h8 with
      | @cons bv _ _ _ h9 h10 =>
      cases h10
      have hn : r.1.length ≤ 8 := by
        obtain ⟨_, _, h3, _⟩ := name_parts g1
        simpa [Str.length] using h3
      have l8 : ("process " : Str).length = 8 := by decide +kernel
      have el : Str.empty.length = 0 := by decide +kernel
      refine ⟨q, _, rfl, sqT_same sm h5, rfl, _, _, rfl, _, _, rfl, rfl, _, rfl, .inl ⟨rfl, _, SqL.of hL⟩, _, rfl, (by refine fitL ?_; simp only [len_apps, el, l8]; omega), _, rfl, .inl ⟨_, rfl, (by refine fitL ?_; omega), _, rfl, (by refine fitL ?_; simp only [len_apps, el, l8]; omega), L, _, _, rfl, rfl, hL, ?_, ?_⟩⟩
      · rw [List.length_map]
        exact Nat.lt_of_le_of_lt (by omega : _ ≤ 1000) (by decide)
      have sm2 : Same H (upd Hx L (.lst ((rlines (rows.take i)).map V.str ++ [.str (Str.empty ++ "process " ++ r.1)]))) := same_upd0 sm nL
      have e2 : upd Hx L (.lst ((rlines (rows.take i)).map V.str ++ [.str (Str.empty ++ "process " ++ r.1)])) L = some (.lst ((rlines (rows.take i) ++ [(Stp.proc r.1).text]).map V.str)) := by
        rw [upd_same]
        have := fst1 "process" (cod r.1) "process " (by decide +kernel)
        rw [str_cod] at this
        rw [this]
        simp [Stp.text]
      have dp2 : Dp K (upd Hx L (.lst ((rlines (rows.take i)).map V.str ++ [.str (Str.empty ++ "process " ++ r.1)]))) bv (.tuple (sdata r.2)) := dp_same sm2 h9
      generalize upd Hx L (.lst ((rlines (rows.take i)).map V.str ++ [.str (Str.empty ++ "process " ++ r.1)])) = H2 at sm2 e2 dp2 ⊢
      refine ⟨_, rfl, .inl ⟨rfl, _, SqL.of e2⟩, _, rfl, bv, r.2, rfl, dp2, g2, g3, by omega, fun l H3 s3 nl hl => ?_⟩
      refine ⟨L, l, _, _, rfl, rfl, s3 _ _ e2, hl, by simp only [List.length_map, List.length_append, List.length_cons, List.length_nil]; exact fitL (by omega), ⟨_, _, rfl, same_upd0 (sm2.trans s3) nL, ?_⟩⟩
      rw [upd_same, hsl]
      simp
    · rintro σ Hx ⟨x2, x3, rfl, sm, hL⟩
      rw [hxl, List.take_length] at hL
      exact ⟨_, rfl, k L Hx sm nL hL⟩
abbrev piN : List Str := ["self", "rows"]
theorem scPI : FnScope piN ["self", "rows"] (defScope sPInit) := ⟨rfl, rfl, rfl, by decide +kernel, rfl, by decide +kernel, by decide +kernel⟩
theorem ok_pinit {f fL : Addr} {fd fdL : FuncData} (F : Fun K "__init__" "Program.__init__" sPInit f fd) (T : TxtG K C) (mtuple : mg "tuple" = none) (CL : Cal P w K mg base 46 "canonical_lines" fL fdL ["rows"] (spCanonL K)) : FnOk P w K mg base CX0 47 f fd ["self", "rows"] (spPInit K C) := by
  refine F.ok scPI (fun vs H Q E h => ?_) (fun cdv A outer s H vs Q E hr h => ?_)
  · obtain ⟨_, _, _, _, _, rfl, _⟩ := h
    rfl
  · obtain ⟨p, dx, l, vs, rows, rfl, hp, hl, hd, hok, hcn, k⟩ := h
    refine ⟨_, (pss_cons (ps_fld (pv 0) (pe_callTy call_tuple_of (by rfl) mtuple (by decide +kernel) (pa_cons (pv 1) pa_nil)) rfl) (pss_one (ps_fld (pv 0) (pe_callTy call_tuple_of (by rfl) mtuple (by decide +kernel) (pa_cons (pe_call CL.ok hr rfl CL.mg CL.kp CL.bi .nil pass0 (pa_cons (pe_fld (pv 0) rfl) pa_nil)) pa_nil)) rfl))), ?_⟩
    refine ⟨_, rfl, l, vs, rfl, .inl ⟨SqL.of hl, fun t1 nt1 => ⟨_, rfl, p, C, dx, _, rfl, same_new nt1 _ _ hp, T.cl, T.nRows, (by show 0 < 1000; decide), ?_⟩⟩⟩
    have e1 : putF "rows" (.ref t1) [] = ([("rows", .ref t1)] : List (Str × V)) := rfl
    rw [e1]
    have pt1 : p ≠ t1 := ne_of_none hp nt1
    have hp1 : upd (upd H t1 (.tup vs)) p (.ins C dx [("rows", .ref t1)]) p = some (.ins C dx [("rows", .ref t1)]) := upd_same
    have ht1 : upd (upd H t1 (.tup vs)) p (.ins C dx [("rows", .ref t1)]) t1 = some (.tup vs) := by rw [upd_ne (Ne.symm pt1), upd_same]
    have el1 : ∀ a x, H a = some x → a ≠ p → upd (upd H t1 (.tup vs)) p (.ins C dx [("rows", .ref t1)]) a = some x := fun a x e n => by
      rw [upd_ne n]
      exact same_new nt1 _ _ e
    have kp1 : Keeps H (upd (upd H t1 (.tup vs)) p (.ins C dx [("rows", .ref t1)])) := ⟨fun b ys e => el1 b _ e (ne_of e hp (by intro z; cases z)), fun b o u e => el1 b _ e (ne_of e hp (by intro z; cases z))⟩
    generalize upd (upd H t1 (.tup vs)) p (.ins C dx [("rows", .ref t1)]) = H1 at hp1 ht1 el1 kp1 ⊢
    have hd1 := dpAll_keep kp1.1 kp1.2 hd (rows_noAll rows)
    refine ⟨_, rfl, p, C, dx, _, _, rfl, hp1, T.cl, T.nRows, rfl, t1, vs, rows, rfl, SqT.of ht1, hd1, hok, hcn, fun l2 H2 s2 nl2 hl2 => ?_⟩
    refine ⟨l2, _, rfl, .inl ⟨SqL.of hl2, fun t2 nt2 => ⟨_, rfl, p, C, dx, _, rfl, same_new nt2 _ _ (s2 _ _ hp1), T.cl, T.nTexts, (by show 1 < 1000; decide), ?_⟩⟩⟩
    have e2 : putF "texts" (.ref t2) [("rows", .ref t1)] = ([("rows", .ref t1), ("texts", .ref t2)] : List (Str × V)) := by rw [pf_miss (by decide +kernel)]; rfl
    rw [e2]
    have pt2 : p ≠ t2 := ne_of_none (s2 _ _ hp1) nt2
    have el2 : ∀ a x, H2 a = some x → a ≠ p → upd (upd H2 t2 (.tup ((rlines rows).map V.str))) p (.ins C dx [("rows", .ref t1), ("texts", .ref t2)]) a = some x := fun a x e n => by
      rw [upd_ne n]
      exact same_new nt2 _ _ e
    have kp2 : Keeps H2 (upd (upd H2 t2 (.tup ((rlines rows).map V.str))) p (.ins C dx [("rows", .ref t1), ("texts", .ref t2)])) := ⟨fun b ys e => el2 b _ e (ne_of e (s2 _ _ hp1) (by intro z; cases z)), fun b o u e => el2 b _ e (ne_of e (s2 _ _ hp1) (by intro z; cases z))⟩
    refine k _ ⟨dx, t1, t2, vs, upd_same, kp2.1 _ _ (s2 _ _ ht1), dpAll_keep kp2.1 kp2.2 (dpAll_same s2 hd1) (rows_noAll rows), by rw [upd_ne (Ne.symm pt2), upd_same]⟩ (fun a x e n => el2 a x (s2 _ _ (el1 a x e n)) n)
theorem line_good {z : Str} {s : Stp} (h : LineR z (some s)) : s.good := by
  obtain ⟨T, hT, e⟩ := h
  have tg : ∀ {f : Tr → Stp}, T.map f = some s → ∃ t, f t = s ∧ t.gt ∧ t.sz ≤ 9010 := fun {f} e => by
    cases T with
    | none => cases e
    | some t =>
      obtain ⟨r, _, _, h3, h4⟩ := hT
      exact ⟨t, by simpa using e, h3, h4⟩
  unfold lineF at e
  split at e
  · injection e with e
    subst e
    unfold soloS
    split
    · trivial
    · split <;> trivial
  split at e
  · split at e
    · rename_i hn
      injection e with e
      subst e
      unfold oneS
      split
      · exact hn
      · split <;> exact hn
    · cases e
  split at e
  · split at e
    · rename_i hn
      injection e with e
      subst e
      exact hn
    · cases e
  split at e
  · split at e
    · rename_i hn
      obtain ⟨t, rfl, h1, h2⟩ := tg e.symm
      exact ⟨hn, h1, h2⟩
    · cases e
  split at e
  · split at e
    · rename_i hn
      obtain ⟨t, rfl, h1, h2⟩ := tg e.symm
      exact ⟨hn, h1, h2⟩
    · cases e
  split at e
  · obtain ⟨t, rfl, h1, h2⟩ := tg e.symm
    exact ⟨h1, h2⟩
  split at e
  · obtain ⟨t, rfl, h1, h2⟩ := tg e.symm
    exact ⟨h1, h2⟩
  · cases e
def progE (CP : Addr) (H : Hp) (E : XK) (r : Except (Nat × Str) (List Stp)) : Prop := ∀ n s, r = .error (n, s) → BadAt CP H n s E
def spParsePg (K : PySem.W.Frag) (C CP : Addr) : Sp := fun vs H Q E => ∃ (a : Addr) (zs : List Str) (os : List (Option Stp)), vs = [.ref a] ∧ (SqL K H a (zs.map V.str) ∨ SqT K H a (zs.map V.str)) ∧ zs.length ≤ 100000 ∧ (zs.length ≤ 400 → LinesR zs os) ∧
  (∀ ss, progR zs.length os = .ok ss → ∀ p H', Same H H' → H p = none → ProgAt K C H' p (rowsOf ss) → Q (.ref p) H') ∧ progE CP H E (progR zs.length os)
abbrev ppN : List Str := ["lines", "texts", "steps"]
theorem scPP : FnScope ppN ["lines"] (defScope sParseProg) := ⟨rfl, rfl, rfl, by decide +kernel, rfl, by decide +kernel, by decide +kernel⟩
theorem ok_parsePg {f fL fK fN fB fI : Addr} {fd fdL fdK fdN fdB fdI : FuncData} {tM : Tok} (F : Fun K "parse_program" "parse_program" sParseProg f fd) (mlist : mg "list" = none) (mlen : mg "len" = none) (mmost : mg "MOST_LINES" = some (.int 400 tM)) (TP : RaiT P w K mg base "BadProgram" CP ["line", "reason"])
    (CL : CalX P w K mg base 9 "read_lines" fL fdL ["texts"] (spReadLines K CP)) (CK : CalX P w K mg base 4 "check_blocks" fK fdK ["steps"] (spCheckB K CP)) (CN : CalX P w K mg base 4 "check_names" fN fdN ["steps"] (spCheckN K CP)) (CB : Cal P w K mg base 2 "built_rows" fB fdB ["steps"] (spBuilt K))
    (MQ : Mk K C fI) (mgQ : mg "Program" = some (.ref C)) (GQ : FnOk P w K mg base CX0 47 fI fdI ["self", "rows"] (spPInit K C)) (bQ : Binds K fdI ["self", "rows"] []) : FnOk P w K mg base (L2.CX P w) 49 f fd ["lines"] (spParsePg K C CP) := by
  obtain ⟨fP, fdP, iP, tP, FP, bP⟩ := TP.ini
  refine F.okX scPP (fun vs H Q E h => ?_) (fun cdv A outer s H vs Q E hr h => ?_)
  · obtain ⟨_, _, _, rfl, _⟩ := h
    rfl
  · obtain ⟨a, zs, os, rfl, ha, hz1, hR, kQ, kE⟩ := h
    have hrP : Room 3 _ := hr.mono (by decide)
    have hr9 : Room 9 _ := hr.mono (by decide)
    have hr4 : Room 4 _ := hr.mono (by decide)
    have hr2 : Room 2 _ := hr.mono (by decide)
    refine ⟨_, (pss_cons (ps_set (i := 1) scPP.nd rfl (.inl rfl) (pe_callTy call_list_of (by rfl) mlist (by decide +kernel) (pa_cons (pv 0) pa_nil))) (pss_cons (ps_if (pt_cmpR op_gt (pe_callB call_len_seq (by rfl) mlen PySem.boot_len (pa_cons (pv 1) pa_nil)) (pe_glob (v := .int 400) rfl mmost ⟨_, rfl⟩) (nomark _)) (pss_one (ps_raise rfl (takes_of rfl rfl rfl rfl) (pmk_oex TP.oex iP tP FP hrP bP .nil pass0 rfl TP.mgx (pa_cons (pe_glob (v := .int 400) rfl mmost ⟨_, rfl⟩) (pa_cons pe_str pa_nil))))) pss_nil) (pss_cons (ps_set (i := 2) scPP.nd rfl (.inl rfl) (pe_call CL.ok hr9 rfl CL.mg CL.kp CL.bi .nil (passes_call (takes_of (E := E) rfl rfl rfl rfl) (fun _ _ _ _ h => h)) (pa_cons (pv 1) pa_nil))) (pss_cons (ps_expr (pe_call CK.ok hr4 rfl CK.mg CK.kp CK.bi .nil (passes_call (takes_of (E := E) rfl rfl rfl rfl) (fun _ _ _ _ h => h)) (pa_cons (pv 2) pa_nil))) (pss_cons (ps_expr (pe_call CN.ok hr4 rfl CN.mg CN.kp CN.bi .nil (passes_call (takes_of (E := E) rfl rfl rfl rfl) (fun _ _ _ _ h => h)) (pa_cons (pv 2) pa_nil))) (pss_one (ps_ret (pe_make MQ GQ hr rfl mgQ bQ .nil pass0 (pa_cons (pe_call CB.ok hr2 rfl CB.mg CB.kp CB.bi .nil pass0 (pa_cons (pv 2) pa_nil)) pa_nil))))))))), ?_⟩
    refine ⟨_, rfl, a, _, rfl, ha, fun l nl => ⟨_, rfl, l, _, rfl, .inl (SqL.of upd_same), _, _, rfl, rfl, _, rfl, ?_⟩⟩
    have s1 := same_new (o := .lst (zs.map V.str)) nl
    have d4 : decide ((400 : Int) < ((zs.map V.str).length : Int)) = decide (400 < zs.length) := by
      rw [decide_eq_decide, List.length_map]; omega
    rw [d4]
    by_cases h4 : 400 < zs.length
    · refine iteTc (decide_eq_true h4) (mk_bad (n := 400) (kE 400 "limit" ?_) s1)
      unfold progR
      rw [if_pos h4]
    refine iteFc (decide_eq_false h4) ?_
    have hz4 : zs.length ≤ 400 := by omega
    unfold progE at kE
    unfold progR at kQ kE
    rw [if_neg h4] at kQ kE
    obtain ⟨hol, hor⟩ := hR hz4
    refine ⟨_, rfl, l, zs, os, rfl, upd_same, hz4, hR hz4, fun ss hss l2 xs2 H2 s2 n2 h2 d2 => ?_, fun n hn => BadAt.same (kE n "line" (by rw [hn])) s1⟩
    rw [hss] at kQ kE
    dsimp only at kQ kE
    have hos := steps_inv hss
    have hgood : ∀ s ∈ ss, s.good := fun s hs => by
      obtain ⟨i, hi⟩ := List.mem_iff_getElem?.mp hs
      have hi' : os[i]? = some (some s) := by rw [hos, List.getElem?_map, hi]; rfl
      have hil : i < os.length := (List.getElem?_eq_some_iff.mp hi').1
      obtain ⟨_, o, ho, hLR⟩ := hor i zs[i] (List.getElem?_eq_getElem (by omega))
      rw [hi'] at ho
      injection ho with ho
      subst ho
      exact line_good hLR
    have hsl : ss.length ≤ 400 := by
      have := congrArg List.length hos
      rw [List.length_map] at this
      omega
    refine ⟨_, rfl, l2, xs2, ss, rfl, h2, d2, hsl, fun hb H3 s3 => ?_, fun n hn => BadAt.same (kE n "block" (by rw [hn])) (s1.trans s2)⟩
    rw [hb] at kQ kE
    dsimp only at kQ kE
    have d3 := dpAll_same s3 d2
    have s13 := (s1.trans s2).trans s3
    refine ⟨_, rfl, l2, xs2, ss, rfl, s3 _ _ h2, d3, hsl, fun s r e => ?_, fun hn H4 s4 => ?_, fun n hn => BadAt.same (kE n "name" (by rw [hn])) s13⟩
    · rw [e] at hb
      exact (word_proc s).mp ((blk_next hb).2.2 rfl)
    rw [hn] at kQ
    dsimp only at kQ
    cases ss with
    | nil => cases hn
    | cons s0 r =>
      have hw := (blk_next hb).2.2 rfl
      cases s0 with
      | proc n =>
        obtain ⟨ho1, ho2⟩ := rows_ok hgood hb
        simp only [List.length_cons] at hsl
        refine ⟨_, rfl, l2, xs2, n, r, rfl, s4 _ _ (s3 _ _ h2), dpAll_same s4 d3, by omega, hgood, hb, fun l5 vs5 H5 s5 n5 h5 d5 => ?_⟩
        intro x dx nx ndx nex
        have s6 : Same H5 (upd (upd H5 dx (.own x)) x (.ins C dx [])) := fun c y e => by
          rw [upd_ne (ne_of_none e nx), upd_ne (ne_of_none e ndx)]
          exact e
        have sall := (s13.trans s4).trans s5
        refine ⟨x, dx, l5, vs5, _, rfl, upd_same, s6 _ _ h5, dpAll_same s6 d5, ho1, by omega, fun H6 hP hel => ⟨rfl, kQ _ rfl x H6 (fun b o e => ?_) (sall.free nx) hP⟩⟩
        exact hel b o (s6 _ _ (sall _ _ e)) (ne_of_none (sall _ _ e) nx)
      | _ => exact absurd hw (by simp only [Stp.word]; decide +kernel)
end
end XE

set_option Elab.async false
set_option linter.all false
set_option maxRecDepth 100000
set_option maxHeartbeats 4000000
namespace XE
open PySem PySem.Spec PyProof.Rows L2 Rx SX
abbrev sScan : Stmt := topS 56
def spScan : Sp := fun vs H Q _ => ∃ z : Str, vs = [.str z] ∧ z.length ≤ 100000 ∧ ∀ (H' : Hp) (l : Addr) (ws : List V) (ks : List (Sy × Nat)), Same H H' → H l = none → H' l = some (.lst ws) → KeyL H' ws ks → ks ++ [(.end_, z.length)] = scanG 0 (cod z) → ks.length ≤ z.length → Q (.ref l) H'
def alike (c : Nat) : List Str := (if isLet c = true then [lettersS] else []) ++ (if isDig c = true then [digitsS] else [])
def baseL (cs : List Nat) : Nat := match cs with
  | [] => 1
  | c :: _ => if isLet c = true then (cs.takeWhile isLet).length else if isDig c = true then (cs.takeWhile isDig).length else 1
theorem endL_base (cs : List Nat) : endL cs = if twoL.contains (S (cs.take 2)) = true then 2 else baseL cs := rfl
def alN (c : Nat) : Nat → List Str
  | 0 => []
  | 1 => if isLet c = true then [lettersS] else []
  | _ => alike c
theorem alike_cls (c : Nat) (r : List Nat) : (alike c = [] ∧ baseL (c :: r) = 1) ∨ ∃ (ch : Str) (p : Nat → Bool), alike c = [ch] ∧ (∀ x, decide (x ∈ ch.cps.toList) = p x) ∧ p c = true ∧ baseL (c :: r) = ((c :: r).takeWhile p).length := by
  unfold alike baseL
  cases h1 : isLet c with
  | true =>
    have h2 : isDig c = false := by
      cases e : isDig c with
      | false => rfl
      | true => rw [let_dig e] at h1; cases h1
    rw [h2]
    exact .inr ⟨lettersS, isLet, rfl, let_mem, h1, by simp [h1]⟩
  | false =>
    cases h2 : isDig c with
    | true => exact .inr ⟨digitsS, isDig, rfl, dig_mem, h2, by simp [h1, h2]⟩
    | false => exact .inl ⟨rfl, by simp [h1, h2]⟩
theorem alN_lt (c : Nat) : ((alN c 1).map V.str).length < sizeLine := by
  have h9 : (alN c 1).length ≤ 1 := by simp only [alN]; split <;> simp
  rw [List.length_map]
  exact Nat.lt_of_le_of_lt h9 (by decide)
theorem alike_ok (c : Nat) : ∀ n ∈ alike c, PyData.strOk n = true := by
  have h : ∀ n ∈ [lettersS, digitsS], PyData.strOk n = true := by decide +kernel
  intro n hn
  apply h
  unfold alike at hn
  rcases List.mem_append.mp hn with hn | hn
  · split at hn
    · simp at hn; simp [hn]
    · cases hn
  · split at hn
    · simp at hn; simp [hn]
    · cases hn
theorem eqv_nil (ns : List Str) : PyData.eqv (.list (ns.map PyData.str)) (.list []) = ns.isEmpty := by
  cases ns <;> simp [PyData.eqv, PyData.eqvAll]
section
variable {P : Program} {w : World} {K : PySem.W.Frag} {mg : Str → Option Value} {base : Heap}
theorem scSc : FnScope ["_law_text", "_law_found_here", "_law_at", "_law_end", "_law_alike", "_law_signs"] ["_law_text"] (defScope sScan) := ⟨rfl, rfl, rfl, by decide +kernel, rfl, by decide +kernel, by decide +kernel⟩
theorem ok_scan {f fK : Addr} {fd fdK : FuncData} (F : Fun K "_law_scan" "_law_scan" sScan f fd) (T : TxtX K mg) (CK : Cal P w K mg base 2 "_law_key" fK fdK ["_law_word"] spKey) : FnOk P w K mg base CX0 3 f fd ["_law_text"] spScan := by
  refine F.ok scSc (fun vs H Q E h => ?_) (fun cdv A outer s H vs Q E hr h => ?_)
  · obtain ⟨z, rfl, _⟩ := h
    rfl
  · obtain ⟨z, rfl, hz, k⟩ := h
    have hz' : z.length ≤ sizeLine := Nat.le_trans hz (by decide)
    have hlen := len_tl z
    refine ⟨_, pss_cons (ps_set (i := 1) scSc.nd rfl (.inl rfl) (pe_lst pa_nil))
      (pss_cons (ps_set (i := 2) scSc.nd rfl (.inr rfl) pe_int)
      (pss_cons (ps_while PassesOwn.never (pt_cmpR op_lt (pv 2) (pe_callB call_len_str (by rfl) T.len PySem.boot_len (pa_cons (pv 0) pa_nil)) (nomark _))
        (pss_cons (ps_set (i := 3) scSc.nd rfl (.inl rfl) (pe_op op_add (pv 2) pe_int))
        (pss_cons (ps_setLc (i := 4) (own := [("_law_signs", 5)]) (g := gName 5) rfl scSc.nd rfl rfl (sw_true rfl rfl rfl (by decide +kernel)) (pi_tup (pe_tup (pa_cons pe_str (pa_cons pe_str pa_nil))))
            (blkOk_by (own := [("_law_signs", 5)]) (N := ["_law_text", "_law_found_here", "_law_at", "_law_end", "_law_alike", "_law_signs"]) (sc := defScope sScan) (by decide +kernel)) (fun _ _ _ _ _ => pg_name (i := 5) scSc.nd rfl (Or.inl rfl))
            (fun _ _ _ _ _ => pts_one (pt_cmpR op_in_sign (pe_ix ix_str (pv 0) (pv 2) (fun _ _ => rfl)) (pv 5) (by rfl))) (fun _ _ _ _ _ => pv 5))
        (C8.pss_cut (ps_while PassesOwn.never (PW.pt (pw_and (pt_cmpR (op_neD hr.units) (pv 4) (pe_lst pa_nil) (nomark _)) (pw_and (pt_cmpR op_lt (pv 3) (pe_callB call_len_str (by rfl) T.len PySem.boot_len (pa_cons (pv 0) pa_nil)) (nomark _)) (pw_and1 (pt_cmpR op_in_sign (pe_ix ix_str (pv 0) (pv 3) (fun _ _ => rfl)) (pe_ix ix_list (pv 4) pe_int (fun _ _ => rfl)) (by rfl))))))
          (pss_one (ps_set (i := 3) scSc.nd rfl (.inl rfl) (pe_op op_add (pv 3) pe_int))))
        (C8.pss_cut (ps_if (pt_cmpR op_in_seq (pe_slice sl_str (pv 0) (po_some (pv 2)) (po_some (pe_op op_add (pv 2) pe_int))) (pe_tup (pa_cons pe_str (pa_cons pe_str (pa_cons pe_str (pa_cons pe_str pa_nil))))) (by rfl)) (pss_one (ps_set (i := 3) scSc.nd rfl (.inl rfl) (pe_op op_add (pv 2) pe_int))) pss_nil)
        (pss_cons (ps_if (pt_cmpR op_ne (pe_ix ix_str (pv 0) (pv 2) (fun _ _ => rfl)) pe_str (nomark _))
          (pss_one (ps_expr (pe_bm PySem.F.plainAttrs_list PySem.F.slot_list_append PySem.F.type_list_append mt_append (pv 1) (pa_cons (pe_tup (pa_cons (pe_call CK.ok hr rfl CK.mg CK.kp CK.bi .nil pass0 (pa_cons (pe_slice sl_str (pv 0) (po_some (pv 2)) (po_some (pv 3))) pa_nil)) (pa_cons (pv 2) pa_nil))) pa_nil)))) pss_nil)
        (pss_one (ps_set (i := 2) scSc.nd rfl (.inr rfl) (pv 3)))))))))
      (pss_one (ps_ret (pv 1))))), ?_⟩
    refine ⟨(by show 0 ≤ sizeLine; decide), fun l hl => ?_⟩
    refine ⟨fun m σ H' => ∃ (a : Nat) (x3 x4 : Option V) (ws : List V) (ks : List (Sy × Nat)), m = z.length - a ∧ σ = [some (.str z), some (.ref l), some (.int a), x3, x4, none] ∧ a ≤ z.length ∧ H' l = some (.lst ws) ∧ KeyL H' ws ks ∧ ks ++ scanG a ((cod z).drop a) = scanG 0 (cod z) ∧ ks.length ≤ a ∧ Same H H',
      ⟨_, 0, none, none, [], [], rfl, rfl, Nat.zero_le _, upd_same, trivial, by simp, Nat.le_refl _, same_new hl⟩, ?_⟩
    rintro m σ H' ⟨a, x3, x4, ws, ks, rfl, rfl, ha, hl', hk, hs, hkl, sm⟩
    refine ⟨_, rfl, _, rfl, z, rfl, hz', _, _, rfl, rfl, _, rfl, ite2 (fun e1 => ?_) (fun e1 => ?_)⟩
    · have hlt : a < z.length := by have := of_decide_eq_true e1; omega
      have hlt' : a < (cod z).length := by rw [hlen]; exact hlt
      obtain ⟨c, r, hcr⟩ : ∃ c r, (cod z).drop a = c :: r := ⟨_, _, List.drop_eq_getElem_cons hlt'⟩
      have hc : (cod z)[a]? = some c := by
        have := congrArg List.head? hcr
        rw [List.head?_drop] at this
        exact this
      refine ⟨_, fun _ _ h => h, _, rfl, _, _, rfl, rfl, (by show 2 ≤ sizeLine; decide), fun t nt => ⟨t, rfl, ⟨_, SqT.of upd_same⟩, fun D hD => ?_⟩⟩
      have tD : t ≠ D := ne_of_none upd_same hD
      refine lc_tup (K := K) (a := t) (xs := [.str lettersS, .str digitsS]) (fun i Hx => Hx = upd (upd H' t (.tup [.str lettersS, .str digitsS])) D (.lst ((alN c i).map V.str))) rfl (fun i Hx _ e => by rw [e]; exact SqT.of (by rw [upd_ne tD, upd_same])) ?_ ?_
      · rintro i x Hx hx rfl
        match i, hx with
        | 0, hx =>
          injection hx with hx
          subst hx
          refine ⟨rfl, _, rfl, _, rfl, z, a, c, rfl, rfl, hz', atI_nat hc, _, rfl, c, lettersS, rfl, rfl, _, rfl, ?_⟩
          rw [let_mem]
          cases h1 : isLet c with
          | true => exact iteTc rfl ⟨_, rfl, _, upd_same, (by show 0 < sizeLine; decide), by rw [upd_upd]; simp [alN, h1]⟩
          | false => exact iteFc rfl (by simp [alN, h1])
        | 1, hx =>
          injection hx with hx
          subst hx
          refine ⟨rfl, _, rfl, _, rfl, z, a, c, rfl, rfl, hz', atI_nat hc, _, rfl, c, digitsS, rfl, rfl, _, rfl, ?_⟩
          rw [dig_mem]
          cases h1 : isDig c with
          | true => exact iteTc rfl ⟨_, rfl, _, upd_same, alN_lt c, by rw [upd_upd]; simp [alN, alike, h1]⟩
          | false => exact iteFc rfl (by simp [alN, alike, h1])
        | i + 2, hx => simp at hx
      rintro H2 hH2
      have smD : Same H' H2 := by rw [hH2]; exact same_upd (same_new nt) ((same_new nt).free hD)
      have hal : H2 D = some (.lst ((alike c).map V.str)) := by rw [hH2]; exact upd_same
      clear hH2
      refine ⟨fun σ H3 => σ = [some (.str z), some (.ref l), some (.int a), some (.int ((a + baseL (c :: r) : Nat) : Int)), some (.ref D), none] ∧ Same H2 H3, ?_, ?_⟩
      · have eN : ∀ n : Nat, V.int ((n : Int) + 1) = V.int ((n + 1 : Nat) : Int) := fun n => by rw [Int.natCast_add]; rfl
        rcases alike_cls c r with ⟨h1, h2⟩ | ⟨ch, p, h1, hp, hpc, hb⟩
        · rw [h2]
          refine ⟨fun m σ H3 => m = 0 ∧ σ = [some (.str z), some (.ref l), some (.int a), some (.int ((a + 1 : Nat) : Int)), some (.ref D), none] ∧ Same H2 H3, ⟨0, rfl, by rw [← eN]; rfl, Same.refl _⟩, ?_⟩
          rintro m σ H3 ⟨rfl, rfl, s3⟩
          have hal3 := s3 _ _ hal
          rw [h1] at hal3
          refine ⟨_, rfl, (by show 0 ≤ sizeLine; decide), fun q hq => ⟨.list [], .list [], .lst (SqL.of ((same_new hq) _ _ hal3)) .nil, .lst (SqL.of upd_same) .nil, rfl, rfl, _, rfl, iteFc (by simp [PyData.eqv, PyData.eqvAll]) (iteFc rfl ⟨rfl, s3.trans (same_new hq)⟩)⟩⟩
        · rw [hb, ← hcr]
          refine ⟨fun m σ H3 => ∃ e : Nat, m = z.length - e ∧ σ = [some (.str z), some (.ref l), some (.int a), some (.int (e : Int)), some (.ref D), none] ∧ Same H2 H3 ∧ a + 1 ≤ e ∧ e ≤ z.length ∧ ∀ x ∈ ((cod z).drop a).take (e - a), p x = true, ⟨_, a + 1, rfl, by rw [← eN]; rfl, Same.refl _, Nat.le_refl _, hlt, fun x hx => ?_⟩, ?_⟩
          · rw [hcr, show a + 1 - a = 1 by omega] at hx
            simp at hx
            rw [hx]
            exact hpc
          rintro m σ H3 ⟨e, rfl, rfl, s3, g1, g2, g3⟩
          have hal3 := s3 _ _ hal
          rw [h1] at hal3
          have okc : ∀ n ∈ [ch], PyData.strOk n = true := by have := alike_ok c; rw [h1] at this; exact this
          have done : (∀ x, (cod z)[e]? = some x → p x = false) → e = a + (((cod z).drop a).takeWhile p).length := fun hs => by
            have := takeWhile_stop ((cod z).drop a) (e - a) g3 (fun x hx => hs x (by rw [List.getElem?_drop, show a + (e - a) = e by omega] at hx; exact hx)) (by rw [List.length_drop, hlen]; omega)
            rw [this, List.length_take, List.length_drop, hlen]
            omega
          refine ⟨_, rfl, (by show 0 ≤ sizeLine; decide), fun q hq => ⟨.list [.str ch], .list [], .lst (SqL.of ((same_new hq) _ _ hal3)) (.cons (.str _) .nil), .lst (SqL.of upd_same) .nil, shStrs [ch] okc, rfl, _, rfl, iteTc (by simp [PyData.eqv, PyData.eqvAll]) ?_⟩⟩
          have s4 := s3.trans (same_new (o := .lst []) hq)
          have hal4 := (same_new (o := .lst []) hq) _ _ hal3
          refine ⟨_, rfl, _, rfl, z, rfl, hz', _, _, rfl, rfl, _, rfl, ite2 (fun e2 => ?_) (fun e2 => ?_)⟩
          · have hle : e < (cod z).length := by have := of_decide_eq_true e2; rw [hlen]; omega
            refine ⟨_, rfl, _, rfl, z, e, (cod z)[e], rfl, rfl, hz', atI_nat (List.getElem?_eq_getElem hle), _, rfl, D, _, _, _, rfl, rfl, SqL.of hal4, atI_nat (j := 0) rfl, _, ch, rfl, rfl, _, rfl, ?_⟩
            rw [hp]
            cases hpe : p (cod z)[e] with
            | true =>
              refine iteTc rfl ⟨_, fun _ _ h => h, _, rfl, _, _, rfl, rfl, z.length - (e + 1), by rw [hlen] at hle; omega, e + 1, rfl, by rw [Int.natCast_add]; rfl, s4, by omega, by rw [hlen] at hle; omega, fun x hx => ?_⟩
              rw [show e + 1 - a = (e - a) + 1 by omega, List.take_add_one] at hx
              rcases List.mem_append.mp hx with hx | hx
              · exact g3 x hx
              · rw [List.getElem?_drop, show a + (e - a) = e by omega, List.getElem?_eq_getElem hle] at hx
                simp at hx
                rw [hx]
                exact hpe
            | false =>
              refine iteFc rfl ⟨?_, s4⟩
              rw [← done fun x hx => by rw [List.getElem?_eq_getElem hle] at hx; injection hx with hx; rw [← hx]; exact hpe]
          · have hge : z.length ≤ e := by
              have : ¬ ((e : Int) < (z.length : Int)) := fun q => e2 (decide_eq_true q)
              omega
            refine iteFc rfl ⟨?_, s4⟩
            rw [← done fun x hx => by
              have := (List.getElem?_eq_some_iff.mp hx).1
              rw [hlen] at this
              omega]
      rintro σ H3 ⟨rfl, s3⟩
      refine ⟨fun σ H4 => σ = [some (.str z), some (.ref l), some (.int a), some (.int ((a + endL (c :: r) : Nat) : Int)), some (.ref D), none] ∧ Same H2 H4, ?_, ?_⟩
      · have e2 : ((a : Int) + 2) = ((a + 2 : Nat) : Int) := by omega
        refine ⟨_, rfl, _, rfl, _, rfl, _, rfl, _, _, rfl, rfl, _, rfl, z, rfl, hz', (by show 4 ≤ sizeLine; decide), fun t2 nt2 => ⟨t2, _, rfl, .inr (SqT.of upd_same), rfl, flat_strs twoL, _, rfl, ?_⟩⟩
        show if inV (.str (cutS z (some (a : Int)) (some ((a : Int) + 2)))) (twoL.map V.str) = true then _ else _
        rw [inV_strs, e2, cut_nat z a (a + 2) ha, show a + 2 - a = 2 by omega, hcr]
        rw [endL_base]
        cases h2 : twoL.contains (S ((c :: r).take 2)) with
        | true => exact iteTc rfl ⟨_, rfl, _, _, rfl, rfl, by rw [Int.natCast_add]; rfl, s3.trans (same_new nt2)⟩
        | false => exact iteFc rfl ⟨rfl, s3.trans (same_new nt2)⟩
      rintro σ H4 ⟨rfl, s4⟩
      have sm4 := smD.trans s4
      have hp := endL_pos c r
      have hle : endL (c :: r) ≤ z.length - a := by
        have h1 := endL_le c r
        have h2 : (c :: r).length = z.length - a := by rw [← hcr, List.length_drop, hlen]
        omega
      have e32 : cod " " = [32] := by decide +kernel
      have hs' := scanG_cons a c r
      rw [hcr] at hs
      rw [hs'] at hs
      have hdr : (c :: r).drop (endL (c :: r)) = (cod z).drop (a + endL (c :: r)) := by rw [← hcr, List.drop_drop]
      rw [hdr, ← List.append_assoc] at hs
      refine ⟨_, rfl, _, rfl, z, a, c, rfl, rfl, hz', atI_nat hc, rfl, _, rfl, ?_⟩
      rw [sgn0 c e32]
      by_cases h32 : c = 32
      · refine iteFc (by simp [h32]) ⟨_, rfl, z.length - (a + endL (c :: r)), by omega, a + endL (c :: r), _, _, ws, ks, rfl, rfl, by omega, sm4 _ _ hl', hk.same sm4, ?_, by omega, sm.trans sm4⟩
        rw [if_pos h32, List.append_nil] at hs
        exact hs
      · refine iteTc (by simp [h32]) ⟨_, rfl, .inl ⟨rfl, _, SqL.of (sm4 _ _ hl')⟩, _, rfl, _, rfl, _, rfl, _, rfl, _, rfl, z, rfl, hz', ?_⟩
        rw [cut_nat z a (a + endL (c :: r)) ha, show a + endL (c :: r) - a = endL (c :: r) by omega, hcr]
        refine ⟨_, rfl, ?_, ?_, fun H5 s5 => ⟨_, rfl, (by show 2 ≤ sizeLine; decide), fun t5 nt5 => ?_⟩⟩
        · rw [S_len, List.length_take]
          exact Nat.le_trans (Nat.min_le_right _ _) (by rw [← hcr, List.length_drop, hlen]; omega)
        · show (c :: r).take (endL (c :: r)) ≠ []
          intro z0
          have := congrArg List.length z0
          rw [List.length_take, List.length_cons] at this
          simp at this
          omega
        · have h5 := s5 _ _ (sm4 _ _ hl')
          have h6 := (same_new (o := .tup [.str (keyW ((c :: r).take (endL (c :: r)))).str, .int (a : Nat)]) nt5) _ _ h5
          have hn : H l = none := hl
          refine ⟨l, _, _, rfl, rfl, h6, ?_, _, rfl, z.length - (a + endL (c :: r)), by omega, a + endL (c :: r), _, _, ws ++ [.ref t5], ks ++ [(keyW ((c :: r).take (endL (c :: r))), a)], rfl, rfl, by omega, upd_same, ?_, ?_, by simp; omega, ?_⟩
          · rw [hk.len]
            exact Nat.lt_of_le_of_lt (by omega : ks.length ≤ 100000) (by decide)
          · have k6 := ((hk.same sm4).same s5).same (same_new (o := .tup [.str (keyW ((c :: r).take (endL (c :: r)))).str, .int (a : Nat)]) nt5)
            exact KeyL.keep (fun b xs e => by rw [upd_ne (ne_of e h6 (by intro z; cases z))]; exact e) (KeyL.snoc (x := (keyW ((c :: r).take (endL (c :: r))), a)) upd_same k6)
          · rw [if_neg h32] at hs
            exact hs
          · exact same_upd (((sm.trans sm4).trans s5).trans (same_new nt5)) hn
    · have e : a = z.length := by
        have : ¬ ((a : Int) < (z.length : Int)) := fun q => e1 (decide_eq_true q)
        omega
      subst e
      rw [List.drop_of_length_le (by rw [hlen]; exact Nat.le_refl _)] at hs
      exact ⟨_, rfl, k H' l ws ks sm hl hl' hk hs hkl⟩
end
end XE

set_option Elab.async false
set_option linter.all false
set_option maxRecDepth 100000
set_option maxHeartbeats 1000000
namespace Rx
open PySem PySem.Spec PyProof.Rows L2 SX
theorem sp_small : ((" " : Str).cps.all fun x => decide (x < 256)) = true := by decide +kernel
theorem strjoin_cod : ∀ l : List Str, cod (Str.join " " l) = TL.joinL [32] (l.map cod)
  | [] => by
    rw [Str.join.eq_1]
    decide +kernel
  | [x] => by
    rw [Str.join.eq_2]
    rfl
  | x :: y :: l => by
    have ih := strjoin_cod (y :: l)
    have e3 := Str.join.eq_3 " " x (y :: l) (by intro h; cases h)
    have e4 := cat_cod (x ++ " ") (Str.join " " (y :: l))
    have e5 := cat_cod x " "
    have e6 : cod " " = [32] := by decide +kernel
    have e7 : TL.joinL [32] ((x :: y :: l).map cod) = cod x ++ 32 :: TL.joinL [32] ((y :: l).map cod) := rfl
    refine (congrArg cod e3).trans (e4.trans ?_)
    rw [e7, ← ih, e5, e6]
    simp
theorem split_head0 (z : Str) : ∃ r, Txt.split z " " = (par z).1 :: r := by
  rcases sp_split z with ⟨h, _⟩ | ⟨a, b, h, ha, _⟩
  · have h1 := TL.split_join (y := " ") tl_sp sp_small (parts := [z]) (by simp) (fun p hp => by rw [List.mem_singleton.mp hp]; exact h)
    have e : Txt.join " " [z] = z := by
      have e : (" " : Str) = S [32] := by decide +kernel
      have h := join_S [32] [cod z]
      simp only [List.map_cons, List.map_nil, str_cod] at h
      rw [e, h]
      exact str_cod z
    rw [e] at h1
    exact ⟨[], by rw [h1, par_none h]⟩
  · have hn : Txt.split (S b) " " ≠ [] := by
      intro e
      have h1 := StrLaws.join_split (S b) " "
      unfold Txt.split at e
      split at e
      · cases e
      · split at e
        · cases e
        · have := congrArg List.length e
          rw [PySem.length_partsBetween] at this
          simp at this
    have hj : Str.join " " (Txt.split (S b) " ") = S b := StrLaws.join_split _ _
    have hf : ∀ p ∈ Txt.split (S b) " ", 32 ∉ TL.tl p := fun p hp => by
      have e : (" " : Str) = { cps := #[32] } := by decide +kernel
      rw [e] at hp
      exact StrLaws.split_free _ _ p hp
    have h1 := TL.split_join (y := " ") tl_sp sp_small (parts := S a :: Txt.split (S b) " ") (by simp) (fun p hp => by
      rcases List.mem_cons.mp hp with rfl | hp
      · show 32 ∉ cod (S a)
        rw [codS]; exact ha
      · exact hf p hp)
    have e : Txt.join " " (S a :: Txt.split (S b) " ") = z := by
      have es : (" " : Str) = S [32] := by decide +kernel
      have back : ∀ l : List Str, (l.map cod).map S = l := fun l => by
        rw [List.map_map]
        exact List.map_id'' (fun x => str_cod x) l
      have jb : TL.joinL [32] ((Txt.split (S b) " ").map cod) = b := by
        rw [← strjoin_cod, hj]
      have h4 := join_S [32] (a :: (Txt.split (S b) " ").map cod)
      rw [List.map_cons, back, ← es] at h4
      rw [h4]
      have jc : ∀ m : List (List Nat), m ≠ [] → TL.joinL [32] (a :: m) = a ++ 32 :: TL.joinL [32] m := fun m hm => by
        cases m with
        | nil => exact absurd rfl hm
        | cons x m => rfl
      rw [jc _ (by intro e; exact hn (List.map_eq_nil_iff.mp e)), jb, ← h]
    rw [e] at h1
    exact ⟨_, by rw [h1, par_some h ha]⟩
theorem sy_name (k : Sy) : k.str = "name" ↔ k = .name := ⟨fun h => Sy.str_inj (a := k) (b := .name) (by rw [h]; rfl), fun h => by rw [h]; rfl⟩
theorem self_no : ∀ k ∈ selfK, k ≠ .name ∧ isName (cod k.str) = false := by decide +kernel
theorem key_name {w : List Nat} (hw : w ≠ []) : keyW w = .name ↔ isName w = true := by
  unfold keyW
  split
  · rename_i k hk
    obtain ⟨h1, h2⟩ := key18_some hk
    obtain ⟨h3, h4⟩ := self_no k h1
    rw [h2, codS] at h4
    constructor
    · exact fun h => absurd h h3
    · intro h; rw [h4] at h; cases h
  · split
    · rename_i hd
      constructor
      · intro h
        split at h <;> cases h
      · intro h
        exfalso
        obtain ⟨_, _, _, h4⟩ := name_parts h
        cases w with
        | nil => exact hw rfl
        | cons c r =>
          rw [List.all_cons, Bool.and_eq_true] at hd h4
          have := let_dig hd.1
          rw [h4.1] at this
          cases this
    · constructor
      · intro h
        split at h
        · rename_i hc
          unfold isName
          rw [hc.2.2, hc.1]
          simp only [Bool.not_false, Bool.true_and, Bool.and_true, Bool.and_eq_true, decide_eq_true_eq]
          exact ⟨hw, by omega⟩
        · cases h
      · intro h
        rw [if_pos ?_]
        unfold isName at h
        simp only [Bool.and_eq_true, Bool.not_eq_true', decide_eq_true_eq] at h
        exact ⟨h.2.2.2, by omega, h.1⟩
/-! what stands behind each first word -/
def kindOf (w : Str) : Option Str := if w = "process" ∨ w = "take" ∨ w = "input" then some "n" else if w = "set" ∨ w = "send" then some "ne" else if w = "receive" then some "nn" else if w = "if" ∨ w = "while" then some "c" else none
def kind6 : List (Key × V) := [(.inr "process", .str "n"), (.inr "set", .str "ne"), (.inr "send", .str "ne"), (.inr "receive", .str "nn"), (.inr "take", .str "n"), (.inr "input", .str "n")]
def kind2 : List (Key × V) := [(.inr "if", .str "c"), (.inr "while", .str "c")]
def kindK : List (Key × V) := mergeK (mergeK [] kind6) (mergeK [] kind2)
theorem kind_get (w : Str) : valV kindK (Sum.inr w) = (kindOf w).map V.str := by
  unfold kindK
  rw [mergeK_nil (more := kind2) (show (kind2.map (·.1)).Nodup by decide +kernel)]
  have inj : ∀ s : Str, ((Sum.inr w : Key) = Sum.inr s) ↔ w = s := fun s => ⟨fun h => by injection h, fun h => by rw [h]⟩
  simp only [mergeK, kind2, kind6, List.foldl_cons, List.foldl_nil, valV_put, inj]
  unfold kindOf
  by_cases a0 : w = "while"
  · subst a0
    repeat (first | rw [if_pos (by decide +kernel)] | rw [if_neg (by decide +kernel)])
    rfl
  by_cases a1 : w = "if"
  · subst a1
    repeat (first | rw [if_pos (by decide +kernel)] | rw [if_neg (by decide +kernel)])
    rfl
  by_cases a2 : w = "input"
  · subst a2
    repeat (first | rw [if_pos (by decide +kernel)] | rw [if_neg (by decide +kernel)])
    rfl
  by_cases a3 : w = "take"
  · subst a3
    repeat (first | rw [if_pos (by decide +kernel)] | rw [if_neg (by decide +kernel)])
    rfl
  by_cases a4 : w = "receive"
  · subst a4
    repeat (first | rw [if_pos (by decide +kernel)] | rw [if_neg (by decide +kernel)])
    rfl
  by_cases a5 : w = "send"
  · subst a5
    repeat (first | rw [if_pos (by decide +kernel)] | rw [if_neg (by decide +kernel)])
    rfl
  by_cases a6 : w = "set"
  · subst a6
    repeat (first | rw [if_pos (by decide +kernel)] | rw [if_neg (by decide +kernel)])
    rfl
  by_cases a7 : w = "process"
  · subst a7
    repeat (first | rw [if_pos (by decide +kernel)] | rw [if_neg (by decide +kernel)])
    rfl
  rw [if_neg a0, if_neg a1, if_neg a2, if_neg a3, if_neg a4, if_neg a5, if_neg a6, if_neg a7, if_neg (fun h => h.elim a7 (fun h => h.elim a3 a2)), if_neg (fun h => h.elim a6 a5), if_neg a4, if_neg (fun h => h.elim a1 a0)]
  rfl
theorem comes_uniq {c : Bool} {cs : List Nat} {a b : Option Nat} (h : Comes c cs a) (k : Comes c cs b) : a = b := by
  unfold Comes at h k
  cases a <;> cases b <;> dsimp only at h k
  · rfl
  · obtain ⟨q, d, h1, _⟩ := h
    rw [h1] at k; cases k
  · obtain ⟨q, d, h1, _⟩ := k
    rw [h1] at h; cases h
  · rw [h] at k
    injection k with k
    injection k with k
    rw [k]
theorem empty_none {c : Bool} {T : Option Tr} (h : Rd c Str.empty T) : T = none := by
  have h1 : ∀ c, runX (RS.start c) (toks (cod Str.empty)) = some (.inl 0) := fun c => by cases c <;> rfl
  cases T with
  | none => rfl
  | some t =>
    obtain ⟨r, h2, _⟩ := h
    rw [h1] at h2
    cases h2
theorem cut_behind {z : Str} {a b : List Nat} (h : cod z = a ++ 32 :: b) : cutS z (some (((a.length : Nat) : Int) + 1)) none = S b := by
  have hl : z.length = (cod z).length := by simp [Str.length]
  have e := cod_cut z (some (((a.length : Nat) : Int) + 1)) none
  rw [show (((a.length : Nat) : Int) + 1) = ((a.length + 1 : Nat) : Int) by omega] at e ⊢
  rw [HT.sIx_none, HT.sIx_nat, hl, h] at e
  refine cod_inj ?_
  refine e.trans ?_
  rw [codS]
  simp only [List.length_append, List.length_cons]
  rw [Nat.min_eq_left (by omega), List.drop_append, List.drop_of_length_le (by omega)]
  simp only [List.nil_append, Nat.add_sub_cancel_left, List.drop_succ_cons, List.drop_zero]
  exact List.take_of_length_le (by omega)
theorem cut_over {z : Str} (h : 32 ∉ cod z) : cutS z (some (((z.length : Nat) : Int) + 1)) none = Str.empty := by
  have e := cod_cut z (some (((z.length : Nat) : Int) + 1)) none
  rw [show (((z.length : Nat) : Int) + 1) = ((z.length + 1 : Nat) : Int) by omega] at e ⊢
  rw [HT.sIx_none, HT.sIx_nat] at e
  refine cod_inj ?_
  refine e.trans ?_
  rw [Nat.min_eq_right (by omega), Nat.sub_self]
  rfl
/-- what is behind the first word of a text -/
theorem cut_par (z : Str) : cutS z (some ((((par z).1.length : Nat) : Int) + 1)) none = (par z).2.2 := by
  rcases sp_split z with ⟨h, _⟩ | ⟨a, b, h, ha, _⟩
  · rw [par_none h]
    exact cut_over h
  · rw [par_some h ha]
    show cutS z (some (((S a).length : Int) + 1)) none = S b
    rw [show (S a).length = a.length by simp [S, Str.length]]
    exact cut_behind h
theorem par_eq {z : Str} (h : z = (par z).1) : (par z).2.2 = Str.empty := by
  rcases sp_split z with ⟨h1, _⟩ | ⟨a, b, h1, ha, _⟩
  · rw [par_none h1]
  · rw [par_some h1 ha] at h
    exfalso
    have := congrArg cod h
    rw [h1, codS] at this
    have := congrArg List.length this
    simp at this
def nms : Stp → List Str
  | .proc n => [n] | .take x => [x] | .inp x => [x] | .recv x s => [x, s] | .set x _ => [x] | .send p _ => [p] | _ => []
/-- a line's form as the law tells it -/
def formF (z : Str) (T : Option Tr) : Option (List Str) := (lineF z T).map fun s => s.word :: nms s
theorem kind_cases (w : Str) : (kindOf w = none ∧ oneL.contains w = false ∧ w ≠ "receive" ∧ w ≠ "set" ∧ w ≠ "send" ∧ w ≠ "if" ∧ w ≠ "while") ∨ (kindOf w = some ("n" : Str) ∧ oneL.contains w = true) ∨ (kindOf w = some ("nn" : Str) ∧ oneL.contains w = false ∧ w = "receive") ∨
    (kindOf w = some ("ne" : Str) ∧ oneL.contains w = false ∧ (w = "set" ∨ w = "send")) ∨ (kindOf w = some ("c" : Str) ∧ oneL.contains w = false ∧ (w = "if" ∨ w = "while")) := by
  by_cases h1 : oneL.contains w = true
  · refine .inr (.inl ⟨?_, h1⟩)
    have h2 : w = "process" ∨ w = "take" ∨ w = "input" := by simpa [oneL] using h1
    unfold kindOf
    rw [if_pos h2]
  · have h1' : oneL.contains w = false := Bool.eq_false_iff.mpr h1
    have h2 : ¬ (w = "process" ∨ w = "take" ∨ w = "input") := fun h => h1 (by simpa [oneL] using h)
    unfold kindOf
    rw [if_neg h2]
    by_cases h3 : w = "set" ∨ w = "send"
    · rw [if_pos h3]
      exact .inr (.inr (.inr (.inl ⟨rfl, h1', h3⟩)))
    rw [if_neg h3]
    by_cases h4 : w = "receive"
    · rw [if_pos h4]
      exact .inr (.inr (.inl ⟨rfl, h1', h4⟩))
    rw [if_neg h4]
    by_cases h5 : w = "if" ∨ w = "while"
    · rw [if_pos h5]
      exact .inr (.inr (.inr (.inr ⟨rfl, h1', h5⟩)))
    rw [if_neg h5]
    exact .inl ⟨rfl, h1', h4, fun h => h3 (.inl h), fun h => h3 (.inr h), fun h => h5 (.inl h), fun h => h5 (.inr h)⟩
section
variable {z : Str} {T : Option Tr}
theorem form_solo (h : soloL.contains z = true) : formF z T = some [z] := by
  unfold formF lineF
  rw [if_pos h]
  have h2 : z = "checkpoint" ∨ z = "else" ∨ z = "end" := by simpa [soloL] using h
  rcases h2 with rfl | rfl | rfl <;> rfl
theorem form_none (h : soloL.contains z = false) (k : kindOf (par z).1 = none) : formF z T = none := by
  unfold formF lineF
  rw [if_neg (by rw [h]; decide)]
  rcases kind_cases (par z).1 with ⟨_, k1, k2, k3, k4, k5, k6⟩ | ⟨k1, _⟩ | ⟨k1, _⟩ | ⟨k1, _⟩ | ⟨k1, _⟩
  · rw [if_neg (by rw [k1]; decide), if_neg k2, if_neg k3, if_neg k4, if_neg k5, if_neg k6]
    rfl
  all_goals rw [k] at k1; cases k1
theorem form_n (h : soloL.contains z = false) (k : oneL.contains (par z).1 = true) : formF z T = if isName (cod (par z).2.2) = true then some [(par z).1, (par z).2.2] else none := by
  unfold formF lineF
  rw [if_neg (by rw [h]; decide), if_pos k]
  have h2 : (par z).1 = "process" ∨ (par z).1 = "take" ∨ (par z).1 = "input" := by simpa [oneL] using k
  split
  · generalize (par z).1 = w at h2 ⊢
    rcases h2 with rfl | rfl | rfl <;> rfl
  · rfl
theorem form_nn (h : soloL.contains z = false) (k1 : oneL.contains (par z).1 = false) (k : (par z).1 = "receive") : formF z T = if isName (cod (par (par z).2.2).1) = true ∧ isName (cod (par (par z).2.2).2.2) = true then some [(par z).1, (par (par z).2.2).1, (par (par z).2.2).2.2] else none := by
  unfold formF lineF
  rw [if_neg (by rw [h]; decide), if_neg (by rw [k1]; decide), if_pos k, k]
  split <;> rfl
theorem form_ne (h : soloL.contains z = false) (k1 : oneL.contains (par z).1 = false) (k : (par z).1 = "set" ∨ (par z).1 = "send") : formF z T = if isName (cod (par (par z).2.2).1) = true then T.map (fun _ => [(par z).1, (par (par z).2.2).1]) else none := by
  unfold formF lineF
  rw [if_neg (by rw [h]; decide), if_neg (by rw [k1]; decide), if_neg (by rcases k with k | k <;> rw [k] <;> decide +kernel)]
  rcases k with k | k
  · rw [if_pos k, k]
    split
    · cases T <;> rfl
    · rfl
  · rw [if_neg (by rw [k]; decide +kernel), if_pos k, k]
    split
    · cases T <;> rfl
    · rfl
theorem form_c (h : soloL.contains z = false) (k1 : oneL.contains (par z).1 = false) (k : (par z).1 = "if" ∨ (par z).1 = "while") : formF z T = T.map (fun _ => [(par z).1]) := by
  unfold formF lineF
  rw [if_neg (by rw [h]; decide), if_neg (by rw [k1]; decide), if_neg (by rcases k with k | k <;> rw [k] <;> decide +kernel), if_neg (by rcases k with k | k <;> rw [k] <;> decide +kernel), if_neg (by rcases k with k | k <;> rw [k] <;> decide +kernel)]
  rcases k with k | k
  · rw [if_pos k, k]
    cases T <;> rfl
  · rw [if_neg (by rw [k]; decide +kernel), if_pos k, k]
    cases T <;> rfl
theorem arg_ne (k : (par z).1 = "set" ∨ (par z).1 = "send") : argC z = false ∧ argT z = (par (par z).2.2).2.2 := by
  have h : argC z = false := by unfold argC; rcases k with k | k <;> rw [k] <;> decide +kernel
  exact ⟨h, by unfold argT; rw [if_neg (by rw [h]; decide)]⟩
theorem arg_c (k : (par z).1 = "if" ∨ (par z).1 = "while") : argC z = true ∧ argT z = (par z).2.2 := by
  have h : argC z = true := by unfold argC; rcases k with k | k <;> rw [k] <;> decide +kernel
  exact ⟨h, by unfold argT; rw [if_pos h]⟩
theorem par_empty : par Str.empty = (Str.empty, Str.empty, Str.empty) := par_none (by decide +kernel)
theorem form_whole (hs : soloL.contains z = false) (hT : Rd (argC z) (argT z) T) (h : z = (par z).1) : formF z T = none := by
  have hr := par_eq h
  have hn : isName (cod Str.empty) = false := by decide +kernel
  rcases kind_cases (par z).1 with ⟨k1, _⟩ | ⟨_, k2⟩ | ⟨_, k2, k3⟩ | ⟨_, k2, k3⟩ | ⟨_, k2, k3⟩
  · exact form_none hs k1
  · rw [form_n hs k2, hr, if_neg (by rw [hn]; decide)]
  · rw [form_nn hs k2 k3, hr, par_empty, if_neg (by rw [hn]; simp)]
  · rw [form_ne hs k2 k3, hr, par_empty, if_neg (by rw [hn]; decide)]
  · obtain ⟨a1, a2⟩ := arg_c k3
    rw [a1, a2, hr] at hT
    rw [form_c hs k2 k3, empty_none hT]
    rfl
def nameOf (kd lft : Str) (ns : List Str) : Str := if cutS kd (some ((ns.length : Int) + 1)) none ≠ "" then (par lft).1 else lft
structure Stage (z : Str) (T : Option Tr) (kd : Str) (stage : Nat → Str → List Str → Prop) : Prop where
  s0 : stage 0 (par z).2.2 []
  sn : ∀ i lft ns, stage i lft ns → kd.cps[i]? = some 110 → (isName (cod (nameOf kd lft ns)) = true → stage (i + 1) (cutS lft (some (((nameOf kd lft ns).length : Int) + 1)) none) (ns ++ [nameOf kd lft ns])) ∧ (isName (cod (nameOf kd lft ns)) = false → formF z T = none)
  se : ∀ i lft ns c, stage i lft ns → kd.cps[i]? = some c → c ≠ 110 → ∃ cc : Bool, Txt.upper (S [c]) = (if cc = true then Sy.C else Sy.E).str ∧ Rd cc lft T ∧ (T = none → formF z T = none) ∧ (T ≠ none → stage (i + 1) lft ns)
  sd : ∀ lft ns, stage kd.cps.size lft ns → formF z T = some ((par z).1 :: ns)
  sl : ∀ i lft ns, stage i lft ns → lft.length ≤ 900 ∧ ns.length ≤ 2
theorem kd_facts : (("n" : Str).cps = #[110]) ∧ (("nn" : Str).cps = #[110, 110]) ∧ (("ne" : Str).cps = #[110, 101]) ∧ (("c" : Str).cps = #[99]) ∧ Txt.upper (S [101]) = Sy.E.str ∧ Txt.upper (S [99]) = Sy.C.str := by decide +kernel
theorem kd_cuts : ¬ (cutS "n" (some (((0 : Nat) : Int) + 1)) none ≠ "") ∧ cutS "nn" (some (((0 : Nat) : Int) + 1)) none ≠ "" ∧ ¬ (cutS "nn" (some (((1 : Nat) : Int) + 1)) none ≠ "") ∧ cutS "ne" (some (((0 : Nat) : Int) + 1)) none ≠ "" := by decide +kernel
theorem stage_ex {kd : Str} (hz : z.length ≤ 900) (hs : soloL.contains z = false) (hT : Rd (argC z) (argT z) T) (hk : kindOf (par z).1 = some kd) : ∃ stage, Stage z T kd stage := by
  obtain ⟨l1, l2⟩ := par_len z
  obtain ⟨l3, l4⟩ := par_len (par z).2.2
  obtain ⟨f1, f2, f3, f4, f5, f6⟩ := kd_facts
  obtain ⟨c1, c2, c3, c4⟩ := kd_cuts
  have cl : ∀ (x : Str) (o : Option Int), x.length ≤ 900 → (cutS x o none).length ≤ 900 := fun x o h => Nat.le_trans (cutS_len _ _ _) h
  rcases kind_cases (par z).1 with ⟨k1, _⟩ | ⟨k1, k2⟩ | ⟨k1, k2, k3⟩ | ⟨k1, k2, k3⟩ | ⟨k1, k2, k3⟩
  · rw [k1] at hk; cases hk
  · rw [k1] at hk
    injection hk with hk
    subst hk
    refine ⟨fun i lft ns => (i = 0 ∧ lft = (par z).2.2 ∧ ns = []) ∨ (i = 1 ∧ ns = [(par z).2.2] ∧ isName (cod (par z).2.2) = true ∧ lft.length ≤ 900), .inl ⟨rfl, rfl, rfl⟩, ?_, ?_, ?_, ?_⟩
    · rintro i lft ns (⟨rfl, rfl, rfl⟩ | ⟨rfl, _⟩) hc
      · have e : nameOf "n" (par z).2.2 [] = (par z).2.2 := by unfold nameOf; exact if_neg c1
        rw [e]
        exact ⟨fun h => .inr ⟨rfl, rfl, h, cl _ _ (by omega)⟩, fun h => by rw [form_n hs k2, if_neg (by rw [h]; decide)]⟩
      · rw [f1] at hc; cases hc
    · rintro i lft ns c (⟨rfl, rfl, rfl⟩ | ⟨rfl, _⟩) hc hne
      · rw [f1] at hc; injection hc with hc; exact absurd hc.symm hne
      · rw [f1] at hc; cases hc
    · rintro lft ns (⟨h, _⟩ | ⟨_, rfl, h, _⟩)
      · rw [f1] at h; cases h
      · rw [form_n hs k2, if_pos h]
    · rintro i lft ns (⟨rfl, rfl, rfl⟩ | ⟨rfl, rfl, _, h⟩)
      · exact ⟨by omega, by simp⟩
      · exact ⟨h, by simp⟩
  · rw [k1] at hk
    injection hk with hk
    subst hk
    refine ⟨fun i lft ns => (i = 0 ∧ lft = (par z).2.2 ∧ ns = []) ∨ (i = 1 ∧ lft = (par (par z).2.2).2.2 ∧ ns = [(par (par z).2.2).1] ∧ isName (cod (par (par z).2.2).1) = true) ∨ (i = 2 ∧ ns = [(par (par z).2.2).1, (par (par z).2.2).2.2] ∧ isName (cod (par (par z).2.2).1) = true ∧ isName (cod (par (par z).2.2).2.2) = true ∧ lft.length ≤ 900), .inl ⟨rfl, rfl, rfl⟩, ?_, ?_, ?_, ?_⟩
    · rintro i lft ns (⟨rfl, rfl, rfl⟩ | ⟨rfl, rfl, rfl, hn⟩ | ⟨rfl, _⟩) hc
      · have e : nameOf "nn" (par z).2.2 [] = (par (par z).2.2).1 := by unfold nameOf; exact if_pos c2
        rw [e, cut_par]
        exact ⟨fun h => .inr (.inl ⟨rfl, rfl, rfl, h⟩), fun h => by rw [form_nn hs k2 k3, if_neg (by rw [h]; simp)]⟩
      · have e : nameOf "nn" (par (par z).2.2).2.2 [(par (par z).2.2).1] = (par (par z).2.2).2.2 := by unfold nameOf; exact if_neg c3
        rw [e]
        exact ⟨fun h => .inr (.inr ⟨rfl, rfl, hn, h, cl _ _ (by omega)⟩), fun h => by rw [form_nn hs k2 k3, if_neg (by rw [h]; simp)]⟩
      · rw [f2] at hc; cases hc
    · rintro i lft ns c (⟨rfl, rfl, rfl⟩ | ⟨rfl, rfl, rfl, hn⟩ | ⟨rfl, _⟩) hc hne
      · rw [f2] at hc; injection hc with hc; exact absurd hc.symm hne
      · rw [f2] at hc; injection hc with hc; exact absurd hc.symm hne
      · rw [f2] at hc; cases hc
    · rintro lft ns (⟨h, _⟩ | ⟨h, _⟩ | ⟨_, rfl, h, h2, _⟩)
      · rw [f2] at h; cases h
      · rw [f2] at h; cases h
      · rw [form_nn hs k2 k3, if_pos ⟨h, h2⟩]
    · rintro i lft ns (⟨rfl, rfl, rfl⟩ | ⟨rfl, rfl, rfl, hn⟩ | ⟨rfl, rfl, _, _, h⟩)
      · exact ⟨by omega, by simp⟩
      · exact ⟨by omega, by simp⟩
      · exact ⟨h, by simp⟩
  · rw [k1] at hk
    injection hk with hk
    subst hk
    obtain ⟨a1, a2⟩ := arg_ne k3
    rw [a1, a2] at hT
    refine ⟨fun i lft ns => (i = 0 ∧ lft = (par z).2.2 ∧ ns = []) ∨ (i = 1 ∧ lft = (par (par z).2.2).2.2 ∧ ns = [(par (par z).2.2).1] ∧ isName (cod (par (par z).2.2).1) = true) ∨ (i = 2 ∧ ns = [(par (par z).2.2).1] ∧ isName (cod (par (par z).2.2).1) = true ∧ T ≠ none ∧ lft.length ≤ 900), .inl ⟨rfl, rfl, rfl⟩, ?_, ?_, ?_, ?_⟩
    · rintro i lft ns (⟨rfl, rfl, rfl⟩ | ⟨rfl, rfl, rfl, hn⟩ | ⟨rfl, _⟩) hc
      · have e : nameOf "ne" (par z).2.2 [] = (par (par z).2.2).1 := by unfold nameOf; exact if_pos c4
        rw [e, cut_par]
        exact ⟨fun h => .inr (.inl ⟨rfl, rfl, rfl, h⟩), fun h => by rw [form_ne hs k2 k3, if_neg (by rw [h]; decide)]⟩
      · rw [f3] at hc; cases hc
      · rw [f3] at hc; cases hc
    · rintro i lft ns c (⟨rfl, rfl, rfl⟩ | ⟨rfl, rfl, rfl, hn⟩ | ⟨rfl, _⟩) hc hne
      · rw [f3] at hc; injection hc with hc; exact absurd hc.symm hne
      · rw [f3] at hc
        injection hc with hc
        subst hc
        exact ⟨false, f5, hT, fun h => by rw [form_ne hs k2 k3, if_pos hn, h]; rfl, fun h => .inr (.inr ⟨rfl, rfl, hn, h, by omega⟩)⟩
      · rw [f3] at hc; cases hc
    · rintro lft ns (⟨h, _⟩ | ⟨h, _⟩ | ⟨_, rfl, h, h2, _⟩)
      · rw [f3] at h; cases h
      · rw [f3] at h; cases h
      · rw [form_ne hs k2 k3, if_pos h]
        cases T with
        | none => exact absurd rfl h2
        | some t => rfl
    · rintro i lft ns (⟨rfl, rfl, rfl⟩ | ⟨rfl, rfl, rfl, hn⟩ | ⟨rfl, rfl, _, _, h⟩)
      · exact ⟨by omega, by simp⟩
      · exact ⟨by omega, by simp⟩
      · exact ⟨h, by simp⟩
  · rw [k1] at hk
    injection hk with hk
    subst hk
    obtain ⟨a1, a2⟩ := arg_c k3
    rw [a1, a2] at hT
    refine ⟨fun i lft ns => (i = 0 ∧ lft = (par z).2.2 ∧ ns = []) ∨ (i = 1 ∧ ns = [] ∧ T ≠ none ∧ lft.length ≤ 900), .inl ⟨rfl, rfl, rfl⟩, ?_, ?_, ?_, ?_⟩
    · rintro i lft ns (⟨rfl, rfl, rfl⟩ | ⟨rfl, _⟩) hc
      · rw [f4] at hc; cases hc
      · rw [f4] at hc; cases hc
    · rintro i lft ns c (⟨rfl, rfl, rfl⟩ | ⟨rfl, _⟩) hc hne
      · rw [f4] at hc
        injection hc with hc
        subst hc
        exact ⟨true, f6, hT, fun h => by rw [form_c hs k2 k3, h]; rfl, fun h => .inr ⟨rfl, rfl, h, by omega⟩⟩
      · rw [f4] at hc; cases hc
    · rintro lft ns (⟨h, _⟩ | ⟨_, rfl, h2, _⟩)
      · rw [f4] at h; cases h
      · rw [form_c hs k2 k3]
        cases T with
        | none => exact absurd rfl h2
        | some t => rfl
    · rintro i lft ns (⟨rfl, rfl, rfl⟩ | ⟨rfl, rfl, _, h⟩)
      · exact ⟨by omega, by simp⟩
      · exact ⟨h, by simp⟩
end
end Rx

set_option Elab.async false
set_option linter.all false
set_option maxRecDepth 100000
set_option maxHeartbeats 1000000
namespace XE
open PySem PySem.Spec PyProof.Rows L2 Rx SX
abbrev sLineForm : Stmt := topS 59
def FormAt (H H' : Hp) (v : V) : Option (List Str) → Prop
  | none => v = .non
  | some ws => ∃ l, v = .ref l ∧ H l = none ∧ H' l = some (.lst (ws.map V.str))
theorem kind_len {w kd : Str} (h : Rx.kindOf w = some kd) : kd.length ≤ 2 := by
  have e : ∀ x ∈ (["n", "ne", "nn", "c"] : List Str), x.length ≤ 2 := by decide +kernel
  unfold Rx.kindOf at h
  refine e kd ?_
  split at h
  · injection h with h; rw [← h]; decide +kernel
  split at h
  · injection h with h; rw [← h]; decide +kernel
  split at h
  · injection h with h; rw [← h]; decide +kernel
  split at h
  · injection h with h; rw [← h]; decide +kernel
  · cases h
def spLineForm : Sp := fun vs H Q _ => ∃ (z : Str) (T : Option Tr), vs = [.str z] ∧ z.length ≤ 900 ∧ Rd (argC z) (argT z) T ∧ ∀ v H', Same H H' → FormAt H H' v (formF z T) → Q v H'
theorem dgetK {H : Hp} {a : Addr} {w : Str} {v : Option V} (e : valV kindK (Sum.inr w) = v) (h : H a = some (.dK kindK)) : DGet H a (.str w) v := by
  rw [← e]
  exact DGet.k (k := Sum.inr w) h
/-- a name as the law tests it -/
def keyArg (x : Str) : Str := x ++ Txt.mul " " (((if x = "" then 1 else 0 : Nat) : Nat) : Int)
theorem keyArg_is (x : Str) : cod (keyArg x) ≠ [] ∧ ((keyW (cod (keyArg x))).str = "name" ↔ isName (cod x) = true) ∧ (keyArg x).length ≤ x.length + 1 := by
  have e1 : cod " " = [32] := by decide +kernel
  unfold keyArg
  by_cases h : x = ""
  · subst h
    rw [if_pos rfl, mul_one]
    refine ⟨by decide +kernel, ?_, by decide +kernel⟩
    decide +kernel
  · rw [if_neg h, mul_zero]
    have e : x ++ S [] = x := by
      obtain ⟨a, rfl⟩ : ∃ a, x = S a := ⟨cod x, (str_cod x).symm⟩
      rw [S_cat, List.append_nil]
    rw [e]
    have hne : cod x ≠ [] := fun hx => h (by
      refine cod_inj ?_
      rw [hx]
      decide +kernel)
    exact ⟨hne, (sy_name _).trans (key_name hne), by omega⟩
theorem one_n (c : Nat) : decide (V.str ⟨#[c]⟩ = V.str "n") = decide (c = 110) := by
  rw [eqW, decide_eq_decide]
  have e : ("n" : Str) = ⟨#[110]⟩ := by decide +kernel
  rw [e]
  simp
section
variable {P : Program} {w : World} {K : PySem.W.Frag} {mg : Str → Option Value} {base : Heap} {CP C : Addr}
abbrev lfN : List Str := ["_law_line", "_law_word", "_law_kinds", "_law_left", "_law_names", "_law_kind", "_law_name"]
theorem scLf : FnScope lfN ["_law_line"] (defScope sLineForm) := ⟨rfl, rfl, rfl, by decide +kernel, rfl, by decide +kernel, by decide +kernel⟩
theorem ok_lineForm {f fY fZ fS : Addr} {fd fdY fdZ fdS : FuncData} (F : Fun K "_law_line_form" "_law_line_form" sLineForm f fd) (TX : TxtX K mg) (CY : Cal P w K mg base 2 "_law_key" fY fdY ["_law_word"] spKey) (CZ : Cal P w K mg base 2 "_law_stop" fZ fdZ ["_law_start", "_law_some", "_law_length"] spStop) (CS : Cal P w K mg base 3 "_law_scan" fS fdS ["_law_text"] spScan) :
    FnOk P w K mg base CX0 4 f fd ["_law_line"] spLineForm := by
  refine F.ok scLf (fun vs H Q E h => ?_) (fun cdv A outer s H vs Q E hr h => ?_)
  · obtain ⟨_, _, rfl, _⟩ := h
    rfl
  · obtain ⟨z, T, rfl, hz, hT, k⟩ := h
    have hu := hu_of hr
    have hr2 : Room 2 _ := hr.mono (by decide)
    refine ⟨_, (pss_cons (ps_set (i := 1) scLf.nd rfl (.inl rfl) (pe_ix ix_list (pe_split (pv 0) pe_str) pe_int (fun _ _ => rfl))) (pss_cons (ps_if (pt_cmpR op_in_seq (pv 0) (pe_tup (pa_cons pe_str (pa_cons pe_str (pa_cons pe_str pa_nil)))) rfl) (pss_one (ps_ret (pe_lst (pa_cons (pv 0) pa_nil)))) pss_nil) (pss_cons (ps_set (i := 2) scLf.nd rfl (.inl rfl) (pe_disp (pps_cons pe_str pe_str (pps_cons pe_str pe_str (pps_cons pe_str pe_str (pps_cons pe_str pe_str (pps_cons pe_str pe_str (pps_cons pe_str pe_str pps_nil)))))) (by rfl) (by rfl) (fun z => by cases z) (by decide))) (pss_cons (ps_expr (pe_bm PySem.F.plainAttrs_dict PySem.F.slot_dict_update PySem.F.type_dict_update mt_updateK (pv 2) (pa_cons (pe_disp (pps_cons pe_str pe_str (pps_cons pe_str pe_str pps_nil)) (by rfl) (by rfl) (fun z => by cases z) (by decide)) pa_nil))) (pss_cons (ps_if (PW.pt (pw_or (pt_cmp (pc_dnotin hu (pv 1) (pv 2))) (pw_or1 (pt_cmpR op_eq (pv 0) (pv 1) (nomark _))))) (pss_one (ps_ret pe_non)) pss_nil) (pss_cons (ps_set (i := 3) scLf.nd rfl (.inl rfl) (pe_slice sl_str (pv 0) (po_some (pe_op op_add (pe_callB call_len_str (by rfl) TX.len PySem.boot_len (pa_cons (pv 1) pa_nil)) pe_int)) po_none)) (pss_cons (ps_set (i := 4) scLf.nd rfl (.inl rfl) (pe_lst pa_nil)) (pss_cons (ps_for PassesOwn.never rfl (pi_str (pe_dget hu (pv 2) (pv 1) (fun _ _ => rfl))) (pg_name (i := 5) scLf.nd rfl (.inl rfl)) (pss_one (ps_if (pt_cmpR op_eq (pv 5) pe_str (nomark _)) (C8.pss_cut (ps_set (i := 6) scLf.nd rfl (.inl rfl) (pe_ifExp (pt_cmpR op_ne (pe_slice sl_str (pe_dget hu (pv 2) (pv 1) (fun _ _ => rfl)) (po_some (pe_op op_add (pe_callB call_len_seq (by rfl) TX.len PySem.boot_len (pa_cons (pv 4) pa_nil)) pe_int)) po_none) pe_str (nomark _)) (pe_ix ix_list (pe_split (pv 3) pe_str) pe_int (fun _ _ => rfl)) (pv 3))) (pss_cons (ps_if (pt_cmpR op_ne (pe_call CY.ok hr2 rfl CY.mg CY.kp CY.bi .nil pass0 (pa_cons (pe_op op_add_str (pv 6) (pe_op op_mulS pe_str (pe_callTy call_int1 (by rfl) TX.int_ (by decide +kernel) (pa_cons (pe_cmpR op_eq (pv 6) pe_str (nomark _)) pa_nil)))) pa_nil)) pe_str (nomark _)) (pss_one (ps_ret pe_non)) pss_nil) (pss_cons (ps_expr (pe_bm PySem.F.plainAttrs_list PySem.F.slot_list_append PySem.F.type_list_append mt_append (pv 4) (pa_cons (pv 6) pa_nil))) (pss_one (ps_set (i := 3) scLf.nd rfl (.inl rfl) (pe_slice sl_str (pv 3) (po_some (pe_op op_add (pe_callB call_len_str (by rfl) TX.len PySem.boot_len (pa_cons (pv 6) pa_nil)) pe_int)) po_none)))))) (pss_one (ps_if (pt_cmpR op_notN (pe_call CZ.ok hr2 rfl CZ.mg CZ.kp CZ.bi .nil pass0 (pa_cons (pe_upper (pv 5)) (pa_cons (pe_call CS.ok hr rfl CS.mg CS.kp CS.bi .nil pass0 (pa_cons (pv 3) pa_nil)) (pa_cons (pe_callB call_len_str (by rfl) TX.len PySem.boot_len (pa_cons (pv 3) pa_nil)) pa_nil)))) pe_non (nomark _)) (pss_one (ps_ret pe_non)) pss_nil))))) (pss_one (ps_ret (pe_op op_cat (pe_lst (pa_cons (pv 1) pa_nil)) (pv 4)))))))))))), ?_⟩
    obtain ⟨l1, l2⟩ := par_len z
    obtain ⟨l3, l4⟩ := par_len (par z).2.2
    have fits : ∀ n, n ≤ 1000 → n ≤ sizeLine := fun n h => Nat.le_trans h (by decide)
    obtain ⟨spl, hsp⟩ := split_head0 z
    refine ⟨_, rfl, ⟨_, rfl⟩, z, " ", rfl, rfl, by decide +kernel, fits _ (by omega), fun p0 np0 => ⟨p0, _, _, .str (par z).1, rfl, rfl, SqL.of upd_same, by rw [hsp]; exact at0, ?_⟩⟩
    have s1 : Same H (upd H p0 (.lst ((Txt.split z " ").map V.str))) := same_new np0
    generalize upd H p0 (.lst ((Txt.split z " ").map V.str)) = H1 at s1 ⊢
    refine ⟨_, rfl, (by show 3 ≤ sizeLine; decide), fun q nq => ⟨q, soloL.map V.str, rfl, .inr (SqT.of upd_same), rfl, flat_strs _, _, rfl, ?_⟩⟩
    have s2 : Same H (upd H1 q (.tup [V.str "checkpoint", V.str "else", V.str "end"])) := s1.trans (same_new nq)
    generalize upd H1 q (.tup [V.str "checkpoint", V.str "else", V.str "end"]) = H2 at s2 ⊢
    have hinv : inV (.str z) (soloL.map V.str) = soloL.contains z := inV_strs _ _
    cases hs : soloL.contains z with
    | true =>
      rw [form_solo hs] at k
      exact iteTc (by rw [if_neg (by decide), hinv, hs]) ⟨_, rfl, (by show 1 ≤ sizeLine; decide), fun l nl => k _ _ (s2.trans (same_new nl)) ⟨l, rfl, s2.free nl, upd_same⟩⟩
    | false =>
    refine iteFc (by rw [if_neg (by decide), hinv, hs]) ?_
    refine fun d nd => ⟨upd_same, kind6, rfl, (by show 6 ≤ 15; decide), ?_⟩
    refine ⟨_, rfl, .inr (.inr (.inl ⟨rfl, .inl ⟨_, upd_same⟩⟩)), fun p2 np2 => ⟨upd_same, kind2, rfl, (by show 2 ≤ 15; decide), ?_⟩⟩
    have hdn : H d = none := s2.free nd
    have s3 : Same H (upd (upd H2 d (.dK [])) d (.dK (mergeK [] kind6))) := same_upd0 (same_upd0 s2 hdn) hdn
    have hp2n : H p2 = none := s3.free np2
    have dp2 : d ≠ p2 := ne_of_none upd_same np2
    refine ⟨d, p2, mergeK [] kind6, mergeK [] kind2, rfl, rfl, dp2, by rw [upd_ne dp2, upd_ne dp2, upd_same], upd_same, Nat.le_trans (Nat.add_le_add (length_mergeK _ _) (length_mergeK _ _)) (by show 0 + 6 + (0 + 2) ≤ sizeLine; decide), ?_⟩
    have s4 : Same H (upd (upd (upd (upd (upd H2 d (.dK [])) d (.dK (mergeK [] kind6))) p2 (.dK [])) p2 (.dK (mergeK [] kind2))) d (.dK kindK)) := same_upd0 (same_upd0 (same_upd0 s3 hp2n) hp2n) hdn
    have hk4 : upd (upd (upd (upd (upd H2 d (.dK [])) d (.dK (mergeK [] kind6))) p2 (.dK [])) p2 (.dK (mergeK [] kind2))) d (.dK kindK) d = some (.dK kindK) := upd_same
    have gen : ∀ {Hz : Hp} {G : Hp → Prop}, Hz = upd (upd (upd (upd (upd H2 d (.dK [])) d (.dK (mergeK [] kind6))) p2 (.dK [])) p2 (.dK (mergeK [] kind2))) d (.dK kindK) → G Hz → G (upd (upd (upd (upd (upd H2 d (.dK [])) d (.dK (mergeK [] kind6))) p2 (.dK [])) p2 (.dK (mergeK [] kind2))) d (.dK kindK)) := fun e g => e ▸ g
    have hkd : upd (upd (upd (upd (upd H2 d (.dK [])) d (.dK (mergeK [] kind6))) p2 (.dK [])) p2 (.dK (mergeK [] kind2))) d (.dK (mergeK (mergeK [] kind6) (mergeK [] kind2))) = upd (upd (upd (upd (upd H2 d (.dK [])) d (.dK (mergeK [] kind6))) p2 (.dK [])) p2 (.dK (mergeK [] kind2))) d (.dK kindK) := rfl
    rw [← hkd] at s4 hk4
    generalize upd (upd (upd (upd (upd H2 d (.dK [])) d (.dK (mergeK [] kind6))) p2 (.dK [])) p2 (.dK (mergeK [] kind2))) d (.dK (mergeK (mergeK [] kind6) (mergeK [] kind2))) = H4 at s4 hk4 ⊢
    clear gen hkd
    refine ⟨_, rfl, _, rfl, d, _, rfl, dgetK (kind_get _) hk4, _, rfl, ?_⟩
    cases hkd : kindOf (par z).1 with
    | none => exact iteTc rfl (k _ _ s4 (by rw [form_none hs hkd]; rfl))
    | some kd =>
    refine iteFc rfl ⟨_, rfl, _, rfl, rfl, _, rfl, ?_⟩
    rw [eqW]
    by_cases hw : z = (par z).1
    · exact iteTc (decide_eq_true hw) (k _ _ s4 (by rw [form_whole hs hT hw]; rfl))
    refine iteFc (decide_eq_false hw) ⟨_, rfl, _, rfl, (par z).1, rfl, fits _ (by omega), _, _, rfl, rfl, _, rfl, z, rfl, fits _ (by omega), (by show 0 ≤ sizeLine; decide), fun N nN => ?_⟩
    rw [cut_par]
    have s5 : Same H (upd H4 N (.lst [])) := s4.trans (same_new nN)
    have hk5 : upd H4 N (.lst []) d = some (.dK kindK) := same_new nN _ _ hk4
    have hN5 : upd H4 N (.lst []) N = some (.lst []) := upd_same
    have hNn : H N = none := s4.free nN
    have dN : d ≠ N := ne_of_none hk4 nN
    generalize upd H4 N (.lst []) = H5 at s5 hk5 hN5 ⊢
    have hget : ∀ Hz, Hz d = some (.dK kindK) → DGet Hz d (.str (par z).1) (some (.str kd)) := fun Hz h => dgetK (by rw [kind_get, hkd]; rfl) h
    refine ⟨_, rfl, _, rfl, d, .str kd, rfl, hget _ hk5, kd, rfl, ?_⟩
    obtain ⟨stage, hst⟩ := stage_ex hz hs hT hkd
    have hkl := kind_len hkd
    refine for_it walk_str (fun i σ Hx => ∃ (x5 x6 : Option V) (lft : Str) (ns : List Str), σ = [some (.str z), some (.str (par z).1), some (.ref d), some (.str lft), some (.ref N), x5, x6] ∧ Hx d = some (.dK kindK) ∧ Hx N = some (.lst (ns.map V.str)) ∧ Same H Hx ∧ stage i lft ns)
      ⟨none, none, _, [], rfl, hk5, hN5, s5, hst.s0⟩ (fun _ _ _ _ _ => trivial) ?_ ?_
    · rintro i x σ Hx H' hi ⟨x5, x6, lft, ns, rfl, hkx, hNx, sx, hsg⟩ ⟨rfl, c, hc, rfl⟩
      obtain ⟨hl9, hn2⟩ := hst.sl _ _ _ hsg
      refine ⟨_, rfl, rfl, _, rfl, ?_⟩
      rw [one_n]
      by_cases h110 : c = 110
      · subst h110
        obtain ⟨y1, y2⟩ := hst.sn _ _ _ hsg hc
        refine iteTc (decide_eq_true rfl) ?_
        refine ⟨fun σ Hy => σ = [some (.str z), some (.str (par z).1), some (.ref d), some (.str lft), some (.ref N), some (.str ⟨#[110]⟩), some (.str (nameOf kd lft ns))] ∧ Same H' Hy, ?_, ?_⟩
        · refine ⟨_, rfl, _, rfl, d, .str kd, rfl, hget _ hkx, _, rfl, N, _, rfl, .inl (SqL.of hNx), _, _, rfl, rfl, _, rfl, kd, rfl, fits _ (by omega), rfl, _, rfl, ?_⟩
          unfold nameOf
          rw [show ((ns.map V.str).length : Int) = (ns.length : Int) by rw [List.length_map]]
          by_cases hcut : cutS kd (some ((ns.length : Int) + 1)) none ≠ ""
          · rw [if_pos hcut]
            obtain ⟨spl2, hsp2⟩ := split_head0 lft
            exact iteTc (by rw [eqW, decide_eq_false hcut]; rfl) ⟨_, rfl, ⟨_, rfl⟩, lft, " ", rfl, rfl, by decide +kernel, fits _ (by omega), fun p np => ⟨p, _, _, .str (par lft).1, rfl, rfl, SqL.of upd_same, by rw [hsp2]; exact at0, rfl, same_new np⟩⟩
          · rw [if_neg hcut]
            exact iteFc (by rw [eqW, decide_eq_true (Classical.not_not.mp hcut)]; rfl) ⟨_, rfl, rfl, fun _ _ h => h⟩
        rintro σ Hy ⟨rfl, sy⟩
        have hnl : (nameOf kd lft ns).length ≤ 900 := by
          unfold nameOf
          split
          · exact Nat.le_trans (par_len lft).1 hl9
          · exact hl9
        obtain ⟨ka1, ka2, ka3⟩ := keyArg_is (nameOf kd lft ns)
        generalize nameOf kd lft ns = nm at *
        have hint : V.int (if decide (V.str nm = V.str "") = true then 1 else 0) = V.int (((if nm = "" then 1 else 0 : Nat) : Nat) : Int) := by
          rw [eqW]
          by_cases h : nm = "" <;> simp [h]
        have kid : ∀ {A B : Prop}, (isName (cod nm) = false → A) → (isName (cod nm) = true → B) → (if (!decide (V.str (keyW (cod (keyArg nm))).str = V.str "name")) = true then A else B) := fun ha hb => by
          rw [eqW]
          cases hn : isName (cod nm) with
          | false => exact iteTc (by rw [decide_eq_false (fun h => by rw [ka2.mp h] at hn; cases hn)]; rfl) (ha hn)
          | true => exact iteFc (by rw [decide_eq_true (ka2.mpr hn)]; rfl) (hb hn)
        refine ⟨_, rfl, _, rfl, rfl, .inr ⟨_, rfl, " ", _, rfl, hint, by decide +kernel, by split <;> decide, _, _, rfl, rfl, ?_, keyArg nm, rfl, by omega, ka1, fun Hk sk => ⟨rfl, _, rfl, ?_⟩⟩⟩
        · refine fits _ ?_
          have h1 : (" " : Str).length = 1 := by decide +kernel
          by_cases h : nm = ""
          · rw [if_pos h, mul_one]; omega
          · rw [if_neg h, mul_zero]
            have : (S []).length = 0 := rfl
            omega
        have syk := (sx.trans sy).trans sk
        refine kid (fun hn => k _ _ syk (by rw [y2 hn]; rfl)) (fun hn => ?_)
        have hNk := sk _ _ (sy _ _ hNx)
        refine ⟨_, rfl, .inl ⟨rfl, _, SqL.of hNk⟩, _, rfl, N, _, _, rfl, rfl, hNk, by rw [List.length_map]; exact Nat.lt_of_le_of_lt hn2 (by decide), _, rfl, _, rfl, nm, rfl, fits _ (by omega), _, _, rfl, rfl, _, rfl, lft, rfl, fits _ (by omega), ?_⟩
        refine ⟨_, _, _, ns ++ [nm], rfl, ?_, by rw [upd_same, List.map_append]; rfl, same_upd0 syk hNn, y1 hn⟩
        rw [upd_ne dN]
        exact sk _ _ (sy _ _ hkx)
      · refine iteFc (decide_eq_false h110) ?_
        obtain ⟨cc, hup, hRd, hno, hyes⟩ := hst.se _ _ _ _ hsg hc h110
        have hcl : (⟨#[c]⟩ : Str).length = 1 := rfl
        refine ⟨_, rfl, ⟨_, rfl⟩, ⟨#[c]⟩, rfl, rfl, by rw [hcl]; decide, _, rfl, lft, rfl, by omega, fun Ha l ws ks sa nl hl hk hsc hkl => ?_⟩
        have hkeys : Keys (toks (cod lft)) (ks ++ [(.end_, lft.length)]) := by rw [hsc]; exact scan_keys _ _ _
        have hcomes : Comes cc (cod lft) (stopL [if cc = true then Sy.C else Sy.E] (ks ++ [(.end_, lft.length)])) := comes_keys hkeys
        have hvs : [V.str (Txt.upper ⟨#[c]⟩), V.ref l, V.int (lft.length : Nat)] = [V.str (if cc = true then Sy.C else Sy.E).str, V.ref l, V.int (lft.length : Nat)] := by
          have : Txt.upper ⟨#[c]⟩ = (if cc = true then Sy.C else Sy.E).str := hup
          rw [this]
        refine ⟨_, rfl, lft, rfl, fits _ (by omega), (if cc = true then Sy.C else Sy.E), l, lft.length, ws, ks, hvs, hl, hk, by omega, fun x hx => hkeys.terms x (List.mem_append_left _ hx), runs_start hkeys cc, fun Hb sb => ⟨rfl, _, rfl, ?_⟩⟩
        obtain ⟨due, hdue, hiff⟩ := rd_comes hRd
        have e := comes_uniq hcomes hdue
        have sxb := (sx.trans sa).trans sb
        rw [e]
        cases due with
        | some q =>
          have hT0 : T = none := by
            cases T with
            | none => rfl
            | some t => have := hiff.mpr (by simp); cases this
          exact iteTc (by simp [optV]) (k _ _ sxb (by rw [hno hT0]; rfl))
        | none =>
          exact iteFc (by simp [optV]) ⟨_, _, _, _, rfl, sb _ _ (sa _ _ hkx), sb _ _ (sa _ _ hNx), sxb, hyes (hiff.mp rfl)⟩
    · rintro σ Hx ⟨x5, x6, lft, ns, rfl, hkx, hNx, sx, hsg⟩
      have hfo := hst.sd _ _ hsg
      obtain ⟨_, hn2⟩ := hst.sl _ _ _ hsg
      rw [hfo] at k
      refine ⟨_, rfl, (by show 1 ≤ sizeLine; decide), fun L nL => ⟨_, rfl, L, N, _, _, rfl, rfl, upd_same, same_new nL _ _ hNx, by simp only [List.length_map, List.length_cons, List.length_nil]; exact fits _ (by omega), fun r nr => k _ _ ((sx.trans (same_new nL)).trans (same_new nr)) ⟨r, rfl, (sx.trans (same_new nL)).free nr, upd_same⟩⟩⟩
end
end XE

set_option Elab.async false
set_option linter.all false
set_option maxRecDepth 100000
set_option maxHeartbeats 1000000
namespace XE
open PySem PySem.Spec PyProof.Rows L2 Rx SX
abbrev sBlockDue : Stmt := topS 60
abbrev sNameDue : Stmt := topS 61
def formS (s : Stp) : List Str := s.word :: nms s
def LsAt (H : Hp) : List Addr → List Stp → Prop
  | l :: ls, s :: ss => H l = some (.lst ((formS s).map V.str)) ∧ LsAt H ls ss
  | [], [] => True
  | _, _ => False
def FormsAt (H : Hp) (F : Addr) (ss : List Stp) : Prop := ∃ ls : List Addr, H F = some (.lst (ls.map V.ref)) ∧ LsAt H ls ss
theorem LsAt.same {H H' : Hp} (s : Same H H') : ∀ {ls : List Addr} {ss : List Stp}, LsAt H ls ss → LsAt H' ls ss
  | _ :: _, _ :: _, ⟨a, h⟩ => ⟨s _ _ a, LsAt.same s h⟩
  | [], [], _ => trivial
  | _ :: _, [], h => h.elim
  | [], _ :: _, h => h.elim
theorem LsAt.get {H : Hp} : ∀ {ls : List Addr} {ss : List Stp} {i : Nat} {s : Stp}, LsAt H ls ss → ss[i]? = some s → ∃ l, ls[i]? = some l ∧ H l = some (.lst ((formS s).map V.str))
  | l :: _, _ :: _, 0, s, ⟨a, _⟩, e => by simp at e; subst e; exact ⟨l, rfl, a⟩
  | _ :: _, _ :: _, i + 1, s, ⟨_, h⟩, e => by simp only [List.getElem?_cons_succ] at e ⊢; exact LsAt.get h e
  | [], [], _, _, _, e => by simp at e
  | _ :: _, [], _, _, h, _ => h.elim
  | [], _ :: _, _, _, h, _ => h.elim
theorem LsAt.len {H : Hp} : ∀ {ls : List Addr} {ss : List Stp}, LsAt H ls ss → ls.length = ss.length
  | _ :: _, _ :: _, ⟨_, h⟩ => by rw [List.length_cons, List.length_cons, h.len]
  | [], [], _ => rfl
  | _ :: _, [], h => h.elim
  | [], _ :: _, h => h.elim
theorem shStrs2 (ns : List Str) (h : ∀ n ∈ ns, PyData.strOk n = true) : SeqAt.shaped (.list (ns.map PyData.str)) = true := by
  have h1 : ∀ ns : List Str, (∀ n ∈ ns, PyData.strOk n = true) → PyData.canLayAll0 (ns.map PyData.str) = true ∧ PyData.depthAll (ns.map PyData.str) = 0 := by
    intro ns
    induction ns with
    | nil => intro _; simp [PyData.canLayAll0, PyData.depthAll]
    | cons n ns ih =>
      intro h
      obtain ⟨i1, i2⟩ := ih fun x hx => h x (by simp [hx])
      simp [PyData.canLayAll0, PyData.depthAll, PyData.canLay0, PyData.depth, i1, i2, h n (by simp)]
  simp [SeqAt.shaped, PyData.canLay0, PyData.depth, (h1 ns h).1, (h1 ns h).2]
theorem dpStrs2 {K : PySem.W.Frag} (H : Hp) : ∀ ns : List Str, DpAll K H (ns.map V.str) (ns.map PyData.str)
  | [] => .nil
  | x :: r => .cons (.str x) (dpStrs2 H r)
theorem blk_ok : ∀ x ∈ blkL, PyData.strOk x = true := by decide +kernel
theorem eqv_nil2 (l : List Str) : PyData.eqv (.list (l.map PyData.str)) (.list []) = l.isEmpty := by
  refine (eqv_strs2 l []).trans ?_
  cases l <;> simp
theorem blkF_first {s : Stp} {r : List Stp} (h : s.word ≠ "process") : blkF 0 [] (s :: r) = some 0 := by
  rw [blkF_cons, if_pos (.inl ⟨rfl, h⟩)]
def spBlockDue : Sp := fun vs H Q _ => ∃ (F : Addr) (ss : List Stp), vs = [.ref F] ∧ FormsAt H F ss ∧ ss.length ≤ 400 ∧ ∀ H', Same H H' → Q (optV (blkF 0 [] ss)) H'
def wrongK (a b c d e : V) : List (Key × V) := mergeK (mergeK [] [(.inr "process", a), (.inr "else", b), (.inr "end", c)]) (mergeK [] [(.inr "if", d), (.inr "while", e)])
theorem wrong_get (w : Str) (bs : List Str) : (valV (wrongK (.bl (!bs.isEmpty)) (.bl (!decide (bs.head? = some ("if" : Str)))) (.bl bs.isEmpty) (.bl (decide (19 < bs.length))) (.bl (decide (19 < bs.length)))) (Sum.inr w)).getD (.bl false) = .bl (!fitsW w bs) := by
  unfold wrongK
  rw [mergeK_nil (more := [(Sum.inr "if", _), (Sum.inr "while", _)]) (show ([.inr "if", .inr "while"] : List Key).Nodup by decide +kernel)]
  have inj : ∀ s : Str, ((Sum.inr w : Key) = Sum.inr s) ↔ w = s := fun s => ⟨fun h => by injection h, fun h => by rw [h]⟩
  simp only [mergeK, List.foldl_cons, List.foldl_nil, valV_put, inj]
  unfold fitsW
  have hlt : decide (19 < bs.length) = !decide (bs.length < 20) := by
    rw [← decide_not, decide_eq_decide]; omega
  by_cases a0 : w = "while"
  · subst a0
    rw [if_pos rfl, if_neg (by decide +kernel), if_pos (.inr rfl), hlt]
    rfl
  by_cases a1 : w = "if"
  · subst a1
    rw [if_neg a0, if_pos rfl, if_neg (by decide +kernel), if_pos (.inl rfl), hlt]
    rfl
  by_cases a2 : w = "end"
  · subst a2
    rw [if_neg a0, if_neg a1, if_pos rfl, if_neg (by decide +kernel), if_neg (by decide +kernel), if_neg (by decide +kernel)]
    cases bs <;> rfl
  by_cases a3 : w = "else"
  · subst a3
    rw [if_neg a0, if_neg a1, if_neg a2, if_pos rfl, if_neg (by decide +kernel), if_neg (by decide +kernel), if_pos rfl]
    rfl
  by_cases a4 : w = "process"
  · subst a4
    rw [if_neg a0, if_neg a1, if_neg a2, if_neg a3, if_pos rfl, if_pos rfl]
    rfl
  rw [if_neg a0, if_neg a1, if_neg a2, if_neg a3, if_neg a4, if_neg a4, if_neg (fun h => h.elim a1 a0), if_neg a3]
  rw [decide_eq_true a2]
  rfl
section
variable {P : Program} {w : World} {K : PySem.W.Frag} {mg : Str → Option Value} {base : Heap} {CP C : Addr}
abbrev bdN : List Str := ["_law_forms", "_law_open_words", "_law_k", "_law_word", "_law_inside", "_law_wrong"]
theorem scBD : FnScope bdN ["_law_forms"] (defScope sBlockDue) := ⟨rfl, rfl, rfl, by decide +kernel, rfl, by decide +kernel, by decide +kernel⟩
theorem ok_blockDue {f : Addr} {fd : FuncData} (F : Fun K "_law_block_due" "_law_block_due" sBlockDue f fd) (mlen : mg "len" = none) (mrange : mg "range" = none) : FnOk P w K mg base CX0 1 f fd ["_law_forms"] spBlockDue := by
  refine F.ok scBD (fun vs H Q E h => ?_) (fun cdv A outer s H vs Q E hr h => ?_)
  · obtain ⟨_, _, rfl, _⟩ := h
    rfl
  · obtain ⟨F0, ss, rfl, ⟨ls, hF, hls⟩, hlen, k⟩ := h
    have hu := hu_of hr
    refine ⟨_, (pss_cons (ps_set (i := 1) scBD.nd rfl (.inl rfl) (pe_lst pa_nil)) (pss_cons (ps_for PassesOwn.never rfl (pi_range1 rfl mrange (pa_cons (pe_callB call_len_seq (by rfl) mlen PySem.boot_len (pa_cons (pv 0) pa_nil)) pa_nil)) (pg_name (i := 2) scBD.nd rfl (.inl rfl)) (pss_cons (ps_set (i := 3) scBD.nd rfl (.inl rfl) (pe_ix ix_list (pe_ix ix_list (pv 0) (pv 2) (fun _ _ => rfl)) pe_int (fun _ _ => rfl))) (pss_cons (ps_set (i := 4) scBD.nd rfl (.inl rfl) (pe_cmpR (op_neD hr.units) (pv 1) (pe_lst pa_nil) (nomark _))) (pss_cons (ps_set (i := 5) scBD.nd rfl (.inl rfl) (pe_disp (pps_cons pe_str (pv 4) (pps_cons pe_str (pe_cmpR (op_neD hr.units) (pe_slice sl_list (pv 1) (po_some (pe_un un_neg pe_int)) po_none) (pe_lst (pa_cons pe_str pa_nil)) (nomark _)) (pps_cons pe_str (pe_not (pv 4)) pps_nil))) (by rfl) (by rfl) (fun z => by cases z) (by decide))) (pss_cons (ps_expr (pe_bm PySem.F.plainAttrs_dict PySem.F.slot_dict_update PySem.F.type_dict_update mt_updateK (pv 5) (pa_cons (pe_disp (pps_cons pe_str (pe_cmpR op_gt (pe_callB call_len_seq (by rfl) mlen PySem.boot_len (pa_cons (pv 1) pa_nil)) pe_int (nomark _)) (pps_cons pe_str (pe_cmpR op_gt (pe_callB call_len_seq (by rfl) mlen PySem.boot_len (pa_cons (pv 1) pa_nil)) pe_int (nomark _)) pps_nil)) (by rfl) (by rfl) (fun z => by cases z) (by decide)) pa_nil))) (pss_cons (ps_if (PW.pt (pw_or (pt_val (pe_dget2 hu (pv 5) (pv 3) pe_bl ⟨rfl, rfl, rfl, rfl⟩)) (pw_or1 (pt_cmpR op_ne (pe_ix ix_list (pe_ix ix_list (pv 0) pe_int (fun _ _ => rfl)) pe_int (fun _ _ => rfl)) pe_str (nomark _))))) (pss_one (ps_ret (pv 2))) pss_nil) (pss_cons (ps_if (pt_cmpR op_in_seq (pv 3) (pe_tup (pa_cons pe_str (pa_cons pe_str pa_nil))) rfl) (pss_one (ps_expr (pe_bm PySem.F.plainAttrs_list PySem.F.slot_list_append PySem.F.type_list_append mt_append (pv 1) (pa_cons (pv 3) pa_nil)))) pss_nil) (pss_cons (ps_if (pt_cmpR op_eq (pv 3) pe_str (nomark _)) (pss_one (ps_asg pe_str (pg_sub (pv 1) (pe_un un_neg pe_int) set_list))) pss_nil) (pss_one (ps_if (pt_cmpR op_eq (pv 3) pe_str (nomark _)) (pss_one (ps_expr (pe_bm0 PySem.F.plainAttrs_list PySem.F.slot_list_pop PySem.F.type_list_pop mt_pop (pv 1)))) pss_nil)))))))))) (pss_one (ps_ret (pe_ifExp (pt_cmpR (op_neD hr.units) (pv 1) (pe_lst pa_nil) (nomark _)) (pe_callB call_len_seq (by rfl) mlen PySem.boot_len (pa_cons (pv 0) pa_nil)) pe_non))))), ?_⟩
    have hll := hls.len
    refine ⟨(by show 0 ≤ sizeLine; decide), fun O nO => ?_⟩
    have s0 := same_new (o := .lst []) nO
    refine ⟨_, rfl, F0, _, rfl, .inl (SqL.of (s0 _ _ hF)), ?_⟩
    rw [List.length_map, hll]
    refine ⟨_, rfl, by omega, by omega, for_range (lo := 0) (n := ss.length) (fun i σ Hx => ∃ (x2 x3 x4 x5 : Option V) (bs : List Str), σ = [some (.ref F0), some (.ref O), x2, x3, x4, x5] ∧ Hx O = some (.lst (bs.reverse.map V.str)) ∧ (∀ x ∈ bs, x ∈ blkL) ∧ bs.length ≤ i ∧ blkF 0 [] ss = blkF i bs (ss.drop i) ∧ Same H Hx ∧ (∀ s0 : Stp, ss[0]? = some s0 → i ≠ 0 → s0.word = ("process" : Str)))
      ⟨none, none, none, none, [], rfl, upd_same, (fun _ h => by cases h), Nat.le_refl _, rfl, s0, fun _ _ h => absurd rfl h⟩ ?_ ?_⟩
    · rintro i σ Hx hi ⟨x2, x3, x4, x5, bs, rfl, hO, hbl, hbn, hBF, sm, hpr⟩
      have hsi : ss[i]? = some ss[i] := List.getElem?_eq_getElem hi
      generalize ss[i] = s at hsi
      obtain ⟨l1, hl1, hl2⟩ := hls.get hsi
      have hdrop : ss.drop i = s :: ss.drop (i + 1) := by
        obtain ⟨h1, h2⟩ := List.getElem?_eq_some_iff.mp hsi
        rw [← h2, List.getElem_cons_drop]
      rw [hdrop, blkF_cons] at hBF
      have hFx := sm _ _ hF
      have ixF : atI (ls.map V.ref) (0 + (i : Int)) = some (.ref l1) := by
        rw [Int.zero_add]
        exact atI_nat (by rw [List.getElem?_map, hl1]; rfl)
      refine ⟨_, rfl, _, rfl, F0, _, _, .ref l1, rfl, rfl, SqL.of hFx, ixF, l1, _, _, .str s.word, rfl, rfl, SqL.of (sm _ _ hl2), at0, ?_⟩
      have hbsr : ∀ x ∈ bs.reverse, PyData.strOk x = true := fun x hx => blk_ok x (hbl x (List.mem_reverse.mp hx))
      refine ⟨_, rfl, (by show 0 ≤ sizeLine; decide), fun e0 ne0 => ⟨.list (bs.reverse.map PyData.str), .list [], .lst (SqL.of (same_new ne0 _ _ hO)) (dpStrs2 _ _), .lst (SqL.of upd_same) .nil, shStrs2 _ hbsr, by decide +kernel, ?_⟩⟩
      rw [eqv_nil2, List.isEmpty_reverse]
      have s1 := sm.trans (same_new (o := .lst []) ne0)
      have hO1 := same_new (o := .lst []) ne0 _ _ hO
      generalize upd Hx e0 (.lst []) = H1 at s1 hO1 ⊢
      refine fun d nd => ⟨_, rfl, _, rfl, 1, rfl, _, rfl, O, _, rfl, SqL.of (same_new nd _ _ hO1), fun a1 na1 => ⟨(by show 1 ≤ sizeLine; decide), fun a2 na2 => ?_⟩⟩
      have s2 : Same H (upd H1 d (.dK [])) := s1.trans (same_new nd)
      have hO2 : upd H1 d (.dK []) O = some (.lst (bs.reverse.map V.str)) := same_new nd _ _ hO1
      have hd2 : upd H1 d (.dK []) d = some (.dK []) := upd_same
      have hdn : H d = none := s1.free nd
      generalize upd H1 d (.dK []) = H2 at s2 hO2 hd2 na1 na2 ⊢
      have ep : upd (upd H2 a1 (.lst (cutV (bs.reverse.map V.str) (some (-1)) none))) a2 (.lst [V.str "if"]) a1 = some (.lst (bs.head?.toList.map V.str)) := by
        rw [upd_ne (ne_of_none upd_same na2), upd_same, cut_last]
        cases bs with
        | nil => rfl
        | cons x r => simp
      have s3 : Same H2 (upd (upd H2 a1 (.lst (cutV (bs.reverse.map V.str) (some (-1)) none))) a2 (.lst [V.str "if"])) := (same_new na1).trans (same_new na2)
      have hshd : SeqAt.shaped (.list (bs.head?.toList.map PyData.str)) = true := by
        cases bs with
        | nil => decide +kernel
        | cons x r => exact blk_shaped x (hbl x (by simp))
      have hev : PyData.eqv (.list (bs.head?.toList.map PyData.str)) (.list [.str "if"]) = decide (bs.head? = some ("if" : Str)) := by
        refine (eqv_strs2 _ ["if"]).trans ?_
        rw [decide_eq_decide]
        cases bs with
        | nil => simp
        | cons x r => simp
      refine ⟨.list (bs.head?.toList.map PyData.str), .list [.str "if"], .lst (SqL.of ep) (dpStrs2 _ _), .lst (SqL.of upd_same) (.cons (.str _) .nil), hshd, by decide +kernel, ?_⟩
      rw [hev]
      refine ⟨_, rfl, _, rfl, s3 _ _ hd2, [(.inr "process", _), (.inr "else", _), (.inr "end", _)], rfl, (by show 3 ≤ 15; decide), ?_⟩
      have s4 := s2.trans s3
      have hO4 := s3 _ _ hO2
      generalize upd (upd H2 a1 (.lst (cutV (bs.reverse.map V.str) (some (-1)) none))) a2 (.lst [V.str "if"]) = H4 at s4 hO4 ⊢
      have Od : O ≠ d := fun z => by rw [z] at hO1; rw [hO1] at nd; cases nd
      refine ⟨_, rfl, .inr (.inr (.inl ⟨rfl, .inl ⟨_, upd_same⟩⟩)), fun p2 np2 => ?_⟩
      have s5 := same_upd0 (o := .dK (mergeK [] [(.inr "process", .bl (!bs.isEmpty)), (.inr "else", .bl (!decide (bs.head? = some ("if" : Str)))), (.inr "end", .bl (!!bs.isEmpty))])) s4 hdn
      have hp2n : H p2 = none := s5.free np2
      have dp2 : d ≠ p2 := ne_of_none upd_same np2
      have hO5 : upd (upd H4 d (.dK (mergeK [] [(.inr "process", .bl (!bs.isEmpty)), (.inr "else", .bl (!decide (bs.head? = some ("if" : Str)))), (.inr "end", .bl (!!bs.isEmpty))]))) p2 (.dK []) O = some (.lst (bs.reverse.map V.str)) := by
        refine same_new np2 _ _ ?_
        rw [upd_ne Od]; exact hO4
      refine ⟨_, rfl, O, _, rfl, .inl (SqL.of hO5), _, _, rfl, rfl, _, rfl, O, _, rfl, .inl (SqL.of hO5), _, _, rfl, rfl, upd_same, [(.inr "if", _), (.inr "while", _)], rfl, (by show 2 ≤ 15; decide), ?_⟩
      have Op2 : O ≠ p2 := fun z => by
        have := np2
        rw [← z, upd_ne Od, hO4] at this
        cases this
      refine ⟨d, p2, _, _, rfl, rfl, dp2, by rw [upd_ne dp2, upd_ne dp2, upd_same], upd_same, Nat.le_trans (Nat.add_le_add (length_mergeK _ _) (length_mergeK _ _)) (by show 0 + 3 + (0 + 2) ≤ sizeLine; decide), ?_⟩
      have hlt : decide ((19 : Int) < ((bs.reverse.map V.str).length : Int)) = decide (19 < bs.length) := by
        rw [decide_eq_decide, List.length_map, List.length_reverse]; omega
      rw [hlt, Bool.not_not]
      rw [Bool.not_not] at s5
      have s6 := same_upd0 (o := .dK (wrongK (.bl (!bs.isEmpty)) (.bl (!decide (bs.head? = some ("if" : Str)))) (.bl bs.isEmpty) (.bl (decide (19 < bs.length))) (.bl (decide (19 < bs.length))))) (same_upd0 (o := .dK (mergeK [] [(.inr "if", .bl (decide (19 < bs.length))), (.inr "while", .bl (decide (19 < bs.length)))])) (same_upd0 (o := .dK []) s5 hp2n) hp2n) hdn
      have hd6 : upd (upd (upd (upd H4 d (.dK (mergeK [] [(.inr "process", .bl (!bs.isEmpty)), (.inr "else", .bl (!decide (bs.head? = some ("if" : Str)))), (.inr "end", .bl bs.isEmpty)]))) p2 (.dK [])) p2 (.dK (mergeK [] [(.inr "if", .bl (decide (19 < bs.length))), (.inr "while", .bl (decide (19 < bs.length)))]))) d (.dK (wrongK (.bl (!bs.isEmpty)) (.bl (!decide (bs.head? = some ("if" : Str)))) (.bl bs.isEmpty) (.bl (decide (19 < bs.length))) (.bl (decide (19 < bs.length))))) d = some (.dK (wrongK (.bl (!bs.isEmpty)) (.bl (!decide (bs.head? = some ("if" : Str)))) (.bl bs.isEmpty) (.bl (decide (19 < bs.length))) (.bl (decide (19 < bs.length))))) := upd_same
      have hO6 : upd (upd (upd (upd H4 d (.dK (mergeK [] [(.inr "process", .bl (!bs.isEmpty)), (.inr "else", .bl (!decide (bs.head? = some ("if" : Str)))), (.inr "end", .bl bs.isEmpty)]))) p2 (.dK [])) p2 (.dK (mergeK [] [(.inr "if", .bl (decide (19 < bs.length))), (.inr "while", .bl (decide (19 < bs.length)))]))) d (.dK (wrongK (.bl (!bs.isEmpty)) (.bl (!decide (bs.head? = some ("if" : Str)))) (.bl bs.isEmpty) (.bl (decide (19 < bs.length))) (.bl (decide (19 < bs.length))))) O = some (.lst (bs.reverse.map V.str)) := by
        rw [upd_ne Od, upd_ne Op2, upd_ne Op2, upd_ne Od]; exact hO4
      unfold wrongK at s6 hd6 hO6
      generalize upd (upd (upd (upd H4 d (.dK (mergeK [] [(.inr "process", .bl (!bs.isEmpty)), (.inr "else", .bl (!decide (bs.head? = some ("if" : Str)))), (.inr "end", .bl bs.isEmpty)]))) p2 (.dK [])) p2 (.dK (mergeK [] [(.inr "if", .bl (decide (19 < bs.length))), (.inr "while", .bl (decide (19 < bs.length)))]))) d (.dK (mergeK (mergeK [] [(.inr "process", .bl (!bs.isEmpty)), (.inr "else", .bl (!decide (bs.head? = some ("if" : Str)))), (.inr "end", .bl bs.isEmpty)]) (mergeK [] [(.inr "if", .bl (decide (19 < bs.length))), (.inr "while", .bl (decide (19 < bs.length)))]))) = H6 at s6 hd6 hO6 ⊢
      have hd7 : H6 d = some (.dK (wrongK (.bl (!bs.isEmpty)) (.bl (!decide (bs.head? = some ("if" : Str)))) (.bl bs.isEmpty) (.bl (decide (19 < bs.length))) (.bl (decide (19 < bs.length))))) := hd6
      refine ⟨_, rfl, d, rfl, .inl ⟨_, .inl hd7⟩, _, rfl, _, DGet.k (k := Sum.inr s.word) hd7, ?_⟩
      rw [wrong_get]
      refine ⟨_, rfl, ?_⟩
      have ret : blkF 0 [] ss = some i → Q (.int (0 + (i : Int))) H6 := fun e => by
        have := k H6 s6
        rw [e] at this
        rw [Int.zero_add]
        exact this
      cases hf : fitsW s.word bs with
      | false =>
        rw [if_pos (.inr hf)] at hBF
        exact iteTc rfl ⟨_, rfl, ret hBF⟩
      | true =>
      obtain ⟨s0', r0, hss⟩ : ∃ s0' r0, ss = s0' :: r0 := by
        cases ss with
        | nil => simp at hsi
        | cons a b => exact ⟨a, b, rfl⟩
      obtain ⟨l0, hl0, hl0'⟩ := hls.get (i := 0) (s := s0') (by rw [hss]; rfl)
      have ix0 : atI (ls.map V.ref) 0 = some (.ref l0) := atI_nat (j := 0) (by rw [List.getElem?_map, hl0]; rfl)
      refine iteFc rfl ⟨_, rfl, F0, _, _, .ref l0, rfl, rfl, SqL.of (s6 _ _ hF), ix0, l0, _, _, .str s0'.word, rfl, rfl, SqL.of (s6 _ _ hl0'), at0, rfl, _, rfl, ?_⟩
      rw [eqW]
      by_cases hp0 : s0'.word = "process"
      · have hnc : ¬ ((i = 0 ∧ s.word ≠ "process") ∨ fitsW s.word bs = false) := by
          rw [hf]
          rintro (⟨h0, h1⟩ | h)
          · subst h0
            rw [hss] at hsi
            injection hsi with hsi
            exact h1 (hsi ▸ hp0)
          · cases h
        rw [if_neg hnc] at hBF
        refine iteFc (by rw [decide_eq_true hp0]; rfl) ?_
        have hpr' : ∀ s0 : Stp, ss[0]? = some s0 → i + 1 ≠ 0 → s0.word = ("process" : Str) := fun s0 h _ => by
          rw [hss] at h
          injection h with h
          exact h ▸ hp0
        have push : ∀ H3 : Hp, H3 O = some (.lst ((pushB s.word bs).reverse.map V.str)) → Same H H3 → ∃ (x2 x3 x4 x5 : Option V) (bs' : List Str), [some (V.ref F0), some (.ref O), some (.int (0 + (i : Int))), some (.str s.word), some (.bl (!bs.isEmpty)), some (.ref d)] = [some (V.ref F0), some (.ref O), x2, x3, x4, x5] ∧ H3 O = some (.lst (bs'.reverse.map V.str)) ∧ (∀ x ∈ bs', x ∈ blkL) ∧ bs'.length ≤ i + 1 ∧ blkF 0 [] ss = blkF (i + 1) bs' (ss.drop (i + 1)) ∧ Same H H3 ∧ (∀ s0 : Stp, ss[0]? = some s0 → i + 1 ≠ 0 → s0.word = ("process" : Str)) := fun H3 h3 s3 => ⟨_, _, _, _, _, rfl, h3, push_blk hbl, Nat.le_trans push_len (by omega), hBF, s3, hpr'⟩
        have lt : (bs.reverse.map V.str).length < sizeLine := by
          rw [List.length_map, List.length_reverse]
          exact Nat.lt_of_le_of_lt (by omega : bs.length ≤ 400) (by decide)
        have hOn : H O = none := nO
        refine ⟨_, rfl, (by show 2 ≤ sizeLine; decide), fun q nq => ⟨q, (["if", "while"] : List Str).map V.str, rfl, .inr (SqT.of upd_same), rfl, flat_strs _, _, rfl, ?_⟩⟩
        have s7 : Same H (upd H6 q (.tup [V.str "if", V.str "while"])) := s6.trans (same_new nq)
        have hO7 : upd H6 q (.tup [V.str "if", V.str "while"]) O = some (.lst (bs.reverse.map V.str)) := same_new nq _ _ hO6
        generalize upd H6 q (.tup [V.str "if", V.str "while"]) = H7 at s7 hO7 ⊢
        have hinv : inV (.str s.word) ((["if", "while"] : List Str).map V.str) = (["if", "while"] : List Str).contains s.word := inV_strs _ _
        by_cases h12 : s.word = "if" ∨ s.word = "while"
        · have hne : s.word ≠ "else" ∧ s.word ≠ "end" := by rcases h12 with h | h <;> rw [h] <;> decide +kernel
          refine iteTc (by rw [if_neg (by decide), hinv]; simpa using h12) ⟨_, rfl, .inl ⟨rfl, _, SqL.of hO7⟩, _, rfl, O, _, _, rfl, rfl, hO7, lt, _, rfl, rfl, _, rfl, iteFc (by rw [eqW]; exact decide_eq_false hne.1) ⟨_, rfl, rfl, _, rfl, iteFc (by rw [eqW]; exact decide_eq_false hne.2) (push _ ?_ (same_upd0 s7 hOn))⟩⟩
          rw [upd_same]; unfold pushB; rw [if_pos h12]; simp
        refine iteFc (by rw [if_neg (by decide), hinv]; simpa using h12) ⟨_, rfl, rfl, _, rfl, ?_⟩
        rw [eqW]
        by_cases h3 : s.word = "else"
        · have hne : s.word ≠ "end" := by rw [h3]; decide +kernel
          have hcons : ∃ y r, bs = y :: r := by
            cases bs with
            | nil => rw [h3] at hf; exact absurd hf (by decide +kernel)
            | cons y r => exact ⟨y, r, rfl⟩
          obtain ⟨y, r, rfl⟩ := hcons
          refine iteTc (decide_eq_true h3) ⟨_, rfl, 1, rfl, O, _, _, r.length, rfl, rfl, hO7, ?_, _, rfl, rfl, _, rfl, iteFc (by rw [eqW]; exact decide_eq_false hne) (push _ ?_ (same_upd0 s7 hOn))⟩
          · have := ixN_last r.length
            simpa using this
          · rw [upd_same]; unfold pushB; rw [if_neg h12, if_pos h3, h3]
            have := set_last (r.reverse.map V.str) (.str y) (.str "else")
            simp only [List.length_map, List.length_reverse] at this
            simp only [List.reverse_cons, List.map_append, List.map_cons, List.map_nil, List.tail_cons]
            rw [this]
        refine iteFc (decide_eq_false h3) ⟨_, rfl, rfl, _, rfl, ?_⟩
        rw [eqW]
        by_cases h4 : s.word = "end"
        · have hcons : ∃ y r, bs = y :: r := by
            cases bs with
            | nil => rw [h4] at hf; exact absurd hf (by decide +kernel)
            | cons y r => exact ⟨y, r, rfl⟩
          obtain ⟨y, r, rfl⟩ := hcons
          refine iteTc (decide_eq_true h4) ⟨_, rfl, .inl ⟨rfl, _, SqL.of hO7⟩, O, _, .str y, rfl, rfl, hO7, by simp, push _ ?_ (same_upd0 s7 hOn)⟩
          rw [upd_same]; unfold pushB; rw [if_neg h12, if_neg h3, if_pos h4]; simp
        refine iteFc (decide_eq_false h4) (push _ ?_ s7)
        rw [hO7]; unfold pushB; rw [if_neg h12, if_neg h3, if_neg h4]
      · refine iteTc (by rw [decide_eq_false hp0]; rfl) ⟨_, rfl, ret ?_⟩
        have hi0 : i = 0 := Classical.byContradiction fun h => hp0 (hpr s0' (by rw [hss]; rfl) h)
        rw [hi0, hss]
        exact blkF_first hp0
    · rintro σ Hx ⟨x2, x3, x4, x5, bs, rfl, hO, hbl, hbn, hBF, sm, hpr⟩
      rw [List.drop_length, blkF_nil] at hBF
      have hbsr : ∀ x ∈ bs.reverse, PyData.strOk x = true := fun x hx => blk_ok x (hbl x (List.mem_reverse.mp hx))
      refine ⟨_, rfl, (by show 0 ≤ sizeLine; decide), fun e0 ne0 => ⟨.list (bs.reverse.map PyData.str), .list [], .lst (SqL.of (same_new ne0 _ _ hO)) (dpStrs2 _ _), .lst (SqL.of upd_same) .nil, shStrs2 _ hbsr, by decide +kernel, ?_⟩⟩
      rw [eqv_nil2, List.isEmpty_reverse]
      have s1 := sm.trans (same_new (o := .lst []) ne0)
      have hk := k _ s1
      rw [hBF] at hk
      refine ⟨_, rfl, ?_⟩
      cases bs with
      | nil => exact iteFc rfl hk
      | cons y r =>
        refine iteTc rfl ⟨_, rfl, F0, _, rfl, .inl (SqL.of (s1 _ _ hF)), ?_⟩
        rw [List.length_map, hll]
        exact hk
end
end XE

set_option Elab.async false
set_option linter.all false
set_option maxRecDepth 100000
set_option maxHeartbeats 1000000
namespace XE
open PySem PySem.Spec PyProof.Rows L2 Rx SX
def spNameDue : Sp := fun vs H Q _ => ∃ (F : Addr) (ss : List Stp), vs = [.ref F] ∧ FormsAt H F ss ∧ ss.length ≤ 400 ∧ (∀ s ∈ ss, s.good) ∧ (∀ s r, ss = s :: r → isProc s = true) ∧ ∀ H', Same H H' → Q (optV (nmF ss)) H'
def formD (s : Stp) : PyData := .list ((formS s).map PyData.str)
theorem form_ok {s : Stp} (h : s.good) : ∀ x ∈ formS s, PyData.strOk x = true := by
  have nm : ∀ {x : Str}, isName (cod x) = true → PyData.strOk x = true := fun {x} h => by
    have := name_ok h
    rw [str_cod] at this
    exact this
  have wd : PyData.strOk s.word = true := by cases s <;> simp only [Stp.word] <;> decide +kernel
  intro x hx
  rcases List.mem_cons.mp hx with rfl | hx
  · exact wd
  · cases s <;> simp only [nms, List.mem_cons, List.not_mem_nil, or_false] at hx <;> first | (cases hx; done) | (subst hx; first | exact nm h | exact nm h.1) | (rcases hx with rfl | rfl; exact nm h.1; exact nm h.2)
theorem lay_list {ns : List Str} (h : ∀ n ∈ ns, PyData.strOk n = true) : (PyData.list (ns.map PyData.str)).canLay0 = true ∧ (PyData.list (ns.map PyData.str)).depth ≤ 1 := by
  have h1 : ∀ ns : List Str, (∀ n ∈ ns, PyData.strOk n = true) → PyData.canLayAll0 (ns.map PyData.str) = true ∧ PyData.depthAll (ns.map PyData.str) = 0 := by
    intro ns
    induction ns with
    | nil => intro _; simp [PyData.canLayAll0, PyData.depthAll]
    | cons n ns ih =>
      intro h
      obtain ⟨i1, i2⟩ := ih fun x hx => h x (by simp [hx])
      simp [PyData.canLayAll0, PyData.depthAll, PyData.canLay0, PyData.depth, i1, i2, h n (by simp)]
  simp [PyData.canLay0, PyData.depth, (h1 ns h).1, (h1 ns h).2]
theorem sh_forms {ss : List Stp} (h : ∀ s ∈ ss, s.good) : SeqAt.shaped (.list (ss.map formD)) = true := by
  have h1 : ∀ ss : List Stp, (∀ s ∈ ss, s.good) → PyData.canLayAll0 (ss.map formD) = true ∧ PyData.depthAll (ss.map formD) ≤ 1 := by
    intro ss
    induction ss with
    | nil => intro _; simp [PyData.canLayAll0, PyData.depthAll]
    | cons s ss ih =>
      intro h
      obtain ⟨i1, i2⟩ := ih fun x hx => h x (by simp [hx])
      obtain ⟨j1, j2⟩ := lay_list (form_ok (h s (by simp)))
      refine ⟨?_, ?_⟩
      · show ((formD s).canLay0 && PyData.canLayAll0 (ss.map formD)) = true
        rw [i1, show (formD s).canLay0 = true from j1]; rfl
      · show max (formD s).depth (PyData.depthAll (ss.map formD)) ≤ 1
        have : (formD s).depth ≤ 1 := j2
        omega
  obtain ⟨g1, g2⟩ := h1 ss h
  simp [SeqAt.shaped, PyData.canLay0, PyData.depth, g1]
  omega
theorem ls_dp {K : PySem.W.Frag} {H : Hp} : ∀ {ls : List Addr} {ss : List Stp}, LsAt H ls ss → DpAll K H (ls.map V.ref) (ss.map formD)
  | _ :: _, s :: _, ⟨a, h⟩ => .cons (.lst (SqL.of a) (dpStrs2 _ (formS s))) (ls_dp h)
  | [], [], _ => .nil
  | _ :: _, [], h => h.elim
  | [], _ :: _, h => h.elim
section
variable {P : Program} {w : World} {K : PySem.W.Frag} {mg : Str → Option Value} {base : Heap} {CP C : Addr}
abbrev ndN : List Str := ["_law_forms", "_law_known", "_law_form", "_law_seen", "_law_k", "_law_other"]
theorem scND : FnScope ndN ["_law_forms"] (defScope sNameDue) := ⟨rfl, rfl, rfl, by decide +kernel, rfl, by decide +kernel, by decide +kernel⟩
theorem ok_nameDue {f : Addr} {fd : FuncData} (F : Fun K "_law_name_due" "_law_name_due" sNameDue f fd) (mlen : mg "len" = none) (mrange : mg "range" = none) (mint : mg "int" = none) : FnOk P w K mg base CX0 1 f fd ["_law_forms"] spNameDue := by
  refine F.ok scND (fun vs H Q E h => ?_) (fun cdv A outer s H vs Q E hr h => ?_)
  · obtain ⟨_, _, rfl, _⟩ := h
    rfl
  · obtain ⟨F0, ss, rfl, ⟨ls, hF, hls⟩, hlen, hgood, hfst, k⟩ := h
    refine ⟨_, (pss_cons (ps_setLc (i := 1) (own := [("_law_form", 2)]) (g := gName 2) (tt := tTest (tOp rEq (tOp (rIxL K) (tVar 2) (tC (.int 0))) (tC (.str "process")))) (te := tOp (rIxL K) (tVar 2) (tC (.int 1))) rfl scND.nd rfl rfl (sw_true rfl rfl rfl (by decide +kernel)) (pi_list (pv 0)) (blkOk_by (own := [("_law_form", 2)]) (N := ndN) (sc := defScope sNameDue) (by decide +kernel)) (fun _ _ _ _ _ => (pg_name (i := 2) scND.nd rfl (Or.inl rfl))) (fun _ _ _ _ _ => pts_one (pt_cmpR op_eq (pe_ix (by exact ix_list) (pv 2) pe_int (fun _ _ => rfl)) pe_str (nomark _))) (fun _ _ _ _ _ => (pe_ix (by exact ix_list) (pv 2) pe_int (fun _ _ => rfl)))) (pss_cons (ps_set (i := 3) scND.nd rfl (.inl rfl) (pe_lst pa_nil)) (pss_cons (ps_for PassesOwn.never rfl (pi_range1 rfl mrange (pa_cons (pe_callB call_len_seq (by rfl) mlen PySem.boot_len (pa_cons (pv 0) pa_nil)) pa_nil)) (pg_name (i := 4) scND.nd rfl (.inl rfl)) (pss_cons (ps_set (i := 2) scND.nd rfl (.inl rfl) (pe_ix ix_list (pv 0) (pv 4) (fun _ _ => rfl))) (pss_cons (ps_if (pt_cmpR op_eq (pe_ix ix_list (pv 2) pe_int (fun _ _ => rfl)) pe_str (nomark _)) (pss_cons (ps_if (PW.pt (pw_or (pt_cmpR op_in_seq (pe_ix ix_list (pv 2) pe_int (fun _ _ => rfl)) (pv 3) rfl) (pw_or1 (pt_cmpR op_gt (pe_callB call_len_seq (by rfl) mlen PySem.boot_len (pa_cons (pv 3) pa_nil)) pe_int (nomark _))))) (pss_one (ps_ret (pv 4))) pss_nil) (pss_one (ps_expr (pe_bm PySem.F.plainAttrs_list PySem.F.slot_list_append PySem.F.type_list_append mt_append (pv 3) (pa_cons (pe_ix ix_list (pv 2) pe_int (fun _ _ => rfl)) pa_nil))))) pss_nil) (pss_one (ps_if (pt_cmpR op_in_seq (pe_ix ix_list (pv 2) pe_int (fun _ _ => rfl)) (pe_tup (pa_cons pe_str (pa_cons pe_str pa_nil))) rfl) (pss_cons (ps_set (i := 5) scND.nd rfl (.inl rfl) (pe_ix ix_list (pv 2) (pe_op op_add pe_int (pe_callTy call_int1 (by rfl) mint (by decide +kernel) (pa_cons (pe_cmpR op_eq (pe_ix ix_list (pv 2) pe_int (fun _ _ => rfl)) pe_str (nomark _)) pa_nil))) (fun _ _ => rfl))) (pss_one (ps_if (PW.pt (pw_or (pt_cmpR op_notIn_seq (pv 5) (pv 1) rfl) (pw_or1 (pt_cmpR op_eq (pv 5) (pe_ix ix_list (pv 3) (pe_un un_neg pe_int) (fun _ _ => rfl)) (nomark _))))) (pss_one (ps_ret (pv 4))) pss_nil))) pss_nil))))) (pss_one (ps_ret (pe_ifExp (pt_cmpR (op_eqD hr.units) (pv 0) (pe_lst pa_nil) (nomark _)) pe_int pe_non)))))), ?_⟩
    have hll := hls.len
    refine ⟨_, rfl, F0, rfl, ⟨_, SqL.of hF⟩, fun D hD => ?_⟩
    refine lc_list (K := K) (a := F0) (xs := ls.map V.ref) (fun i Hx => Hx D = some (.lst ((procs (ss.take i)).map V.str)) ∧ Same H Hx) ⟨by rw [List.take_zero]; exact upd_same, same_new hD⟩ (fun i Hx _ q => SqL.of (q.2 _ _ hF)) ?_ ?_
    · rintro i x Hx hx ⟨hD1, sm⟩
      rw [List.getElem?_map] at hx
      obtain ⟨l1, hl1, rfl⟩ := Option.map_eq_some_iff.mp hx
      have hi : i < ss.length := by rw [← hll]; exact (List.getElem?_eq_some_iff.mp hl1).1
      have hsi : ss[i]? = some ss[i] := List.getElem?_eq_getElem hi
      generalize ss[i] = s at hsi
      obtain ⟨l2, hl2, hl3⟩ := hls.get hsi
      rw [hl1] at hl2
      injection hl2 with hl2
      subst hl2
      have htk : procs (ss.take (i + 1)) = procs (ss.take i) ++ procs [s] := by
        rw [List.take_add_one, hsi, procs_pre]; rfl
      have hl3' := sm _ _ hl3
      refine ⟨rfl, _, rfl, l1, _, _, .str s.word, rfl, rfl, SqL.of hl3', at0, rfl, _, rfl, ?_⟩
      rw [eqW, htk]
      by_cases hw : s.word = "process"
      · cases s with
        | proc n =>
          refine iteTc (decide_eq_true hw) ⟨_, rfl, l1, _, _, .str n, rfl, rfl, SqL.of hl3', at1, _, hD1, ?_, ?_, same_upd0 sm hD⟩
          · rw [List.length_map]
            have h1 := procs_le (ss.take i)
            rw [List.length_take] at h1
            exact Nat.lt_of_le_of_lt (by omega) (by decide : 400 < sizeLine)
          · rw [upd_same]; simp [procs]
        | _ => exact absurd hw (by simp only [Stp.word]; decide +kernel)
      · refine iteFc (decide_eq_false hw) ⟨?_, sm⟩
        rw [hD1]
        cases s with
        | proc n => exact absurd rfl hw
        | _ => simp [procs]
    rintro H2 ⟨hD2, sm2⟩
    rw [List.length_map, hll, List.take_length] at hD2
    refine ⟨(by show 0 ≤ sizeLine; decide), fun S nS => ?_⟩
    have s3 := sm2.trans (same_new (o := .lst []) nS)
    have hSn := sm2.free nS
    have hD3 := same_new (o := .lst []) nS _ _ hD2
    have hS3 : upd H2 S (.lst []) S = some (.lst []) := upd_same
    have DS : D ≠ S := ne_of_none hD2 nS
    generalize upd H2 S (.lst []) = H3 at s3 hD3 hS3 ⊢
    refine ⟨_, rfl, F0, _, rfl, .inl (SqL.of (s3 _ _ hF)), ?_⟩
    rw [List.length_map, hll]
    refine ⟨_, rfl, by omega, by omega, for_range (lo := 0) (n := ss.length) (fun i σ Hx => ∃ (x2 x4 x5 : Option V), σ = [some (.ref F0), some (.ref D), x2, some (.ref S), x4, x5] ∧ Hx D = some (.lst ((procs ss).map V.str)) ∧ Hx S = some (.lst ((procs (ss.take i)).map V.str)) ∧ Same H Hx ∧ nmG (procs ss) 0 0 ss = nmG (procs ss) i (procs (ss.take i)).length (ss.drop i) ∧ (procs (ss.take i)).length ≤ 40 ∧ (i = 0 ∨ 1 ≤ (procs (ss.take i)).length))
      ⟨_, _, _, rfl, hD3, hS3, s3, rfl, Nat.zero_le _, .inl rfl⟩ ?_ ?_⟩
    · rintro i σ Hx hi ⟨x2, x4, x5, rfl, hDx, hSx, sm, hN, h40, hb0⟩
      have hsi : ss[i]? = some ss[i] := List.getElem?_eq_getElem hi
      generalize ss[i] = s at hsi
      obtain ⟨l1, hl1, hl2⟩ := hls.get hsi
      have hdrop : ss.drop i = s :: ss.drop (i + 1) := by
        obtain ⟨h1, h2⟩ := List.getElem?_eq_some_iff.mp hsi
        rw [← h2, List.getElem_cons_drop]
      have htk : procs (ss.take (i + 1)) = procs (ss.take i) ++ procs [s] := by
        rw [List.take_add_one, hsi, procs_pre]; rfl
      have hpt := procs_take ss i
      have hpre : (procs (ss.take i)).length ≤ (procs ss).length := by
        have : procs ss = procs (ss.take i) ++ procs (ss.drop i) := by rw [← procs_pre, List.take_append_drop]
        rw [this, List.length_append]; omega
      have hne : ss ≠ [] := fun e => by rw [e] at hi; cases hi
      have hnm : nmF ss = nmG (procs ss) 0 0 ss := by
        cases ss with
        | nil => exact absurd rfl hne
        | cons a b => rfl
      rw [← hnm] at hN
      rw [hdrop] at hN
      have ixF : atI (ls.map V.ref) (0 + (i : Int)) = some (.ref l1) := by
        rw [Int.zero_add]
        exact atI_nat (by rw [List.getElem?_map, hl1]; rfl)
      have ret : ∀ H', Same H H' → nmF ss = some i → Q (.int (0 + (i : Int))) H' := fun H' s' e => by
        have := k H' s'
        rw [e] at this
        rw [Int.zero_add]
        exact this
      have hi0 : isProc s = false → i ≠ 0 := fun hp h0 => by
        subst h0
        have := hfst s (ss.drop 1) (by rw [← hdrop]; rfl)
        rw [this] at hp
        cases hp
      have hl2x := sm _ _ hl2
      have two : ∀ q (Hz : Hp), Hz q = none → Same H Hz → Same H (upd Hz q (.tup [V.str "send", V.str "receive"])) := fun q Hz nq sz => sz.trans (same_new nq)
      have hinv : inV (.str s.word) ((["send", "receive"] : List Str).map V.str) = (["send", "receive"] : List Str).contains s.word := inV_strs _ _
      refine ⟨_, rfl, _, rfl, F0, _, _, .ref l1, rfl, rfl, SqL.of (sm _ _ hF), ixF, _, rfl, l1, _, _, .str s.word, rfl, rfl, SqL.of hl2x, at0, rfl, _, rfl, ?_⟩
      rw [eqW]
      cases s with
      | proc n =>
        have hlk : (procs (ss.take (i + 1))).length = (procs (ss.take i)).length + 1 := by rw [htk]; simp [procs]
        have hN' : nmF ss = if (procs (ss.take i)).length = 40 ∨ n ∈ (procs ss).take (procs (ss.take i)).length then some i else nmG (procs ss) (i + 1) ((procs (ss.take i)).length + 1) (ss.drop (i + 1)) := hN
        rw [← hpt] at hN'
        refine iteTc (decide_eq_true rfl) ⟨_, rfl, l1, _, _, .str n, rfl, rfl, SqL.of hl2x, at1, _, rfl, S, _, rfl, .inl (SqL.of hSx), rfl, flat_strs _, _, rfl, ?_⟩
        rw [inV_strs]
        cases hm : (procs (ss.take i)).contains n with
        | true =>
          rw [if_pos (.inr (List.contains_iff_mem.mp hm))] at hN'
          exact iteTc rfl ⟨_, rfl, ret _ sm hN'⟩
        | false =>
        have hnm' : n ∉ procs (ss.take i) := fun h => by rw [List.contains_iff_mem.mpr h] at hm; cases hm
        refine iteFc rfl ⟨_, rfl, S, _, rfl, .inl (SqL.of hSx), _, _, rfl, rfl, _, rfl, ?_⟩
        rw [List.length_map]
        by_cases h4 : (procs (ss.take i)).length = 40
        · rw [if_pos (.inl h4)] at hN'
          exact iteTc (decide_eq_true (by rw [h4]; decide)) ⟨_, rfl, ret _ sm hN'⟩
        rw [if_neg (fun h => h.elim h4 hnm')] at hN'
        have hSlt : ((procs (ss.take i)).map V.str).length < sizeLine := by rw [List.length_map]; exact Nat.lt_of_le_of_lt h40 (by decide)
        refine iteFc (decide_eq_false (by omega)) ⟨_, rfl, .inl ⟨rfl, _, SqL.of hSx⟩, _, rfl, l1, _, _, .str n, rfl, rfl, SqL.of hl2x, at1, S, _, _, rfl, rfl, hSx, hSlt, ?_⟩
        have s4 := same_upd0 (o := .lst ((procs (ss.take i)).map V.str ++ [.str n])) sm hSn
        have hD4 : upd Hx S (.lst ((procs (ss.take i)).map V.str ++ [.str n])) D = some (.lst ((procs ss).map V.str)) := by rw [upd_ne DS]; exact hDx
        have hS4 : upd Hx S (.lst ((procs (ss.take i)).map V.str ++ [.str n])) S = some (.lst ((procs (ss.take (i + 1))).map V.str)) := by rw [upd_same, htk]; simp [procs]
        generalize upd Hx S (.lst ((procs (ss.take i)).map V.str ++ [.str n])) = H4 at s4 hD4 hS4 ⊢
        refine ⟨_, rfl, l1, _, _, .str _, rfl, rfl, SqL.of (s4 _ _ hl2), at0, (by show 2 ≤ sizeLine; decide), fun q nq => ⟨q, (["send", "receive"] : List Str).map V.str, rfl, .inr (SqT.of upd_same), rfl, flat_strs _, _, rfl, iteFc (by rw [if_neg (by decide), hinv]; simp only [Stp.word]; decide +kernel) ⟨_, _, _, rfl, same_new nq _ _ hD4, same_new nq _ _ hS4, two q _ nq s4, by rw [hlk]; exact hnm.symm.trans hN', by omega, .inr (by omega)⟩⟩⟩
      | send p t =>
        have hi0 := hi0 rfl
        have hlk : (procs (ss.take (i + 1))) = (procs (ss.take i)) := by rw [htk]; simp [procs]
        have hb1 : 1 ≤ (procs (ss.take i)).length := hb0.resolve_left hi0
        have hN' : nmF ss = if p ∉ procs ss ∨ (procs ss)[(procs (ss.take i)).length - 1]? = some p then some i else nmG (procs ss) (i + 1) (procs (ss.take i)).length (ss.drop (i + 1)) := hN
        obtain ⟨m, hm1, hm2⟩ : ∃ m, atI ((procs (ss.take i)).map V.str) (-1) = some (.str m) ∧ (procs ss)[(procs (ss.take i)).length - 1]? = some m := by
          generalize procs (ss.take i) = pl at hpt hb1 ⊢
          rcases List.eq_nil_or_concat pl with h | ⟨init, m, h⟩
          · rw [h] at hb1; simp at hb1
          · subst h
            refine ⟨m, ?_, ?_⟩
            · rw [List.concat_eq_append, List.map_append]
              exact atI_lastR
            · have h1 : (init.concat m)[init.length]? = some m := by simp
              rw [hpt, List.getElem?_take] at h1
              split at h1
              · simpa using h1
              · cases h1
        refine iteFc (decide_eq_false (by simp only [Stp.word]; decide +kernel)) ⟨_, rfl, l1, _, _, .str _, rfl, rfl, SqL.of hl2x, at0, (by show 2 ≤ sizeLine; decide), fun q nq => ⟨q, (["send", "receive"] : List Str).map V.str, rfl, .inr (SqT.of upd_same), rfl, flat_strs _, _, rfl, iteTc (by rw [if_neg (by decide), hinv]; simp only [Stp.word]; decide +kernel) ?_⟩⟩
        have s4 := two q Hx nq sm
        have hD4 := same_new (o := .tup [V.str "send", V.str "receive"]) nq _ _ hDx
        have hS4 := same_new (o := .tup [V.str "send", V.str "receive"]) nq _ _ hSx
        have hl4 := same_new (o := .tup [V.str "send", V.str "receive"]) nq _ _ hl2x
        generalize upd Hx q (.tup [V.str "send", V.str "receive"]) = H4 at s4 hD4 hS4 hl4 ⊢
        refine ⟨_, rfl, _, rfl, l1, _, _, .str _, rfl, rfl, SqL.of hl4, at0, rfl, .inr ⟨_, rfl, _, _, rfl, rfl, l1, _, _, .str p, rfl, rfl, SqL.of hl4, ?_, ?_⟩⟩
        · rw [eqW]
          exact (at1 : atI (_ :: V.str p :: _) 1 = _)
        refine ⟨_, rfl, _, rfl, D, _, rfl, .inl (SqL.of hD4), rfl, flat_strs _, _, rfl, ?_⟩
        rw [inV_strs]
        by_cases hm : (procs ss).contains p = true
        · refine iteFc (by rw [hm]; rfl) ⟨_, rfl, _, rfl, 1, rfl, S, _, _, .str m, rfl, rfl, SqL.of hS4, hm1, rfl, _, rfl, ?_⟩
          rw [eqW]
          by_cases he : p = m
          · rw [if_pos (.inr (by rw [hm2, he]))] at hN'
            exact iteTc (decide_eq_true he) ⟨_, rfl, ret _ s4 hN'⟩
          · rw [if_neg (by rw [hm2]; exact fun h => h.elim (fun h => h (List.contains_iff_mem.mp hm)) (fun h => he (by injection h with h; exact h.symm)))] at hN'
            exact iteFc (decide_eq_false he) ⟨_, _, _, rfl, hD4, by rw [hlk]; exact hS4, s4, by rw [hlk]; exact hnm.symm.trans hN', by rw [hlk]; exact h40, .inr (by rw [hlk]; exact hb1)⟩
        · rw [if_pos (.inl (fun h => hm (List.contains_iff_mem.mpr h)))] at hN'
          exact iteTc (by rw [Bool.eq_false_iff.mpr hm]; rfl) ⟨_, rfl, ret _ s4 hN'⟩
      | recv x p =>
        have hi0 := hi0 rfl
        have hlk : (procs (ss.take (i + 1))) = (procs (ss.take i)) := by rw [htk]; simp [procs]
        have hb1 : 1 ≤ (procs (ss.take i)).length := hb0.resolve_left hi0
        have hN' : nmF ss = if p ∉ procs ss ∨ (procs ss)[(procs (ss.take i)).length - 1]? = some p then some i else nmG (procs ss) (i + 1) (procs (ss.take i)).length (ss.drop (i + 1)) := hN
        obtain ⟨m, hm1, hm2⟩ : ∃ m, atI ((procs (ss.take i)).map V.str) (-1) = some (.str m) ∧ (procs ss)[(procs (ss.take i)).length - 1]? = some m := by
          generalize procs (ss.take i) = pl at hpt hb1 ⊢
          rcases List.eq_nil_or_concat pl with h | ⟨init, m, h⟩
          · rw [h] at hb1; simp at hb1
          · subst h
            refine ⟨m, ?_, ?_⟩
            · rw [List.concat_eq_append, List.map_append]
              exact atI_lastR
            · have h1 : (init.concat m)[init.length]? = some m := by simp
              rw [hpt, List.getElem?_take] at h1
              split at h1
              · simpa using h1
              · cases h1
        refine iteFc (decide_eq_false (by simp only [Stp.word]; decide +kernel)) ⟨_, rfl, l1, _, _, .str _, rfl, rfl, SqL.of hl2x, at0, (by show 2 ≤ sizeLine; decide), fun q nq => ⟨q, (["send", "receive"] : List Str).map V.str, rfl, .inr (SqT.of upd_same), rfl, flat_strs _, _, rfl, iteTc (by rw [if_neg (by decide), hinv]; simp only [Stp.word]; decide +kernel) ?_⟩⟩
        have s4 := two q Hx nq sm
        have hD4 := same_new (o := .tup [V.str "send", V.str "receive"]) nq _ _ hDx
        have hS4 := same_new (o := .tup [V.str "send", V.str "receive"]) nq _ _ hSx
        have hl4 := same_new (o := .tup [V.str "send", V.str "receive"]) nq _ _ hl2x
        generalize upd Hx q (.tup [V.str "send", V.str "receive"]) = H4 at s4 hD4 hS4 hl4 ⊢
        refine ⟨_, rfl, _, rfl, l1, _, _, .str _, rfl, rfl, SqL.of hl4, at0, rfl, .inr ⟨_, rfl, _, _, rfl, rfl, l1, _, _, .str p, rfl, rfl, SqL.of hl4, ?_, ?_⟩⟩
        · rw [eqW]
          exact (at2 : atI (_ :: _ :: V.str p :: _) 2 = _)
        refine ⟨_, rfl, _, rfl, D, _, rfl, .inl (SqL.of hD4), rfl, flat_strs _, _, rfl, ?_⟩
        rw [inV_strs]
        by_cases hm : (procs ss).contains p = true
        · refine iteFc (by rw [hm]; rfl) ⟨_, rfl, _, rfl, 1, rfl, S, _, _, .str m, rfl, rfl, SqL.of hS4, hm1, rfl, _, rfl, ?_⟩
          rw [eqW]
          by_cases he : p = m
          · rw [if_pos (.inr (by rw [hm2, he]))] at hN'
            exact iteTc (decide_eq_true he) ⟨_, rfl, ret _ s4 hN'⟩
          · rw [if_neg (by rw [hm2]; exact fun h => h.elim (fun h => h (List.contains_iff_mem.mp hm)) (fun h => he (by injection h with h; exact h.symm)))] at hN'
            exact iteFc (decide_eq_false he) ⟨_, _, _, rfl, hD4, by rw [hlk]; exact hS4, s4, by rw [hlk]; exact hnm.symm.trans hN', by rw [hlk]; exact h40, .inr (by rw [hlk]; exact hb1)⟩
        · rw [if_pos (.inl (fun h => hm (List.contains_iff_mem.mpr h)))] at hN'
          exact iteTc (by rw [Bool.eq_false_iff.mpr hm]; rfl) ⟨_, rfl, ret _ s4 hN'⟩
      | _ =>
        have hi0 := hi0 rfl
        have hlk : (procs (ss.take (i + 1))) = (procs (ss.take i)) := by rw [htk]; simp [procs]
        refine iteFc (decide_eq_false (by simp only [Stp.word]; decide +kernel)) ⟨_, rfl, l1, _, _, .str _, rfl, rfl, SqL.of hl2x, at0, (by show 2 ≤ sizeLine; decide), fun q nq => ⟨q, (["send", "receive"] : List Str).map V.str, rfl, .inr (SqT.of upd_same), rfl, flat_strs _, _, rfl, iteFc (by rw [if_neg (by decide), hinv]; simp only [Stp.word]; decide +kernel) ⟨_, _, _, rfl, same_new nq _ _ hDx, by rw [hlk]; exact same_new nq _ _ hSx, two q _ nq sm, by rw [hlk]; exact hnm.symm.trans hN, by rw [hlk]; exact h40, .inr (by rw [hlk]; exact hb0.resolve_left hi0)⟩⟩⟩
    · rintro σ Hx ⟨x2, x4, x5, rfl, hDx, hSx, sm, hN, h40, hb0⟩
      rw [List.drop_length] at hN
      refine ⟨_, rfl, (by show 0 ≤ sizeLine; decide), fun e ne => ⟨.list (ss.map formD), .list [], .lst (SqL.of (same_new ne _ _ (sm _ _ hF))) (ls_dp (hls.same (sm.trans (same_new ne)))), .lst (SqL.of upd_same) .nil, sh_forms hgood, by decide +kernel, _, rfl, ?_⟩⟩
      have hk := k _ (sm.trans (same_new (o := .lst []) ne))
      cases ss with
      | nil => exact iteTc rfl hk
      | cons s r =>
        have : nmF (s :: r) = none := hN
        rw [this] at hk
        exact iteFc rfl hk
end
end XE

set_option Elab.async false
set_option linter.all false
set_option maxRecDepth 100000
set_option maxHeartbeats 1000000
namespace XE
open PySem PySem.Spec PyProof.Rows L2 Rx SX
abbrev sProgDue : Stmt := topS 62
abbrev sFoundP : Stmt := topS 63
theorem room65 {k : Nat} {A : Around} (h : Room k A) : A.units + 65 < cLine := by have := h.un; omega
def DueAt (K : PySem.W.Frag) (H : Hp) (v : V) : Except (Nat × Str) (List Stp) → Prop
  | .ok _ => v = .non
  | .error (n, s) => Dp K H v (.tuple [.int (n : Nat), .str s])
def spProgDue (K : PySem.W.Frag) : Sp := fun vs H Q _ => ∃ (a : Addr) (zs : List Str) (os : List (Option Stp)), vs = [.ref a] ∧ H a = some (.lst (zs.map V.str)) ∧ zs.length ≤ 100000 ∧ (zs.length ≤ 400 → LinesR zs os) ∧ ∀ H' v, Same H H' → DueAt K H' v (progR zs.length os) → Q v H'
def FV (H : Hp) (D : Addr) (v : V) : Option Stp → Prop
  | none => v = .non
  | some s => ∃ l, v = .ref l ∧ l ≠ D ∧ H l = some (.lst ((formS s).map V.str))
def FsAt (H : Hp) (D : Addr) : List V → List (Option Stp) → Prop
  | v :: vs, o :: os => FV H D v o ∧ FsAt H D vs os
  | [], [] => True
  | _, _ => False
theorem FsAt.keep {H H' : Hp} {D : Addr} (s : ∀ a xs, a ≠ D → H a = some (.lst xs) → H' a = some (.lst xs)) : ∀ {vs : List V} {os : List (Option Stp)}, FsAt H D vs os → FsAt H' D vs os
  | v :: vs, o :: os, ⟨a, h⟩ => ⟨by
      cases o with
      | none => exact a
      | some x =>
        obtain ⟨l, h1, h3, h2⟩ := a
        exact ⟨l, h1, h3, s _ _ h3 h2⟩, FsAt.keep s h⟩
  | [], [], _ => trivial
  | _ :: _, [], h => h.elim
  | [], _ :: _, h => h.elim
theorem FsAt.len {H : Hp} {D : Addr} : ∀ {vs : List V} {os : List (Option Stp)}, FsAt H D vs os → vs.length = os.length
  | _ :: _, _ :: _, ⟨_, h⟩ => by rw [List.length_cons, List.length_cons, h.len]
  | [], [], _ => rfl
  | _ :: _, [], h => h.elim
  | [], _ :: _, h => h.elim
theorem FsAt.snoc {H : Hp} {D : Addr} {v : V} {o : Option Stp} (k : FV H D v o) : ∀ {vs : List V} {os : List (Option Stp)}, FsAt H D vs os → FsAt H D (vs ++ [v]) (os ++ [o])
  | _ :: _, _ :: _, ⟨a, h⟩ => ⟨a, FsAt.snoc k h⟩
  | [], [], _ => ⟨k, trivial⟩
  | _ :: _, [], h => h.elim
  | [], _ :: _, h => h.elim
theorem FsAt.all {H : Hp} {D : Addr} : ∀ {vs : List V} {ss : List Stp}, FsAt H D vs (ss.map some) → ∃ ls : List Addr, vs = ls.map V.ref ∧ LsAt H ls ss
  | _ :: _, _ :: _, ⟨⟨l, e, _, a⟩, h⟩ => by
    obtain ⟨ls, h1, h2⟩ := FsAt.all h
    exact ⟨l :: ls, by rw [e, h1]; rfl, a, h2⟩
  | [], [], _ => ⟨[], rfl, trivial⟩
  | _ :: _, [], h => h.elim
  | [], _ :: _, h => h.elim
def optFD : Option Stp → PyData
  | none => .none
  | some s => formD s
theorem fs_dp {K : PySem.W.Frag} {H : Hp} {D : Addr} : ∀ {vs : List V} {os : List (Option Stp)}, FsAt H D vs os → DpAll K H vs (os.map optFD)
  | v :: _, none :: _, ⟨a, h⟩ => .cons (by rw [show v = .non from a]; exact .non) (fs_dp h)
  | _ :: _, some s :: _, ⟨⟨l, e, _, a⟩, h⟩ => .cons (by rw [e]; exact .lst (SqL.of a) (dpStrs2 _ (formS s))) (fs_dp h)
  | [], [], _ => .nil
  | _ :: _, [], h => h.elim
  | [], _ :: _, h => h.elim
theorem sh_opts {os : List (Option Stp)} (h : ∀ s, some s ∈ os → s.good) : SeqAt.shaped (.list (os.map optFD)) = true := by
  have h1 : ∀ os : List (Option Stp), (∀ s, some s ∈ os → s.good) → PyData.canLayAll0 (os.map optFD) = true ∧ PyData.depthAll (os.map optFD) ≤ 1 := by
    intro os
    induction os with
    | nil => intro _; simp [PyData.canLayAll0, PyData.depthAll]
    | cons o os ih =>
      intro h
      obtain ⟨i1, i2⟩ := ih fun x hx => h x (by simp [hx])
      have hj : (optFD o).canLay0 = true ∧ (optFD o).depth ≤ 1 := by
        cases o with
        | none => exact ⟨by decide +kernel, by decide +kernel⟩
        | some s => exact lay_list (form_ok (h s (by simp)))
      refine ⟨?_, ?_⟩
      · show ((optFD o).canLay0 && PyData.canLayAll0 (os.map optFD)) = true
        rw [i1, hj.1]; rfl
      · show max (optFD o).depth (PyData.depthAll (os.map optFD)) ≤ 1
        omega
  obtain ⟨g1, g2⟩ := h1 os h
  simp [SeqAt.shaped, PyData.canLay0, PyData.depth, g1]
  omega
theorem eqv_none (o : Option Stp) : PyData.eqv (optFD o) .none = o.isNone := by
  cases o with
  | none => simp [optFD, PyData.eqv]
  | some s => simp [optFD, formD, PyData.eqv]
theorem any_none (os : List (Option Stp)) : ((os.map optFD).any fun z => PyData.eqv z .none) = os.any Option.isNone := by
  induction os with
  | nil => rfl
  | cons o os ih => rw [List.map_cons, List.any_cons, List.any_cons, ih, eqv_none]
theorem steps_cases : ∀ (os : List (Option Stp)) (n : Nat), (os.any Option.isNone = true ∧ ∃ i, steps n os = .error (n + i) ∧ os[i]? = some none ∧ ∀ m < i, ∃ s, os[m]? = some (some s)) ∨ (os.any Option.isNone = false ∧ ∃ ss : List Stp, os = ss.map some)
  | [], n => .inr ⟨rfl, [], rfl⟩
  | none :: os, n => .inl ⟨rfl, 0, rfl, rfl, fun m h => by omega⟩
  | some s :: os, n => by
    rcases steps_cases os (n + 1) with ⟨h1, i, h2, h3, h4⟩ | ⟨h1, ss, h2⟩
    · refine .inl ⟨h1, i + 1, ?_, h3, fun m hm => ?_⟩
      · unfold steps
        rw [h2, show n + 1 + i = n + (i + 1) by omega]
        rfl
      · cases m with
        | zero => exact ⟨s, rfl⟩
        | succ m => exact h4 m (by omega)
    · exact .inr ⟨h1, s :: ss, by rw [h2]; rfl⟩
section
variable {P : Program} {w : World} {K : PySem.W.Frag} {mg : Str → Option Value} {base : Heap} {CP C : Addr}
abbrev pdN : List Str := ["_law_lines", "_law_forms", "_law_line"]
theorem scPD : FnScope pdN ["_law_lines"] (defScope sProgDue) := ⟨rfl, rfl, rfl, by decide +kernel, rfl, by decide +kernel, by decide +kernel⟩
theorem ok_progDue {f fL fB fN : Addr} {fd fdL fdB fdN : FuncData} (F : Fun K "_law_program_due" "_law_program_due" sProgDue f fd) (mlen : mg "len" = none) (CL : Cal P w K mg base 4 "_law_line_form" fL fdL ["_law_line"] spLineForm) (CB : Cal P w K mg base 1 "_law_block_due" fB fdB ["_law_forms"] spBlockDue) (CN : Cal P w K mg base 1 "_law_name_due" fN fdN ["_law_forms"] spNameDue) :
    FnOk P w K mg base CX0 5 f fd ["_law_lines"] (spProgDue K) := by
  refine F.ok scPD (fun vs H Q E h => ?_) (fun cdv A outer s H vs Q E hr h => ?_)
  · obtain ⟨_, _, _, rfl, _⟩ := h
    rfl
  · obtain ⟨a, zs, os, rfl, ha, hz1, hR, k⟩ := h
    have hr1 : Room 1 _ := hr.mono (by decide)
    refine ⟨_, (pss_cons (ps_if (pt_cmpR op_gt (pe_callB call_len_seq (by rfl) mlen PySem.boot_len (pa_cons (pv 0) pa_nil)) pe_int (nomark _)) (pss_one (ps_ret (pe_tup (pa_cons pe_int (pa_cons pe_str pa_nil))))) pss_nil) (pss_cons (ps_setLc (i := 1) (own := [("_law_line", 2)]) (g := gName 2) (tt := tYes) (te := tCall spLineForm [] E0 (tCons (tVar 2) tNil)) rfl scPD.nd rfl rfl (sw_true rfl rfl rfl (by decide +kernel)) (pi_list (pv 0)) (blkOk_by (own := [("_law_line", 2)]) (N := pdN) (sc := defScope sProgDue) (by decide +kernel)) (fun _ _ _ _ _ => (pg_name (i := 2) scPD.nd rfl (Or.inl rfl))) (fun _ _ _ _ _ => pts_nil) (fun _ _ _ _ _ => (pe_call CL.ok hr rfl CL.mg CL.kp CL.bi .nil pass0 (pa_cons (pv 2) pa_nil)))) (pss_cons (ps_if (pt_cmpR (op_inD (room65 hr)) pe_non (pv 1) rfl) (pss_one (ps_ret (pe_tup (pa_cons (pe_bm PySem.F.plainAttrs_list PySem.F.slot_list_index PySem.F.type_list_index (mt_indexD (room65 hr)) (pv 1) (pa_cons pe_non pa_nil)) (pa_cons pe_str pa_nil))))) pss_nil) (pss_cons (ps_set (i := 2) scPD.nd rfl (.inl rfl) (pe_call CB.ok hr1 rfl CB.mg CB.kp CB.bi .nil pass0 (pa_cons (pv 1) pa_nil))) (pss_cons (ps_if (pt_cmpR op_notN (pv 2) pe_non (nomark _)) (pss_one (ps_ret (pe_tup (pa_cons (pv 2) (pa_cons pe_str pa_nil))))) pss_nil) (pss_cons (ps_set (i := 2) scPD.nd rfl (.inl rfl) (pe_call CN.ok hr1 rfl CN.mg CN.kp CN.bi .nil pass0 (pa_cons (pv 1) pa_nil))) (pss_one (ps_ret (pe_ifExp (pt_cmpR op_notN (pv 2) pe_non (nomark _)) (pe_tup (pa_cons (pv 2) (pa_cons pe_str pa_nil))) pe_non))))))))), ?_⟩
    refine ⟨_, rfl, a, _, rfl, .inl (SqL.of ha), _, _, rfl, rfl, _, rfl, ?_⟩
    have d4 : decide ((400 : Int) < ((zs.map V.str).length : Int)) = decide (400 < zs.length) := by
      rw [decide_eq_decide, List.length_map]; omega
    rw [d4]
    unfold progR at k
    by_cases h4 : 400 < zs.length
    · rw [if_pos h4] at k
      exact iteTc (decide_eq_true h4) ⟨(by show 2 ≤ sizeLine; decide), fun q nq => k _ _ (same_new nq) (.tup (SqT.of upd_same) (.cons (.int _) (.cons (.str _) .nil)))⟩
    rw [if_neg h4] at k
    have hz4 : zs.length ≤ 400 := by omega
    obtain ⟨hol, hor⟩ := hR hz4
    have hgood : ∀ s, some s ∈ os → s.good := fun s hs => by
      obtain ⟨i, hi'⟩ := List.mem_iff_getElem?.mp hs
      have hil : i < os.length := (List.getElem?_eq_some_iff.mp hi').1
      obtain ⟨_, o, ho, hLR⟩ := hor i zs[i] (List.getElem?_eq_getElem (by omega))
      rw [hi'] at ho
      injection ho with ho
      subst ho
      exact line_good hLR
    refine iteFc (decide_eq_false h4) ⟨_, rfl, a, rfl, ⟨_, SqL.of ha⟩, fun D hD => ?_⟩
    refine lc_list (K := K) (a := a) (xs := zs.map V.str) (fun i Hx => ∃ vs, Hx D = some (.lst vs) ∧ FsAt Hx D vs (os.take i) ∧ Same H Hx ∧ vs.length ≤ i) ⟨[], upd_same, by rw [List.take_zero]; trivial, same_new hD, Nat.le_refl _⟩ (fun i Hx _ q => SqL.of (q.choose_spec.2.2.1 _ _ ha)) ?_ ?_
    · rintro i x Hx hx ⟨vs, h1, h2, sm, h3⟩
      rw [List.getElem?_map] at hx
      obtain ⟨z, hz, rfl⟩ := Option.map_eq_some_iff.mp hx
      obtain ⟨hzl, o, ho, ⟨T, hT, rfl⟩⟩ := hor i z hz
      have hi : i < zs.length := (List.getElem?_eq_some_iff.mp hz).1
      refine ⟨rfl, ?_⟩
      dsimp only [tYes]
      rw [if_pos rfl]
      refine ⟨_, rfl, z, T, rfl, hzl, hT, fun v H2 s2 hv => ⟨vs, s2 _ _ h1, Nat.lt_of_le_of_lt h3 (Nat.lt_of_lt_of_le (by omega : i < 400) (by decide)), vs ++ [v], upd_same, ?_, ?_, by rw [List.length_append, List.length_singleton]; omega⟩⟩
      · rw [List.take_add_one, ho]
        have kp : ∀ a xs, a ≠ D → Hx a = some (.lst xs) → upd H2 D (.lst (vs ++ [v])) a = some (.lst xs) := fun a xs n e => by
          rw [upd_ne n]
          exact s2 _ _ e
        refine FsAt.snoc ?_ (h2.keep kp)
        unfold formF at hv
        cases e : lineF z T with
        | none => rw [e] at hv; exact hv
        | some st =>
          rw [e] at hv
          obtain ⟨l, hl1, hl2, hl3⟩ := hv
          have hlD : l ≠ D := fun x => by rw [x, h1] at hl2; cases hl2
          exact ⟨l, hl1, hlD, by rw [upd_ne hlD]; exact hl3⟩
      · exact same_upd0 (sm.trans s2) hD
    rintro H2 ⟨vs, h1, h2, sm, h3⟩
    rw [List.length_map, ← hol, List.take_length] at h2
    have hvl := h2.len
    have hdp : Dp K H2 (.ref D) (.list (os.map optFD)) := .lst (SqL.of h1) (fs_dp h2)
    refine ⟨_, rfl, .none, os.map optFD, .non, hdp, by decide +kernel, sh_opts hgood, _, rfl, ?_⟩
    rw [any_none]
    rcases steps_cases os 0 with ⟨c1, i, c2, c3, c4⟩ | ⟨c1, ss, rfl⟩
    · rw [c1]
      rw [c2] at k
      dsimp only at k
      refine iteTc rfl ⟨_, rfl, .inl ⟨rfl, _, SqL.of h1⟩, D, .non, .none, os.map optFD, i, .none, rfl, rfl, hdp, .non, sh_opts hgood, by decide +kernel, by rw [List.getElem?_map, c3]; rfl, by decide +kernel, fun m z' hm hz' => ?_, (by show 2 ≤ sizeLine; decide), fun q nq => k _ _ (sm.trans (same_new nq)) (.tup (SqT.of upd_same) (.cons ?_ (.cons (.str _) .nil)))⟩
      · obtain ⟨s, hs⟩ := c4 m hm
        rw [List.getElem?_map, hs] at hz'
        injection hz' with hz'
        rw [← hz']
        exact eqv_none (some s)
      · rw [Nat.zero_add]
        exact .int _
    · rw [c1]
      rw [steps_ok] at k
      dsimp only at k
      obtain ⟨ls, rfl, hls⟩ := h2.all
      have hsl : ss.length ≤ 400 := by rw [List.length_map] at hol; omega
      have hgd : ∀ s ∈ ss, s.good := fun s hs => hgood s (List.mem_map.mpr ⟨s, hs, rfl⟩)
      refine iteFc rfl ⟨_, rfl, D, ss, rfl, ⟨ls, h1, hls⟩, hsl, fun H3 s3 => ⟨_, rfl, rfl, _, rfl, ?_⟩⟩
      have s13 := sm.trans s3
      cases hb : blkF 0 [] ss with
      | some n =>
        rw [hb] at k
        exact iteTc (by simp [optV]) ⟨_, rfl, (by show 2 ≤ sizeLine; decide), fun q nq => k _ _ (s13.trans (same_new nq)) (.tup (SqT.of upd_same) (.cons (.int _) (.cons (.str _) .nil)))⟩
      | none =>
      rw [hb] at k
      dsimp only at k
      have hfst : ∀ s r, ss = s :: r → isProc s = true := fun s r e => by
        rw [e] at hb
        exact (word_proc s).mp ((blk_next hb).2.2 rfl)
      refine iteFc (by simp [optV]) ⟨_, rfl, D, ss, rfl, ⟨ls, s3 _ _ h1, hls.same s3⟩, hsl, hgd, hfst, fun H4 s4 => ⟨_, rfl, rfl, _, rfl, ?_⟩⟩
      have s14 := s13.trans s4
      cases hn : nmF ss with
      | some n =>
        rw [hn] at k
        exact iteTc (by simp [optV]) ⟨_, rfl, (by show 2 ≤ sizeLine; decide), fun q nq => k _ _ (s14.trans (same_new nq)) (.tup (SqT.of upd_same) (.cons (.int _) (.cons (.str _) .nil)))⟩
      | none =>
        rw [hn] at k
        exact iteFc (by simp [optV]) (k _ _ s14 rfl)
def spFoundP (K : PySem.W.Frag) : Sp := fun vs H Q _ => ∃ (a : Addr) (zs : List Str) (os : List (Option Stp)), vs = [.ref a] ∧ (SqL K H a (zs.map V.str) ∨ SqT K H a (zs.map V.str)) ∧ zs.length ≤ 100000 ∧ (zs.length ≤ 400 → LinesR zs os) ∧ ∀ H' v, Same H H' → DueAt K H' v (progR zs.length os) → Q v H'
abbrev fpN : List Str := ["_law_lines", "_law_found_here", "e"]
theorem scFP : FnScope fpN ["_law_lines"] (defScope sFoundP) := ⟨rfl, rfl, rfl, by decide +kernel, rfl, by decide +kernel, by decide +kernel⟩
theorem ok_foundP {f fP : Addr} {fd fdP : FuncData} (F : Fun K "_law_found" "_law_found" sFoundP f fd) (TP : RaiT P w K mg base "BadProgram" CP ["line", "reason"]) (CP_ : CalX P w K mg base 49 "parse_program" fP fdP ["lines"] (spParsePg K C CP)) : FnOk P w K mg base CX0 50 f fd ["_law_lines"] (spFoundP K) := by
  refine F.ok scFP (fun vs H Q E h => ?_) (fun cdv A outer s H vs Q E hr h => ?_)
  · obtain ⟨_, _, _, rfl, _⟩ := h
    rfl
  · obtain ⟨a, zs, os, rfl, ha, hz1, hR, k⟩ := h
    have CP := CP_
    refine ⟨_, (pss_cons (ps_set (i := 1) scFP.nd rfl (.inl rfl) pe_non) (pss_cons (ps_try_as (i := 2) rfl rfl scFP.nd rfl rfl ⟨rfl, by decide, .inl TP.mgx⟩ takes0 (fun W pn xe tk _ => (pss_one (ps_expr (pe_callS CP.ok hr rfl CP.mg CP.kp CP.bi (fun σ => passAt tk σ) (pa_cons (pv 0) pa_nil))))) (fun a oe cls d pn hz hf => (pss_one (ps_set (i := 1) scFP.nd rfl (.inl rfl) (pe_tup (pa_cons (pe_xf TP.xf (TP.no "line" (by simp)) hz hf (pv 2)) (pa_cons (pe_xf TP.xf (TP.no "reason" (by simp)) hz hf (pv 2)) pa_nil))))))) (pss_one (ps_ret (pv 1))))), ?_⟩
    refine ⟨_, rfl, a, zs, os, rfl, ha, hz1, hR, fun ss hss p H' sm _ _ => ⟨_, rfl, k H' .non sm (by rw [hss]; rfl)⟩, fun n r e H' dx sm hdn hx => ?_⟩
    exact ⟨true, TP.self, (fun _ a ha => ⟨_, rfl, rfl, rfl, dx, _, _, rfl, hx, rfl, _, rfl, rfl, rfl, dx, _, _, rfl, hx, rfl, (by show 2 ≤ sizeLine; decide), fun q nq => ⟨_, rfl, k _ _ (sm.trans (same_new nq)) (by rw [e]; exact .tup (SqT.of upd_same) (.cons (.int _) (.cons (.str _) .nil)))⟩⟩), fun z => by cases z⟩
end
end XE

set_option Elab.async false
set_option linter.all false
set_option maxRecDepth 100000
set_option maxHeartbeats 1000000
namespace XE
open PySem PySem.Spec PyProof.Rows L2 Rx SX
abbrev sLaw : Stmt := topS 64
theorem lines_ex : ∀ zs : List Str, (∀ z ∈ zs, z.length ≤ 900) → ∃ os, LinesR zs os
  | [], _ => ⟨[], rfl, fun i z h => by simp at h⟩
  | z :: zs, h => by
    obtain ⟨os, h1, h2⟩ := lines_ex zs fun x hx => h x (List.mem_cons_of_mem _ hx)
    have hz := h z (by simp)
    have hat : (argT z).length ≤ 900 := by
      obtain ⟨l1, l2⟩ := par_len z
      obtain ⟨l3, l4⟩ := par_len (par z).2.2
      unfold argT
      split <;> omega
    obtain ⟨T, hT⟩ := rd_ex (argC z) (argT z) hat
    refine ⟨lineF z T :: os, by rw [List.length_cons, List.length_cons, h1], fun i x hx => ?_⟩
    cases i with
    | zero => simp at hx; subst hx; exact ⟨hz, _, rfl, T, hT, rfl⟩
    | succ i => simp only [List.getElem?_cons_succ] at hx ⊢; exact h2 i x hx
def spLaw (K : PySem.W.Frag) : Sp := fun vs H Q _ => ∃ (a : Addr) (ns : List Int), vs = [.ref a] ∧ SqL K H a (ns.map V.int) ∧ ∀ H', Q (.bl true) H'
def linL : List Str := ["if x = 1", "while x < y", "else", "end", "end", "checkpoint", "process a", "take x", "end", "odd"]
theorem cut_drop1 (xs : List V) : cutV xs (some (1 : Int)) none = xs.drop 1 := by
  unfold cutV
  have e : HT.sIx xs.length 0 (some (1 : Int)) = min 1 xs.length := HT.sIx_nat _ _ 1
  rw [HT.sIx_none, e]
  cases xs with
  | nil => rfl
  | cons x r =>
    rw [Nat.min_eq_left (by simp)]
    exact List.take_of_length_le (by simp)
theorem rep_map (n : Nat) (x : Str) : (List.replicate n [V.str x]).flatten = (List.replicate n x).map V.str := by
  induction n with
  | zero => rfl
  | succ n ih => rw [List.replicate_succ, List.flatten_cons, ih, List.replicate_succ]; rfl
def dueD : Except (Nat × Str) (List Stp) → PyData
  | .ok _ => .none
  | .error (n, s) => .tuple [.int (n : Nat), .str s]
theorem due_dp {K : PySem.W.Frag} {H : Hp} {v : V} {r : Except (Nat × Str) (List Stp)} (h : DueAt K H v r) : Dp K H v (dueD r) := by
  cases r with
  | ok _ => rw [show v = .non from h]; exact .non
  | error e => exact h
def reaL : List Str := ["limit", "line", "block", "name"]
theorem rea_in (many : Nat) (os : List (Option Stp)) {n : Nat} {s : Str} (h : progR many os = .error (n, s)) : s ∈ reaL := by
  have e : ∀ x ∈ reaL, x ∈ reaL := fun x h => h
  have m1 : ("limit" : Str) ∈ reaL := by decide +kernel
  have m2 : ("line" : Str) ∈ reaL := by decide +kernel
  have m3 : ("block" : Str) ∈ reaL := by decide +kernel
  have m4 : ("name" : Str) ∈ reaL := by decide +kernel
  unfold progR at h
  split at h
  · injection h with h; injection h with _ h; rw [← h]; exact m1
  split at h
  · injection h with h; injection h with _ h; rw [← h]; exact m2
  split at h
  · injection h with h; injection h with _ h; rw [← h]; exact m3
  split at h
  · injection h with h; injection h with _ h; rw [← h]; exact m4
  · cases h
theorem rea_ok : ∀ x ∈ reaL, PyData.strOk x = true := by decide +kernel
theorem due_shaped (many : Nat) (os : List (Option Stp)) : SeqAt.shaped (dueD (progR many os)) = true := by
  cases h : progR many os with
  | ok _ => exact (by decide +kernel : SeqAt.shaped PyData.none = true)
  | error e =>
    obtain ⟨n, s⟩ := e
    have := rea_ok s (rea_in many os h)
    simp [dueD, SeqAt.shaped, PyData.canLay0, PyData.canLayAll0, PyData.depth, PyData.depthAll, this]
theorem prog0 : progR 0 [] = .error (0, "name") := rfl
theorem prog1 {s : Stp} (h : s.word ≠ "process") : progR 1 [some s] = .error (0, "block") := by
  unfold progR
  rw [if_neg (by decide), show steps 0 [some s] = .ok [s] from rfl]
  dsimp only
  rw [blkF_cons, if_pos (.inl ⟨rfl, h⟩)]
theorem prog2 (n : Str) : progR 2 [some (.proc n), some .els] = .error (1, "block") := by
  unfold progR
  rw [if_neg (by decide), show steps 0 [some (Stp.proc n), some .els] = .ok [.proc n, .els] from rfl]
  dsimp only
  have hp : (Stp.proc n).word = "process" := rfl
  rw [blkF_cons, if_neg (by
    rintro (⟨_, h⟩ | h)
    · exact h rfl
    · rw [hp] at h; revert h; decide +kernel), hp, show pushB "process" [] = [] from (pushW []).2.2.2.2.1, blkF_cons, if_pos (.inr (by decide +kernel))]
theorem solo_R {z : Str} (hz : z.length ≤ 900) (h : soloL.contains z = true) : LineR z (some (soloS z)) := by
  have hat : (argT z).length ≤ 900 := by
    obtain ⟨l1, l2⟩ := par_len z
    obtain ⟨l3, l4⟩ := par_len (par z).2.2
    unfold argT
    split <;> omega
  obtain ⟨T, hT⟩ := rd_ex (argC z) (argT z) hat
  exact ⟨T, hT, by unfold lineF; rw [if_pos h]⟩
theorem proc_R : LineR "process a" (some (.proc "a")) := by
  have e : par "process a" = (("process" : Str), (" " : Str), ("a" : Str)) := by decide +kernel
  obtain ⟨T, hT⟩ := rd_ex (argC "process a") (argT "process a") (by
    obtain ⟨l1, l2⟩ := par_len "process a"
    obtain ⟨l3, l4⟩ := par_len (par "process a").2.2
    have : ("process a" : Str).length ≤ 900 := by decide +kernel
    unfold argT
    split <;> omega)
  refine ⟨T, hT, ?_⟩
  unfold lineF
  rw [if_neg (by decide +kernel), e, if_pos (by decide +kernel), if_pos (by decide +kernel)]
  rfl
theorem set_R : LineR "set x 1" (some (.set "x" (.num 1))) := by
  have e : par "set x 1" = (("set" : Str), (" " : Str), ("x 1" : Str)) := by decide +kernel
  have e2 : par "x 1" = (("x" : Str), (" " : Str), ("1" : Str)) := by decide +kernel
  have hc : argC "set x 1" = false := by unfold argC; rw [e]; decide +kernel
  have ht : argT "set x 1" = "1" := by unfold argT; rw [hc, if_neg (by decide), e]; dsimp only; rw [e2]
  refine ⟨some (.num 1), ?_, ?_⟩
  · rw [hc, ht]
    obtain ⟨r, h1, h2⟩ := txt_reads (b := false) (n := 0) (t := .num 1) (.num (by decide +kernel))
    refine ⟨r, runX_run (by rw [show cod "1" = (Tr.num 1).txt by decide +kernel]; exact h1), h2, ⟨by decide, by decide⟩, by decide⟩
  · unfold lineF
    rw [if_neg (by decide +kernel), e, if_neg (by decide +kernel), if_neg (by decide +kernel), if_pos (by decide +kernel)]
    dsimp only
    rw [e2, if_pos (by decide +kernel)]
    rfl
theorem lines_one {z : Str} {o : Option Stp} (hz : z.length ≤ 900) (h : LineR z o) : LinesR [z] [o] := ⟨rfl, fun i x hx => by
  cases i with
  | zero => simp at hx; subst hx; exact ⟨hz, _, rfl, h⟩
  | succ i => simp at hx⟩
theorem lines_two {z y : Str} {o p : Option Stp} (hz : z.length ≤ 900) (hy : y.length ≤ 900) (h : LineR z o) (k : LineR y p) : LinesR [z, y] [o, p] := ⟨rfl, fun i x hx => by
  match i, hx with
  | 0, hx => simp at hx; subst hx; exact ⟨hz, _, rfl, h⟩
  | 1, hx => simp at hx; subst hx; exact ⟨hy, _, rfl, k⟩
  | i + 2, hx => simp at hx⟩
def dueL : List PyData := [.tuple [.int 0, .str "name"], .tuple [.int 0, .str "block"], .tuple [.int 0, .str "block"], .tuple [.int 1, .str "block"]]
section
variable {P : Program} {w : World} {K : PySem.W.Frag} {mg : Str → Option Value} {base : Heap} {CP C : Addr}
abbrev lawN : List Str := ["_law_script", "_law_stream", "_law_some", "_law_turn", "_law_lines", "_law_k", "_law_deep", "_law_many", "_law_found_here"]
theorem scLw : FnScope lawN ["_law_script"] (defScope sLaw) := ⟨rfl, rfl, rfl, by decide +kernel, rfl, by decide +kernel, by decide +kernel⟩
theorem ok_law {f fD fF fG : Addr} {fd fdD fdF fdG : FuncData} (F : Fun K "law" "law" sLaw f fd) (T : TxtX K mg) (TL : TxtL mg) (mmax : mg "max" = none) (CD : Cal P w K mg base 1 "_law_draw" fD fdD ["_law_stream", "_law_many"] spDraw) (CF : Cal P w K mg base 50 "_law_found" fF fdF ["_law_lines"] (spFoundP K)) (CG : Cal P w K mg base 5 "_law_program_due" fG fdG ["_law_lines"] (spProgDue K)) :
    FnG P w K mg base 51 f fd ["_law_script"] (spLaw K) := by
  refine fnG_of F scLw (fun vs H Q E h => ?_) (fun cdv A outer s H vs Q hg hr h => ?_)
  · obtain ⟨a, ns, rfl, _⟩ := h
    rfl
  · obtain ⟨sc, ns, rfl, hsc, k⟩ := h
    have hr1 : Room 1 _ := hr.mono (by decide)
    have hr5 : Room 5 _ := hr.mono (by decide)
    refine ⟨_, (pss_cons (ps_set (i := 1) scLw.nd rfl (.inl rfl) (pe_lst (pa_cons (pe_callTy call_list_of (by rfl) TL.list_ (by decide +kernel) (pa_cons (pv 0) pa_nil)) (pa_cons pe_int (pa_cons pe_int (pa_cons pe_int pa_nil)))))) (pss_cons (ps_set (i := 2) scLw.nd rfl (.inl rfl) (pe_lst (pa_cons pe_str (pa_cons pe_str (pa_cons pe_str (pa_cons pe_str (pa_cons pe_str (pa_cons pe_str (pa_cons pe_str (pa_cons pe_str (pa_cons pe_str (pa_cons pe_str pa_nil)))))))))))) (C8.pss_cut (ps_for PassesOwn.never rfl (pi_range1 rfl TL.range (pa_cons pe_int pa_nil)) (pg_name (i := 3) scLw.nd rfl (.inl rfl)) (pss_cons (ps_set (i := 4) scLw.nd rfl (.inl rfl) (pe_op op_rep (pe_lst (pa_cons pe_str pa_nil)) (pe_callTy call_int1 (by rfl) T.int_ (by decide +kernel) (pa_cons (pe_cmpR op_gt (pe_call CD.ok hr1 rfl CD.mg CD.kp CD.bi .nil pass0 (pa_cons (pv 1) (pa_cons pe_int pa_nil))) pe_int (nomark _)) pa_nil)))) (C8.pss_cut (ps_for PassesOwn.never rfl (pi_range1 rfl TL.range (pa_cons (pe_ix ix_list (pe_lst (pa_cons pe_int (pa_cons pe_int (pa_cons pe_int (pa_cons pe_int (pa_cons pe_int (pa_cons pe_int pa_nil))))))) (pe_call CD.ok hr1 rfl CD.mg CD.kp CD.bi .nil pass0 (pa_cons (pv 1) (pa_cons pe_int pa_nil))) (fun _ _ => rfl)) pa_nil)) (pg_name (i := 5) scLw.nd rfl (.inl rfl)) (pss_one (ps_expr (pe_bm PySem.F.plainAttrs_list PySem.F.slot_list_append PySem.F.type_list_append mt_append (pv 4) (pa_cons (pe_ix ix_list (pv 2) (pe_call CD.ok hr1 rfl CD.mg CD.kp CD.bi .nil pass0 (pa_cons (pv 1) (pa_cons pe_int pa_nil))) (fun _ _ => rfl)) pa_nil))))) (pss_cons (ps_set (i := 6) scLw.nd rfl (.inl rfl) (pe_op op_sub (pe_callB call_len_seq (by rfl) T.len PySem.boot_len (pa_cons (pv 4) pa_nil)) pe_int)) (C8.pss_cut (ps_for PassesOwn.never rfl (pi_range1 rfl TL.range (pa_cons (pe_call CD.ok hr1 rfl CD.mg CD.kp CD.bi .nil pass0 (pa_cons (pv 1) (pa_cons pe_int pa_nil))) pa_nil)) (pg_name (i := 5) scLw.nd rfl (.inl rfl)) (pss_one (ps_expr (pe_bm PySem.F.plainAttrs_list PySem.F.slot_list_append PySem.F.type_list_append mt_append (pv 4) (pa_cons (pe_ix ix_list (pv 2) (pe_call CD.ok hr1 rfl CD.mg CD.kp CD.bi .nil pass0 (pa_cons (pv 1) (pa_cons (pe_op op_add pe_int (pe_callTy call_int1 (by rfl) T.int_ (by decide +kernel) (pa_cons (pe_cmpR op_eq (pe_call CD.ok hr1 rfl CD.mg CD.kp CD.bi .nil pass0 (pa_cons (pv 1) (pa_cons pe_int pa_nil))) pe_int (nomark _)) pa_nil))) pa_nil))) (fun _ _ => rfl)) pa_nil))))) (C8.pss_cut (ps_if (pt_cmpR op_eq (pe_call CD.ok hr1 rfl CD.mg CD.kp CD.bi .nil pass0 (pa_cons (pv 1) (pa_cons pe_int pa_nil))) pe_int (nomark _)) (pss_one (ps_set (i := 4) scLw.nd rfl (.inl rfl) (pe_op op_cat (pv 4) (pe_op op_rep (pe_lst (pa_cons pe_str pa_nil)) (pe_callB (call_max2 rfl) (by rfl) mmax (by decide +kernel) (pa_cons pe_int (pa_cons (pv 6) pa_nil))))))) pss_nil) (C8.pss_cut (ps_if (pt_cmpR op_eq (pe_call CD.ok hr1 rfl CD.mg CD.kp CD.bi .nil pass0 (pa_cons (pv 1) (pa_cons pe_int pa_nil))) pe_int (nomark _)) (pss_cons (ps_set (i := 7) scLw.nd rfl (.inl rfl) (pe_op op_add pe_int (pe_call CD.ok hr1 rfl CD.mg CD.kp CD.bi .nil pass0 (pa_cons (pv 1) (pa_cons pe_int pa_nil))))) (pss_one (ps_set (i := 4) scLw.nd rfl (.inl rfl) (pe_op op_cat (pe_op op_cat (pe_slice sl_list (pv 4) po_none (po_some pe_int)) (pe_op op_rep (pe_lst (pa_cons pe_str pa_nil)) (pe_op op_sub (pv 7) (pe_callB call_len_seq (by rfl) T.len PySem.boot_len (pa_cons (pv 4) pa_nil))))) (pe_slice sl_list (pv 4) (po_some pe_int) po_none))))) pss_nil) (pss_one (ps_if (pt_cmpR (op_neD hr.units) (pe_call CF.ok hr rfl CF.mg CF.kp CF.bi .nil pass0 (pa_cons (pv 4) pa_nil)) (pe_call CG.ok hr5 rfl CG.mg CG.kp CG.bi .nil pass0 (pa_cons (pv 4) pa_nil)) (nomark _)) (pss_one (ps_ret pe_bl)) pss_nil))))))))) (pss_cons (ps_setLc (i := 8) (own := [("_law_lines", 4)]) (g := gName 4) (tt := tYes) (te := tCall (spFoundP K) [] E0 (tCons (tVar 4) tNil)) rfl scLw.nd rfl rfl (sw_true rfl rfl rfl (by decide +kernel)) (pi_tup (pe_tup (pa_cons (pe_lst pa_nil) (pa_cons (pe_lst (pa_cons pe_str pa_nil)) (pa_cons (pe_tup (pa_cons pe_str pa_nil)) (pa_cons (pe_lst (pa_cons pe_str (pa_cons pe_str pa_nil))) pa_nil)))))) (blkOk_by (own := [("_law_lines", 4)]) (N := lawN) (sc := defScope sLaw) (by decide +kernel)) (fun _ _ _ _ _ => (pg_name (i := 4) scLw.nd rfl (Or.inl rfl))) (fun _ _ _ _ _ => pts_nil) (fun _ _ _ _ _ => (pe_call CF.ok hr rfl CF.mg CF.kp CF.bi .nil pass0 (pa_cons (pv 4) pa_nil)))) (pss_one (ps_ret (pe_cmpR (op_eqD hr.units) (pv 8) (pe_lst (pa_cons (pe_tup (pa_cons pe_int (pa_cons pe_str pa_nil))) (pa_cons (pe_tup (pa_cons pe_int (pa_cons pe_str pa_nil))) (pa_cons (pe_tup (pa_cons pe_int (pa_cons pe_str pa_nil))) (pa_cons (pe_tup (pa_cons pe_int (pa_cons pe_str pa_nil))) pa_nil))))) (nomark _)))))))), ?_⟩
    refine ⟨_, rfl, sc, _, rfl, .inl hsc, fun a1 n1 => ⟨(by show 4 ≤ sizeLine; decide), fun st nst => ?_⟩⟩
    have st1 : a1 ≠ st := fun z => by rw [← z, upd_same] at nst; cases nst
    have S0 : StreamAt (upd (upd H a1 (.lst (ns.map V.int))) st (.lst [.ref a1, .int 0, .int 0, .int 0])) st a1 0 := ⟨ns, 0, 0, by rw [upd_same]; rfl, by rw [upd_ne st1, upd_same], by decide, by decide⟩
    generalize upd (upd H a1 (.lst (ns.map V.int))) st (.lst [.ref a1, .int 0, .int 0, .int 0]) = H0 at S0 ⊢
    refine ⟨(by show 10 ≤ sizeLine; decide), fun So nSo => ?_⟩
    have S1 := S0.same (same_new (o := .lst (linL.map V.str)) nSo)
    have Sos : So ≠ st := fun z => S0.tr.1 (by rw [← z]; exact nSo)
    have Soa : So ≠ a1 := fun z => S0.tr.2 (by rw [← z]; exact nSo)
    have hSo : upd H0 So (.lst (linL.map V.str)) So = some (.lst (linL.map V.str)) := upd_same
    have hgen : upd H0 So (.lst (linL.map V.str)) = upd H0 So (.lst [V.str "if x = 1", V.str "while x < y", V.str "else", V.str "end", V.str "end", V.str "checkpoint", V.str "process a", V.str "take x", V.str "end", V.str "odd"]) := rfl
    rw [hgen] at S1 hSo
    clear hgen
    generalize upd H0 So (.lst [V.str "if x = 1", V.str "while x < y", V.str "else", V.str "end", V.str "end", V.str "checkpoint", V.str "process a", V.str "take x", V.str "end", V.str "odd"]) = Hi at S1 hSo ⊢
    have linB : ∀ z ∈ linL, z.length ≤ 900 := by
      have : ∀ z ∈ linL, z.length ≤ 20 := by decide +kernel
      exact fun z h => Nat.le_trans (this z h) (by decide)
    refine ⟨fun σ _ => ∃ x3 x4 x5 x6 x7 x8 : Option V, σ = [some (.ref sc), some (.ref st), some (.ref So), x3, x4, x5, x6, x7, x8], ?_, ?_⟩
    · refine ⟨8, rfl, by decide, by decide, for_range (lo := 0) (n := 8) (fun i σ Hx => ∃ (x3 x4 x5 x6 x7 x8 : Option V) (c : Nat), σ = [some (.ref sc), some (.ref st), some (.ref So), x3, x4, x5, x6, x7, x8] ∧ StreamAt Hx st a1 c ∧ c ≤ 200 * i ∧ Hx So = some (.lst (linL.map V.str))) ⟨none, none, none, none, none, none, 0, rfl, S1, by decide, hSo⟩ ?_ ?_⟩
      · rintro i σ Hx hi ⟨x3, x4, x5, x6, x7, x8, c, rfl, SA, hc, hSx⟩
        refine ⟨(by show 1 ≤ sizeLine; decide), fun L0 nL0 => ⟨_, rfl, st, a1, c, 8, rfl, by decide, by decide, SA.same (same_new nL0), by omega, fun k1 H1 k10 k11 S2 el1 => ⟨_, _, rfl, rfl, .inr ⟨_, rfl, ?_⟩⟩⟩⟩
        have L0s : L0 ≠ st := fun z => SA.tr.1 (by rw [← z]; exact nL0)
        have L0a : L0 ≠ a1 := fun z => SA.tr.2 (by rw [← z]; exact nL0)
        have hL0 := el1 L0 _ (upd_same (H := Hx) (a := L0) (o := .lst [.str "process b"])) L0s L0a
        have hS1 := el1 So _ (same_new (o := .lst [.str "process b"]) nL0 _ _ hSx) Sos Soa
        have kk : (if decide ((0 : Int) < k1) = true then (1 : Int) else 0) = 0 ∨ (if decide ((0 : Int) < k1) = true then (1 : Int) else 0) = 1 := by split <;> simp
        generalize (if decide ((0 : Int) < k1) = true then (1 : Int) else 0) = k1' at kk ⊢
        have zs0 : ∃ zs : List Str, (List.replicate k1'.toNat [V.str "process b"]).flatten = zs.map V.str ∧ zs.length ≤ 1 ∧ ∀ z ∈ zs, z.length ≤ 900 := by
          rcases kk with rfl | rfl
          · exact ⟨[], rfl, by decide, fun _ h => by cases h⟩
          · exact ⟨["process b"], rfl, by decide, fun z h => by rw [List.mem_singleton.mp h]; decide +kernel⟩
        refine ⟨L0, k1', _, rfl, rfl, hL0, by omega, by omega, ?_, fun L nL => ?_⟩
        · rcases kk with rfl | rfl <;> decide
        obtain ⟨zs, hzs, hzl, hzb⟩ := zs0
        rw [hzs]
        have Ls : L ≠ st := fun z => S2.tr.1 (by rw [← z]; exact nL)
        have La : L ≠ a1 := fun z => S2.tr.2 (by rw [← z]; exact nL)
        have LSo : L ≠ So := (ne_of_none hS1 nL).symm
        have S3 : StreamAt (upd H1 L (.lst (zs.map V.str))) st a1 (c + 1) := S2.same (same_new nL)
        have hS2 := same_new (o := .lst (zs.map V.str)) nL _ _ hS1
        have hL1 : upd H1 L (.lst (zs.map V.str)) L = some (.lst (zs.map V.str)) := upd_same
        generalize upd H1 L (.lst (zs.map V.str)) = H2 at S3 hS2 hL1 ⊢
        -- the blocks that are opened
        refine ⟨fun σ Hy => ∃ (x5 : Option V) (zs : List Str) (cy : Nat), σ = [some (.ref sc), some (.ref st), some (.ref So), some (.int (0 + (i : Int))), some (.ref L), x5, x6, x7, x8] ∧ Hy L = some (.lst (zs.map V.str)) ∧ zs.length ≤ 22 ∧ (∀ z ∈ zs, z.length ≤ 900) ∧ StreamAt Hy st a1 cy ∧ cy ≤ c + 30 ∧ Hy So = some (.lst (linL.map V.str)), ?_, ?_⟩
        · refine ⟨(by show 6 ≤ sizeLine; decide), fun R nR => ⟨_, rfl, st, a1, c + 1, 6, rfl, by decide, by decide, S3.same (same_new nR), by omega, fun k2 H3 k20 k21 S4 el2 => ?_⟩⟩
          have Rs : R ≠ st := fun z => S3.tr.1 (by rw [← z]; exact nR)
          have Ra : R ≠ a1 := fun z => S3.tr.2 (by rw [← z]; exact nR)
          obtain ⟨v, hv, hm⟩ := atI_lt (xs := ([0, 0, 18, 19, 20, 21] : List Int).map V.int) k20 k21
          obtain ⟨n, rfl, hn⟩ : ∃ n : Nat, v = .int (n : Int) ∧ n ≤ 21 := by
            simp only [List.map_cons, List.map_nil, List.mem_cons, List.not_mem_nil, or_false] at hm
            rcases hm with rfl | rfl | rfl | rfl | rfl | rfl
            · exact ⟨0, rfl, by decide⟩
            · exact ⟨0, rfl, by decide⟩
            · exact ⟨18, rfl, by decide⟩
            · exact ⟨19, rfl, by decide⟩
            · exact ⟨20, rfl, by decide⟩
            · exact ⟨21, rfl, by decide⟩
          have hL3 := el2 L _ (same_new (o := .lst (([0, 0, 18, 19, 20, 21] : List Int).map V.int)) nR _ _ hL1) Ls La
          have hS3 := el2 So _ (same_new (o := .lst (([0, 0, 18, 19, 20, 21] : List Int).map V.int)) nR _ _ hS2) Sos Soa
          refine ⟨R, _, _, _, rfl, rfl, SqL.of (el2 R _ upd_same Rs Ra), hv, (n : Int), rfl, by omega, by omega, for_range (lo := 0) (n := n) (fun j σ Hy => ∃ (x5 : Option V) (zs : List Str), σ = [some (.ref sc), some (.ref st), some (.ref So), some (.int (0 + (i : Int))), some (.ref L), x5, x6, x7, x8] ∧ Hy L = some (.lst (zs.map V.str)) ∧ zs.length ≤ 1 + j ∧ (∀ z ∈ zs, z.length ≤ 900) ∧ StreamAt Hy st a1 (c + 1 + 1 + j) ∧ Hy So = some (.lst (linL.map V.str))) ⟨_, zs, rfl, hL3, by omega, hzb, S4, hS3⟩ ?_ ?_⟩
          · rintro j σ Hy hj ⟨x5, zs, rfl, hLy, hzl, hzb, Sy, hSy⟩
            refine ⟨_, rfl, .inl ⟨rfl, _, SqL.of hLy⟩, _, rfl, _, rfl, st, a1, c + 1 + 1 + j, 2, rfl, by decide, by decide, Sy, by omega, fun k3 H4 k30 k31 S5 el3 => ?_⟩
            have hL4 := el3 L _ hLy Ls La
            have hS4 := el3 So _ hSy Sos Soa
            obtain ⟨v, hv, hm⟩ := atI_lt (xs := linL.map V.str) (k := k3) k30 (by show k3 < ((10 : Nat) : Int); omega)
            obtain ⟨z, hz, rfl⟩ := List.mem_map.mp hm
            refine ⟨So, _, _, _, rfl, rfl, SqL.of hS4, hv, L, _, _, rfl, rfl, hL4, by rw [List.length_map]; exact Nat.lt_of_le_of_lt (by omega : zs.length ≤ 30) (by decide), ?_⟩
            refine ⟨_, zs ++ [z], rfl, by rw [upd_same, List.map_append]; rfl, by rw [List.length_append, List.length_singleton]; omega, ?_, S5.upd Ls La, by rw [upd_ne (Ne.symm LSo)]; exact hS4⟩
            intro y hy
            rcases List.mem_append.mp hy with h | h
            · exact hzb y h
            · rw [List.mem_singleton.mp h]; exact linB z hz
          · rintro σ Hy ⟨x5, zs, rfl, hLy, hzl, hzb, Sy, hSy⟩
            exact ⟨x5, zs, _, rfl, hLy, by omega, hzb, Sy, by omega, hSy⟩
        rintro σ Hy ⟨y5, zs, cy, rfl, hLy, hzl, hzb, Sy, hcy, hSy⟩
        refine ⟨_, rfl, L, _, rfl, .inl (SqL.of hLy), _, _, rfl, rfl, ?_⟩
        obtain ⟨dp, hdpe, hdp⟩ : ∃ dp : Int, dp = ((zs.map V.str).length : Int) - 1 ∧ (-1 ≤ dp ∧ dp ≤ 21) := ⟨_, rfl, by rw [List.length_map]; omega⟩
        -- more lines
        refine ⟨fun σ Hy => ∃ (x5 : Option V) (zs : List Str) (cz : Nat), σ = [some (.ref sc), some (.ref st), some (.ref So), some (.int (0 + (i : Int))), some (.ref L), x5, some (.int dp), x7, x8] ∧ Hy L = some (.lst (zs.map V.str)) ∧ zs.length ≤ 44 ∧ (∀ z ∈ zs, z.length ≤ 900) ∧ StreamAt Hy st a1 cz ∧ cz ≤ c + 80 ∧ Hy So = some (.lst (linL.map V.str)), ?_, ?_⟩
        · refine ⟨_, rfl, st, a1, cy, 21, rfl, by decide, by decide, Sy, by omega, fun k4 H4 k40 k41 S5 el3 => ?_⟩
          obtain ⟨m, rfl⟩ := Int.eq_ofNat_of_zero_le k40
          have hL4 := el3 L _ hLy Ls La
          have hS4 := el3 So _ hSy Sos Soa
          refine ⟨(m : Int), rfl, by omega, by omega, for_range (lo := 0) (n := m) (fun j σ Hq => ∃ (x5 : Option V) (zs : List Str), σ = [some (.ref sc), some (.ref st), some (.ref So), some (.int (0 + (i : Int))), some (.ref L), x5, some (.int dp), x7, x8] ∧ Hq L = some (.lst (zs.map V.str)) ∧ zs.length ≤ 22 + j ∧ (∀ z ∈ zs, z.length ≤ 900) ∧ StreamAt Hq st a1 (cy + 1 + 2 * j) ∧ Hq So = some (.lst (linL.map V.str))) ⟨_, zs, (by rw [hdpe]; rfl), hL4, by omega, hzb, S5, hS4⟩ ?_ ?_⟩
          · rintro j σ Hq hj ⟨x5, zs, rfl, hLq, hzl, hzb, Sq, hSq⟩
            refine ⟨_, rfl, .inl ⟨rfl, _, SqL.of hLq⟩, _, rfl, _, rfl, _, rfl, st, a1, cy + 1 + 2 * j, 8, rfl, by decide, by decide, Sq, by omega, fun k5 H5 k50 k51 S6 el4 => ⟨rfl, .inr ⟨_, rfl, _, _, rfl, rfl, ?_⟩⟩⟩
            obtain ⟨m9, hm9e, hm9⟩ : ∃ m9 : Int, m9 = (9 : Int) + (if decide (V.int k5 = V.int 0) = true then (1 : Int) else 0) ∧ (9 ≤ m9 ∧ m9 ≤ 10) := ⟨_, rfl, by split <;> omega⟩
            refine ⟨st, a1, cy + 1 + 2 * j + 1, m9, (by rw [hm9e]; rfl), by omega, by omega, S6, by omega, fun k6 H6 k60 k61 S7 el5 => ?_⟩
            have hL6 := el5 L _ (el4 L _ hLq Ls La) Ls La
            have hS6 := el5 So _ (el4 So _ hSq Sos Soa) Sos Soa
            obtain ⟨v, hv, hm⟩ := atI_lt (xs := linL.map V.str) (k := k6) k60 (by show k6 < ((10 : Nat) : Int); omega)
            obtain ⟨z, hz, rfl⟩ := List.mem_map.mp hm
            refine ⟨So, _, _, _, rfl, rfl, SqL.of hS6, hv, L, _, _, rfl, rfl, hL6, by rw [List.length_map]; exact Nat.lt_of_le_of_lt (by omega : zs.length ≤ 60) (by decide), ?_⟩
            refine ⟨_, zs ++ [z], rfl, by rw [upd_same, List.map_append]; rfl, by rw [List.length_append, List.length_singleton]; omega, ?_, (by rw [show cy + 1 + 2 * (j + 1) = cy + 1 + 2 * j + 1 + 1 by omega]; exact S7.upd Ls La), by rw [upd_ne (Ne.symm LSo)]; exact hS6⟩
            intro y hy
            rcases List.mem_append.mp hy with h | h
            · exact hzb y h
            · rw [List.mem_singleton.mp h]; exact linB z hz
          · rintro σ Hq ⟨x5, zs, rfl, hLq, hzl, hzb, Sq, hSq⟩
            exact ⟨x5, zs, _, rfl, hLq, by omega, hzb, Sq, by omega, hSq⟩
        clear hLy hzl hzb Sy hSy hL1 hS2 S3
        rintro σ Hy2 ⟨z5, zs, cz, rfl, hLy, hzl, hzb, Sy, hcz, hSy2⟩
        -- ends
        refine ⟨fun σ Hq => ∃ (x5 : Option V) (L' : Addr) (zs : List Str) (cw : Nat), σ = [some (.ref sc), some (.ref st), some (.ref So), some (.int (0 + (i : Int))), some (.ref L'), x5, some (.int dp), x7, x8] ∧ Hq L' = some (.lst (zs.map V.str)) ∧ L' ≠ st ∧ L' ≠ a1 ∧ zs.length ≤ 70 ∧ (∀ z ∈ zs, z.length ≤ 900) ∧ StreamAt Hq st a1 cw ∧ cw ≤ c + 81 ∧ Hq So = some (.lst (linL.map V.str)), ?_, ?_⟩
        · refine ⟨_, rfl, st, a1, cz, 2, rfl, by decide, by decide, Sy, by omega, fun k7 H7 k70 k71 S8 el6 => ⟨rfl, _, rfl, ite2 (fun _ => ?_) (fun _ => ?_)⟩⟩
          · have hL7 := el6 L _ hLy Ls La
            refine ⟨_, rfl, (by show 1 ≤ sizeLine; decide), fun Ee nE => ⟨_, rfl, _, _, rfl, ?_⟩⟩
            have hkd : 0 ≤ (if dp > 0 then dp else 0) ∧ (if dp > 0 then dp else 0) ≤ 21 := by split <;> omega
            generalize (if dp > 0 then dp else 0) = kd at hkd ⊢
            obtain ⟨e, rfl⟩ := Int.eq_ofNat_of_zero_le hkd.1
            refine ⟨Ee, (e : Int), _, rfl, rfl, upd_same, by omega, by omega, ?_, fun R nR => ?_⟩
            · show 1 * e ≤ sizeLine
              exact fitL (by omega)
            rw [show ((e : Int)).toNat = e from rfl, rep_map]
            have s8 := (same_new (o := .lst [.str "end"]) nE).trans (same_new (o := .lst ((List.replicate e ("end" : Str)).map V.str)) nR)
            refine ⟨L, R, _, _, rfl, rfl, s8 _ _ hL7, upd_same, ?_, fun L2 nL2 => ?_⟩
            · rw [List.length_map, List.length_map, List.length_replicate]
              exact fitL (by omega)
            have s9 := s8.trans (same_new (o := .lst (zs.map V.str ++ (List.replicate e ("end" : Str)).map V.str)) nL2)
            refine ⟨_, L2, zs ++ List.replicate e ("end" : Str), _, rfl, by rw [upd_same, List.map_append], ?_, ?_, by rw [List.length_append, List.length_replicate]; omega, ?_, S8.same s9, by omega, s9 _ _ (el6 So _ hSy2 Sos Soa)⟩
            · intro h
              have := s8.free nL2
              rw [h] at this
              exact S8.tr.1 this
            · intro h
              have := s8.free nL2
              rw [h] at this
              exact S8.tr.2 this
            · intro y hy
              rcases List.mem_append.mp hy with h | h
              · exact hzb y h
              · rw [List.eq_of_mem_replicate h]; decide +kernel
          · exact ⟨_, L, zs, _, rfl, el6 L _ hLy Ls La, Ls, La, by omega, hzb, S8, by omega, el6 So _ hSy2 Sos Soa⟩
        clear hLy hzl hzb Sy
        rintro σ Hy3 ⟨w5, L1, zs, cw, rfl, hLy, L1s, L1a, hzl, hzb, Sy, hcw, hSy3⟩
        -- many lines
        refine ⟨fun σ Hq => ∃ (x5 x7 : Option V) (L' : Addr) (zs : List Str) (cv : Nat), σ = [some (.ref sc), some (.ref st), some (.ref So), some (.int (0 + (i : Int))), some (.ref L'), x5, some (.int dp), x7, x8] ∧ Hq L' = some (.lst (zs.map V.str)) ∧ L' ≠ st ∧ L' ≠ a1 ∧ zs.length ≤ 1000 ∧ (∀ z ∈ zs, z.length ≤ 900) ∧ StreamAt Hq st a1 cv ∧ cv ≤ c + 90 ∧ Hq So = some (.lst (linL.map V.str)), ?_, ?_⟩
        · refine ⟨_, rfl, st, a1, cw, 4, rfl, by decide, by decide, Sy, by omega, fun k8 H8 k80 k81 S9 el7 => ⟨rfl, _, rfl, ite2 (fun _ => ?_) (fun _ => ?_)⟩⟩
          · refine ⟨_, rfl, st, a1, cw + 1, 4, rfl, by decide, by decide, S9, by omega, fun k9 H9 k90 k91 S10 el8 => ⟨_, _, rfl, rfl, ?_⟩⟩
            have hL9 := el8 L1 _ (el7 L1 _ hLy L1s L1a) L1s L1a
            refine ⟨_, rfl, 1, rfl, L1, _, rfl, SqL.of hL9, fun A1 nA1 => ⟨(by show 1 ≤ sizeLine; decide), fun B1 nB1 => ?_⟩⟩
            have s10 := (same_new (o := .lst (cutV (zs.map V.str) none (some 1))) nA1).trans (same_new (o := .lst [.str "checkpoint"]) nB1)
            have hA1 := same_new (o := .lst [.str "checkpoint"]) nB1 _ _ (upd_same (H := H9) (a := A1) (o := .lst (cutV (zs.map V.str) none (some 1))))
            refine ⟨_, rfl, _, rfl, L1, _, rfl, .inl (SqL.of (s10 _ _ hL9)), _, _, rfl, rfl, ?_⟩
            obtain ⟨e, he, hel⟩ : ∃ e : Nat, (399 : Int) + k9 - ((zs.map V.str).length : Int) = (e : Int) ∧ e ≤ 402 := by
              rw [List.length_map]
              obtain ⟨e, he⟩ := Int.eq_ofNat_of_zero_le (show 0 ≤ (399 : Int) + k9 - (zs.length : Int) by omega)
              exact ⟨e, he, by omega⟩
            refine ⟨B1, (e : Int), _, rfl, (by show V.int ((399 : Int) + k9 - _) = V.int (e : Int); rw [he]), upd_same, by omega, by omega, ?_, fun R nR => ?_⟩
            · show 1 * e ≤ sizeLine
              exact fitL (by omega)
            rw [show ((e : Int)).toNat = e from rfl, rep_map]
            have sR := same_new (o := .lst ((List.replicate e ("checkpoint" : Str)).map V.str)) nR
            have hct : cutV (zs.map V.str) none (some (1 : Int)) = (zs.take 1).map V.str := by
              have := cut_take (zs.map V.str) 1
              rw [List.map_take]
              exact this
            have hA2 := hA1.trans (congrArg (fun x => some (HO.lst x)) hct)
            refine ⟨A1, R, _, _, rfl, rfl, sR _ _ hA2, upd_same, ?_, fun M nM => ?_⟩
            · rw [List.length_map, List.length_map, List.length_replicate, List.length_take]
              exact fitL (by omega)
            have sM := same_new (o := .lst ((zs.take 1).map V.str ++ (List.replicate e ("checkpoint" : Str)).map V.str)) nM
            refine ⟨_, rfl, 1, rfl, L1, _, rfl, SqL.of (sM _ _ (sR _ _ (s10 _ _ hL9))), fun E1 nE1 => ?_⟩
            rw [cut_drop1, ← List.map_drop]
            have sE := same_new (o := .lst ((zs.drop 1).map V.str)) nE1
            refine ⟨M, E1, _, _, rfl, rfl, sE _ _ upd_same, upd_same, ?_, fun L2 nL2 => ?_⟩
            · simp only [List.length_append, List.length_map, List.length_replicate, List.length_take, List.length_drop]
              exact fitL (by omega)
            have sall := ((s10.trans sR).trans sM).trans sE
            have s9 := sall.trans (same_new (o := .lst (((zs.take 1).map V.str ++ (List.replicate e ("checkpoint" : Str)).map V.str) ++ (zs.drop 1).map V.str)) nL2)
            refine ⟨_, _, L2, (zs.take 1 ++ List.replicate e ("checkpoint" : Str)) ++ zs.drop 1, _, rfl, by rw [upd_same, List.map_append, List.map_append], ?_, ?_, ?_, ?_, S10.same s9, by omega, s9 _ _ (el8 So _ (el7 So _ hSy3 Sos Soa) Sos Soa)⟩
            · intro h
              have := sall.free nL2
              rw [h] at this
              exact S10.tr.1 this
            · intro h
              have := sall.free nL2
              rw [h] at this
              exact S10.tr.2 this
            · simp only [List.length_append, List.length_replicate, List.length_take, List.length_drop]
              omega
            · intro y hy
              rcases List.mem_append.mp hy with h | h
              · rcases List.mem_append.mp h with h | h
                · exact hzb y (List.mem_of_mem_take h)
                · rw [List.eq_of_mem_replicate h]; decide +kernel
              · exact hzb y (List.mem_of_mem_drop h)
          · exact ⟨_, _, L1, zs, _, rfl, el7 L1 _ hLy L1s L1a, L1s, L1a, by omega, hzb, S9, by omega, el7 So _ hSy3 Sos Soa⟩
        clear hLy hzl hzb Sy
        rintro σ Hy4 ⟨v5, v7, L3, zs, cv, rfl, hLy, L3s, L3a, hzl, hzb, Sy, hcv, hSy4⟩
        obtain ⟨os, hos⟩ := lines_ex zs hzb
        have hSo4 : Hy4 So = some (.lst (linL.map V.str)) := hSy4
        refine ⟨_, rfl, L3, zs, os, rfl, .inl (SqL.of hLy), by omega, fun _ => hos, fun G1 u1 q1 d1 => ⟨_, rfl, L3, zs, os, rfl, q1 _ _ hLy, by omega, fun _ => hos, fun G2 u2 q2 d2 => ?_⟩⟩
        have hsh := due_shaped zs.length os
        refine ⟨dueD (progR zs.length os), dueD (progR zs.length os), dp_same q2 (due_dp d1), due_dp d2, hsh, hsh, _, rfl, iteFc (by rw [SeqAt.eqv_refl _ (SeqAt.canLay_of_shaped hsh)]; rfl) ⟨_, _, _, _, _, _, cv, rfl, (Sy.same q1).same q2, by omega, q2 _ _ (q1 _ _ hSo4)⟩⟩
      · rintro σ Hx ⟨x3, x4, x5, x6, x7, x8, c, rfl, SA, hc, hSx⟩
        exact ⟨_, _, _, _, _, _, rfl⟩
    rintro σ Hz ⟨x3, x4, x5, x6, x7, x8, rfl⟩
    refine ⟨(by show 0 ≤ sizeLine; decide), fun fA nA => ⟨(by show 1 ≤ sizeLine; decide), fun fB nB => ⟨(by show 1 ≤ sizeLine; decide), fun fC nC => ⟨(by show 2 ≤ sizeLine; decide), fun fE nE => ⟨(by show 4 ≤ sizeLine; decide), fun fT nT => ?_⟩⟩⟩⟩⟩
    have gA := same_new (o := .tup [V.ref fA, V.ref fB, V.ref fC, V.ref fE]) nT _ _ (same_new nE _ _ (same_new nC _ _ (same_new nB _ _ (upd_same (H := Hz) (a := fA) (o := .lst [])))))
    have gB := same_new (o := .tup [V.ref fA, V.ref fB, V.ref fC, V.ref fE]) nT _ _ (same_new nE _ _ (same_new nC _ _ (upd_same (H := upd Hz fA (.lst [])) (a := fB) (o := .lst [V.str "end"]))))
    have gC := same_new (o := .tup [V.ref fA, V.ref fB, V.ref fC, V.ref fE]) nT _ _ (same_new nE _ _ (upd_same (H := upd (upd Hz fA (.lst [])) fB (.lst [V.str "end"])) (a := fC) (o := .tup [V.str "set x 1"])))
    have gE := same_new (o := .tup [V.ref fA, V.ref fB, V.ref fC, V.ref fE]) nT _ _ (upd_same (H := upd (upd (upd Hz fA (.lst [])) fB (.lst [V.str "end"])) fC (.tup [V.str "set x 1"])) (a := fE) (o := .lst [V.str "process a", V.str "else"]))
    have gT := upd_same (H := upd (upd (upd (upd Hz fA (.lst [])) fB (.lst [V.str "end"])) fC (.tup [V.str "set x 1"])) fE (.lst [V.str "process a", V.str "else"])) (a := fT) (o := .tup [V.ref fA, V.ref fB, V.ref fC, V.ref fE])
    generalize upd (upd (upd (upd (upd Hz fA (.lst [])) fB (.lst [V.str "end"])) fC (.tup [V.str "set x 1"])) fE (.lst [V.str "process a", V.str "else"])) fT (.tup [V.ref fA, V.ref fB, V.ref fC, V.ref fE]) = Hf at gA gB gC gE gT ⊢
    refine ⟨fT, rfl, ⟨_, SqT.of gT⟩, fun Dl hDl => ?_⟩
    refine lc_tup (K := K) (a := fT) (xs := [V.ref fA, V.ref fB, V.ref fC, V.ref fE]) (fun i Hy => ∃ vs, Hy Dl = some (.lst vs) ∧ vs.length ≤ i ∧ DpAll K Hy vs (dueL.take i) ∧ Same Hf Hy) ⟨[], upd_same, Nat.le_refl _, by rw [List.take_zero]; exact .nil, same_new hDl⟩ (fun i Hy _ q => SqT.of (q.choose_spec.2.2.2 _ _ gT)) ?_ ?_
    · rintro i x Hy hx ⟨vs, h1, h2, h3, sy⟩
      have step : ∀ (d : PyData) (H' : Hp) (v : V), noList d = true → i < 4 → Same Hy H' → Dp K H' v d → dueL[i]? = some d → noListAll (dueL.take (i + 1)) = true → ∃ vs', upd H' Dl (.lst (vs ++ [v])) Dl = some (.lst vs') ∧ vs'.length ≤ i + 1 ∧ DpAll K (upd H' Dl (.lst (vs ++ [v]))) vs' (dueL.take (i + 1)) ∧ Same Hf (upd H' Dl (.lst (vs ++ [v]))) := fun d H' v hn hi4 s' hd he hna => by
        refine ⟨vs ++ [v], upd_same, by rw [List.length_append, List.length_singleton]; omega, ?_, same_upd0 (sy.trans s') hDl⟩
        have k6 : Keeps H' (upd H' Dl (.lst (vs ++ [v]))) := keeps_lst (s' _ _ h1)
        have h7 := dpAll_snoc hd (dpAll_same s' h3)
        have h8 : dueL.take i ++ [d] = dueL.take (i + 1) := by rw [List.take_add_one, he]; rfl
        rw [h8] at h7
        exact dpAll_keep k6.1 k6.2 h7 hna
      refine ⟨rfl, ?_⟩
      dsimp only [tYes]
      rw [if_pos rfl]
      match i, hx with
      | 0, hx =>
        injection hx with hx
        subst hx
        exact ⟨_, rfl, fA, [], [], rfl, .inl (SqL.of (sy _ _ gA)), by decide, fun _ => ⟨rfl, fun i z h => by simp at h⟩, fun H' v s' hv => ⟨vs, s' _ _ h1, Nat.lt_of_le_of_lt h2 (by decide), step (.tuple [.int 0, .str "name"]) H' v rfl (by decide) s' hv rfl rfl⟩⟩
      | 1, hx =>
        injection hx with hx
        subst hx
        refine ⟨_, rfl, fB, ["end"], [some .fin], rfl, .inl (SqL.of (sy _ _ gB)), by decide, fun _ => lines_one (by decide +kernel) (solo_R (z := "end") (by decide +kernel) (by decide +kernel)), fun H' v s' hv => ⟨vs, s' _ _ h1, Nat.lt_of_le_of_lt h2 (by decide), step (.tuple [.int 0, .str "block"]) H' v rfl (by decide) s' ?_ rfl rfl⟩⟩
        have e : progR (["end"] : List Str).length [some Stp.fin] = .error (0, "block") := prog1 (by decide +kernel)
        rw [e] at hv
        exact hv
      | 2, hx =>
        injection hx with hx
        subst hx
        refine ⟨_, rfl, fC, ["set x 1"], [some (.set "x" (.num 1))], rfl, .inr (SqT.of (sy _ _ gC)), by decide, fun _ => lines_one (by decide +kernel) set_R, fun H' v s' hv => ⟨vs, s' _ _ h1, Nat.lt_of_le_of_lt h2 (by decide), step (.tuple [.int 0, .str "block"]) H' v rfl (by decide) s' ?_ rfl rfl⟩⟩
        have e : progR (["set x 1"] : List Str).length [some (Stp.set "x" (.num 1))] = .error (0, "block") := prog1 (by simp only [Stp.word]; decide +kernel)
        rw [e] at hv
        exact hv
      | 3, hx =>
        injection hx with hx
        subst hx
        refine ⟨_, rfl, fE, ["process a", "else"], [some (.proc "a"), some .els], rfl, .inl (SqL.of (sy _ _ gE)), by decide, fun _ => lines_two (by decide +kernel) (by decide +kernel) proc_R (solo_R (z := "else") (by decide +kernel) (by decide +kernel)), fun H' v s' hv => ⟨vs, s' _ _ h1, Nat.lt_of_le_of_lt h2 (by decide), step (.tuple [.int 1, .str "block"]) H' v rfl (by decide) s' ?_ rfl rfl⟩⟩
        have e : progR (["process a", "else"] : List Str).length [some (Stp.proc "a"), some .els] = .error (1, "block") := prog2 "a"
        rw [e] at hv
        exact hv
      | i + 4, hx => simp at hx
    rintro Hy ⟨vs, h1, h2, h3, sy⟩
    have hsh : SeqAt.shaped (.list dueL) = true := by decide +kernel
    refine ⟨_, rfl, (by show 2 ≤ sizeLine; decide), fun b1 m1 => ⟨(by show 2 ≤ sizeLine; decide), fun b2 m2 => ⟨(by show 2 ≤ sizeLine; decide), fun b3 m3 => ⟨(by show 2 ≤ sizeLine; decide), fun b4 m4 => ⟨(by show 4 ≤ sizeLine; decide), fun b5 m5 => ?_⟩⟩⟩⟩⟩
    have sall := (((same_new m1).trans (same_new m2)).trans ((same_new m3).trans (same_new m4))).trans (same_new (o := .lst [V.ref b1, V.ref b2, V.ref b3, V.ref b4]) m5)
    have e1 := same_new (o := .lst [V.ref b1, V.ref b2, V.ref b3, V.ref b4]) m5 _ _ (same_new m4 _ _ (same_new m3 _ _ (same_new m2 _ _ (upd_same (H := Hy) (a := b1) (o := .tup [V.int 0, V.str "name"])))))
    have e2 := same_new (o := .lst [V.ref b1, V.ref b2, V.ref b3, V.ref b4]) m5 _ _ (same_new m4 _ _ (same_new m3 _ _ (upd_same (H := upd Hy b1 (.tup [V.int 0, V.str "name"])) (a := b2) (o := .tup [V.int 0, V.str "block"]))))
    have e3 := same_new (o := .lst [V.ref b1, V.ref b2, V.ref b3, V.ref b4]) m5 _ _ (same_new m4 _ _ (upd_same (H := upd (upd Hy b1 (.tup [V.int 0, V.str "name"])) b2 (.tup [V.int 0, V.str "block"])) (a := b3) (o := .tup [V.int 0, V.str "block"])))
    have e4 := same_new (o := .lst [V.ref b1, V.ref b2, V.ref b3, V.ref b4]) m5 _ _ (upd_same (H := upd (upd (upd Hy b1 (.tup [V.int 0, V.str "name"])) b2 (.tup [V.int 0, V.str "block"])) b3 (.tup [V.int 0, V.str "block"])) (a := b4) (o := .tup [V.int 1, V.str "block"]))
    refine ⟨.list dueL, .list dueL, .lst (SqL.of (sall _ _ h1)) (dpAll_same sall h3), .lst (SqL.of upd_same) (.cons (.tup (SqT.of e1) (.cons (.int _) (.cons (.str _) .nil))) (.cons (.tup (SqT.of e2) (.cons (.int _) (.cons (.str _) .nil))) (.cons (.tup (SqT.of e3) (.cons (.int _) (.cons (.str _) .nil))) (.cons (.tup (SqT.of e4) (.cons (.int _) (.cons (.str _) .nil))) .nil)))), hsh, hsh, ?_⟩
    rw [SeqAt.eqv_refl _ (SeqAt.canLay_of_shaped hsh)]
    exact k _
end
end XE

set_option Elab.async false
set_option linter.all false
set_option maxRecDepth 100000
set_option maxHeartbeats 1000000
namespace XE
open PySem PySem.Spec PyProof.Rows L2 Rx SX
theorem bw_all {K : PySem.W.Frag} {w : World} {a : Addr} (h0 : KDct K w a "or" (.int 1)) (h1 : KDct K w a "and" (.int 2)) (h2 : KDct K w a "not" (.int 3)) (h3 : KDct K w a "=" (.int 4)) (h4 : KDct K w a "!=" (.int 4)) (h5 : KDct K w a "<" (.int 4)) (h6 : KDct K w a "<=" (.int 4)) (h7 : KDct K w a ">" (.int 4)) (h8 : KDct K w a ">=" (.int 4)) (h9 : KDct K w a "+" (.int 5)) (h10 : KDct K w a "-" (.int 5)) (h11 : KDct K w a "*" (.int 6)) (h12 : KDct K w a "//" (.int 6)) (h13 : KDct K w a "mod" (.int 6)) (h14 : KDct K w a "negate" (.int 7)) (h15 : KDct K w a "number" (.int 8)) (h16 : KDct K w a "variable" (.int 8)) : ∀ z ∈ bwL, KDct K w a z (.int (bindOf z)) := by
  intro z hz
  simp only [bwL, List.mem_cons, List.not_mem_nil, or_false] at hz
  rcases hz with rfl | rfl | rfl | rfl | rfl | rfl | rfl | rfl | rfl | rfl | rfl | rfl | rfl | rfl | rfl | rfl | rfl
  · rw [show bindOf "or" = 1 by decide +kernel]; exact h0
  · rw [show bindOf "and" = 2 by decide +kernel]; exact h1
  · rw [show bindOf "not" = 3 by decide +kernel]; exact h2
  · rw [show bindOf "=" = 4 by decide +kernel]; exact h3
  · rw [show bindOf "!=" = 4 by decide +kernel]; exact h4
  · rw [show bindOf "<" = 4 by decide +kernel]; exact h5
  · rw [show bindOf "<=" = 4 by decide +kernel]; exact h6
  · rw [show bindOf ">" = 4 by decide +kernel]; exact h7
  · rw [show bindOf ">=" = 4 by decide +kernel]; exact h8
  · rw [show bindOf "+" = 5 by decide +kernel]; exact h9
  · rw [show bindOf "-" = 5 by decide +kernel]; exact h10
  · rw [show bindOf "*" = 6 by decide +kernel]; exact h11
  · rw [show bindOf "//" = 6 by decide +kernel]; exact h12
  · rw [show bindOf "mod" = 6 by decide +kernel]; exact h13
  · rw [show bindOf "negate" = 7 by decide +kernel]; exact h14
  · rw [show bindOf "number" = 8 by decide +kernel]; exact h15
  · rw [show bindOf "variable" = 8 by decide +kernel]; exact h16
theorem no2 {K : PySem.W.Frag} {C : Addr} {a b : Str} (h : PySem.W.findIn K (.ref C) a = some none) (k : PySem.W.findIn K (.ref C) b = some none) : ∀ g ∈ ([a, b] : List Str), PySem.W.findIn K (.ref C) g = some none := fun g hg => by
  rcases List.mem_cons.mp hg with rfl | hg
  · exact h
  · rw [List.mem_singleton.mp hg]; exact k
end XE

set_option Elab.async false
set_option linter.all false
set_option maxRecDepth 100000
set_option maxHeartbeats 4000000
namespace XE
open PySem PySem.Spec PyProof.Rows L2 Rx SX
structure DefF (K : PySem.W.Frag) (x : Str) (st : Stmt) (f : Addr) (fd : FuncData) : Prop where
  at_ : PySem.W.nsIn K mainGlobals x = some (some (.ref f))
  fn : Fun K x x st f fd
theorem def_mk {K : PySem.W.Frag} {x : Str} {st : Stmt} {f : Addr} {oc kV dc pm cd ct : Value} {od an : Option Addr} {sl : Array (Option Value)} (a : PySem.W.nsIn K mainGlobals x = some (some (.ref f)))
    (l : K.lookup f = some ⟨oc, od, .func (PySem.W.fnOf x x (defArgs st) (defBody st) (defScope st) .none kV dc pm an cd ct), sl⟩) (c : PySem.W.codeIn K cd x = true) (k : PySem.W.keepIn K (.ref f) = true) : ∃ f fd, DefF K x st f fd :=
  ⟨_, _, a, fun_mk (st := st) l c k⟩
structure MetF (K : PySem.W.Frag) (C : Addr) (x qual : Str) (st : Stmt) (f : Addr) (fd : FuncData) : Prop where
  me : Meth K C x f
  fn : Fun K x qual st f fd
theorem met_mk {K : PySem.W.Frag} {C : Addr} {x qual : Str} {st : Stmt} {f : Addr} {oc kV dc pm cd ct : Value} {od an : Option Addr} {sl : Array (Option Value)} (a : PySem.W.findIn K (.ref C) x = some (some (.ref f))) (i : PySem.W.isFn K (.ref f) = true)
    (l : K.lookup f = some ⟨oc, od, .func (PySem.W.fnOf x qual (defArgs st) (defBody st) (defScope st) .none kV dc pm an cd ct), sl⟩) (c : PySem.W.codeIn K cd qual = true) (k : PySem.W.keepIn K (.ref f) = true) : ∃ f fd, MetF K C x qual st f fd :=
  ⟨_, _, ⟨a, i, k⟩, fun_mk (st := st) l c k⟩
theorem tup_mk {K : PySem.W.Frag} {x : Str} {xs : List V} {a : Addr} {od : Option Addr} {its : Array Value} {n : Nat} {sl : Array (Option Value)} (h : PySem.W.nsIn K mainGlobals x = some (some (.ref a))) (l : K.lookup a = some ⟨.type "tuple", od, .seq its n, sl⟩) (z : its.size ≤ sizeLine) (v : Vals xs its.toList) : ∃ a, PySem.W.nsIn K mainGlobals x = some (some (.ref a)) ∧ KTup K a xs :=
  ⟨a, h, _, its, n, l, rfl, rfl, z, v⟩
theorem ops_all {p : Str → Prop} (h0 : p "or") (h1 : p "and") (h2 : p "not") (h3 : p "=") (h4 : p "!=") (h5 : p "<") (h6 : p "<=") (h7 : p ">") (h8 : p ">=") (h9 : p "+") (h10 : p "-") (h11 : p "*") (h12 : p "//") (h13 : p "mod") (h14 : p "negate") (h15 : p "(") (h16 : p "[") : ∀ z ∈ opsL, p z := by
  intro z hz
  simp only [opsL, List.mem_cons, List.not_mem_nil, or_false] at hz
  rcases hz with rfl | rfl | rfl | rfl | rfl | rfl | rfl | rfl | rfl | rfl | rfl | rfl | rfl | rfl | rfl | rfl | rfl
  · exact h0
  · exact h1
  · exact h2
  · exact h3
  · exact h4
  · exact h5
  · exact h6
  · exact h7
  · exact h8
  · exact h9
  · exact h10
  · exact h11
  · exact h12
  · exact h13
  · exact h14
  · exact h15
  · exact h16
theorem all_mk {l : PySem.W.OpenLaw} {w : World} {K : PySem.W.Frag} {h : Heap} {mg : Str → Option Value} {fa C aB R NR CQ : Addr} (X : K.In h) (G : h.Ns mainGlobals mg) (hfa : mg "law" = some (.ref fa))
    {es : Array DictEntry} {nes : Nat} {tL tD tN tM : Tok} {bsR subR : List Value} {snR : List Str} {abR : Bool} {colR : Option Bool} {ddR : Option Addr} {r0 r1 r2 r3 r5 : Option Value}
    (aC : PySem.W.nsIn K mainGlobals "Reader" = some (some (.ref C)))
    (pg : PySem.W.plainGet K C Str.empty = true) (hd : PySem.W.hasDictIn K C = true) (po : PySem.W.plainOver K C = true) (sa : PySem.W.findIn K (.ref C) "__setattr__" = some (some (.builtin "object.__setattr__"))) (mk : PySem.W.makesIn K C = true) (kc : PySem.W.keepIn K (.ref C) = true)
    (n0 : PySem.W.findIn K (.ref C) "of_condition" = some none)
    (n1 : PySem.W.findIn K (.ref C) "stage" = some none)
    (n2 : PySem.W.findIn K (.ref C) "compared" = some none)
    (n3 : PySem.W.findIn K (.ref C) "nodes" = some none)
    (n4 : PySem.W.findIn K (.ref C) "operators" = some none)
    (n5 : PySem.W.findIn K (.ref C) "brackets" = some none)
    (D0 : ∃ f fd, DefF K "is_name" sIsName f fd)
    (D1 : ∃ f fd, DefF K "is_number" sIsNumber f fd)
    (D2 : ∃ f fd, DefF K "run_of" sRunOf f fd)
    (D3 : ∃ f fd, DefF K "word_token" sWordTok f fd)
    (D4 : ∃ f fd, DefF K "number_token" sNumTok f fd)
    (D5 : ∃ f fd, DefF K "token_at" sTokenAt f fd)
    (D6 : ∃ f fd, DefF K "tokens" sTokens f fd)
    (D7 : ∃ f fd, DefF K "parsed" sParsed f fd)
    (D8 : ∃ f fd, DefF K "frozen" sFrozen f fd)
    (D9 : ∃ f fd, DefF K "parse_expression" sParseE f fd)
    (D10 : ∃ f fd, DefF K "parse_condition" sParseC f fd)
    (D11 : ∃ f fd, DefF K "enclosed" sEnclosed f fd)
    (D12 : ∃ f fd, DefF K "parts_of" sPartsOf f fd)
    (D13 : ∃ f fd, DefF K "written" sWritten f fd)
    (D14 : ∃ f fd, DefF K "read_line" sReadLine f fd)
    (D15 : ∃ f fd, DefF K "read_named_expression" sReadNamed f fd)
    (D16 : ∃ f fd, DefF K "read_block_head" sReadHead f fd)
    (D17 : ∃ f fd, DefF K "read_lines" sReadLines f fd)
    (D18 : ∃ f fd, DefF K "block_fits" sBlockFits f fd)
    (D19 : ∃ f fd, DefF K "check_blocks" sCheckBlocks f fd)
    (D20 : ∃ f fd, DefF K "check_names" sCheckNames f fd)
    (D21 : ∃ f fd, DefF K "close_block" sCloseBlock f fd)
    (D22 : ∃ f fd, DefF K "built_rows" sBuiltRows f fd)
    (D23 : ∃ f fd, DefF K "statement_lines" sStmtLines f fd)
    (D24 : ∃ f fd, DefF K "body_lines" sBodyLines f fd)
    (D25 : ∃ f fd, DefF K "canonical_lines" sCanonLines f fd)
    (D26 : ∃ f fd, DefF K "parse_program" sParseProg f fd)
    (D27 : ∃ f fd, DefF K "_law_draw" sDraw f fd)
    (D28 : ∃ f fd, DefF K "_law_reserved" sRes f fd)
    (D29 : ∃ f fd, DefF K "_law_key" sLawKey f fd)
    (D30 : ∃ f fd, DefF K "_law_scan" sScan f fd)
    (D31 : ∃ f fd, DefF K "_law_grammar" sGrammar f fd)
    (D32 : ∃ f fd, DefF K "_law_stop" sStop f fd)
    (D33 : ∃ f fd, DefF K "_law_line_form" sLineForm f fd)
    (D34 : ∃ f fd, DefF K "_law_block_due" sBlockDue f fd)
    (D35 : ∃ f fd, DefF K "_law_name_due" sNameDue f fd)
    (D36 : ∃ f fd, DefF K "_law_program_due" sProgDue f fd)
    (D37 : ∃ f fd, DefF K "_law_found" sFoundP f fd)
    (D38 : ∃ f fd, DefF K "law" sLaw f fd)
    (M0 : ∃ f fd, MetF K C "__init__" "Reader.__init__" sRInit f fd)
    (M1 : ∃ f fd, MetF K C "fits" "Reader.fits" sFits f fd)
    (M2 : ∃ f fd, MetF K C "may_begin" "Reader.may_begin" sMayB f fd)
    (M3 : ∃ f fd, MetF K C "may_follow" "Reader.may_follow" sMayF f fd)
    (M4 : ∃ f fd, MetF K C "take_in" "Reader.take_in" sTakeIn f fd)
    (M5 : ∃ f fd, MetF K C "begin" "Reader.begin" sBegin f fd)
    (M6 : ∃ f fd, MetF K C "close" "Reader.close" sClose f fd)
    (M7 : ∃ f fd, MetF K C "put_between" "Reader.put_between" sPutB f fd)
    (M8 : ∃ f fd, MetF K C "join_down_to" "Reader.join_down_to" sDown f fd)
    (M9 : ∃ f fd, MetF K C "join_operands" "Reader.join_operands" sJoin f fd)
    (aQ : PySem.W.nsIn K mainGlobals "Program" = some (some (.ref CQ))) (pgQ : PySem.W.plainGet K CQ Str.empty = true) (hdQ : PySem.W.hasDictIn K CQ = true) (poQ : PySem.W.plainOver K CQ = true) (saQ : PySem.W.findIn K (.ref CQ) "__setattr__" = some (some (.builtin "object.__setattr__"))) (mkQ : PySem.W.makesIn K CQ = true) (kcQ : PySem.W.keepIn K (.ref CQ) = true) (nQ0 : PySem.W.findIn K (.ref CQ) "rows" = some none) (nQ1 : PySem.W.findIn K (.ref CQ) "texts" = some none)
    (MQ0 : ∃ f fd, MetF K CQ "__init__" "Program.__init__" sPInit f fd)
    (U0 : ∃ a, PySem.W.nsIn K mainGlobals "RESERVED" = some (some (.ref a)) ∧ KTup K a (reservedL.map V.str))
    (U1 : ∃ a, PySem.W.nsIn K mainGlobals "WORDS" = some (some (.ref a)) ∧ KTup K a (wordsL.map V.str))
    (U2 : ∃ a, PySem.W.nsIn K mainGlobals "SIGNS" = some (some (.ref a)) ∧ KTup K a (signsL.map V.str))
    (U3 : ∃ a, PySem.W.nsIn K mainGlobals "PREFIXES" = some (some (.ref a)) ∧ KTup K a (prefL.map V.str))
    (U4 : ∃ a, PySem.W.nsIn K mainGlobals "ARITHMETIC" = some (some (.ref a)) ∧ KTup K a (arithL.map V.str))
    (U5 : ∃ a, PySem.W.nsIn K mainGlobals "COMPARISONS" = some (some (.ref a)) ∧ KTup K a (compL.map V.str))
    (cL : PySem.W.nsIn K mainGlobals "LETTERS" = some (some (.str lettersS tL))) (cD : PySem.W.nsIn K mainGlobals "DIGITS" = some (some (.str digitsS tD))) (cN : PySem.W.nsIn K mainGlobals "NAME_LENGTH" = some (some (.int 8 tN))) (cM : PySem.W.nsIn K mainGlobals "MOST_DIGITS" = some (some (.int 30 tM)))
    (aB0 : PySem.W.nsIn K mainGlobals "BINDING" = some (some (.ref aB))) (lB : K.lookup aB = some ⟨.type "dict", none, .dict es nes, #[]⟩) (kB : PySem.W.KeysLit w.params es.toList) (wB : (aB == sysModules) = false)
    {tB0 : Tok} (B0 : PySem.W.nsIn K aB "or" = some (some (.int 1 tB0)))
    {tB1 : Tok} (B1 : PySem.W.nsIn K aB "and" = some (some (.int 2 tB1)))
    {tB2 : Tok} (B2 : PySem.W.nsIn K aB "not" = some (some (.int 3 tB2)))
    {tB3 : Tok} (B3 : PySem.W.nsIn K aB "=" = some (some (.int 4 tB3)))
    {tB4 : Tok} (B4 : PySem.W.nsIn K aB "!=" = some (some (.int 4 tB4)))
    {tB5 : Tok} (B5 : PySem.W.nsIn K aB "<" = some (some (.int 4 tB5)))
    {tB6 : Tok} (B6 : PySem.W.nsIn K aB "<=" = some (some (.int 4 tB6)))
    {tB7 : Tok} (B7 : PySem.W.nsIn K aB ">" = some (some (.int 4 tB7)))
    {tB8 : Tok} (B8 : PySem.W.nsIn K aB ">=" = some (some (.int 4 tB8)))
    {tB9 : Tok} (B9 : PySem.W.nsIn K aB "+" = some (some (.int 5 tB9)))
    {tB10 : Tok} (B10 : PySem.W.nsIn K aB "-" = some (some (.int 5 tB10)))
    {tB11 : Tok} (B11 : PySem.W.nsIn K aB "*" = some (some (.int 6 tB11)))
    {tB12 : Tok} (B12 : PySem.W.nsIn K aB "//" = some (some (.int 6 tB12)))
    {tB13 : Tok} (B13 : PySem.W.nsIn K aB "mod" = some (some (.int 6 tB13)))
    {tB14 : Tok} (B14 : PySem.W.nsIn K aB "negate" = some (some (.int 7 tB14)))
    (B15 : PySem.W.nsIn K aB "(" = some none)
    (B16 : PySem.W.nsIn K aB "[" = some none)
    {tB17 : Tok} (B17 : PySem.W.nsIn K aB "number" = some (some (.int 8 tB17)))
    {tB18 : Tok} (B18 : PySem.W.nsIn K aB "variable" = some (some (.int 8 tB18)))
    {tl0 : Tok} (I0 : PySem.W.nsIn K mainGlobals "LOOSEST_EXPRESSION" = some (some (.int (5) tl0)))
    {tl1 : Tok} (I1 : PySem.W.nsIn K mainGlobals "MOST_DEEP" = some (some (.int (20) tl1)))
    {tl2 : Tok} (I2 : PySem.W.nsIn K mainGlobals "MOST_PROCESSES" = some (some (.int (40) tl2)))
    {tl3 : Tok} (I3 : PySem.W.nsIn K mainGlobals "MOST_LINES" = some (some (.int (400) tl3)))
    (z0 : PySem.W.nsIn K mainGlobals "len" = some none)
    (z1 : PySem.W.nsIn K mainGlobals "isinstance" = some none)
    (z2 : PySem.W.nsIn K mainGlobals "all" = some none)
    (z3 : PySem.W.nsIn K mainGlobals "int" = some none)
    (z4 : PySem.W.nsIn K mainGlobals "str" = some none)
    (z5 : PySem.W.nsIn K mainGlobals "range" = some none)
    (z6 : PySem.W.nsIn K mainGlobals "max" = some none)
    (z7 : PySem.W.nsIn K mainGlobals "repr" = some none)
    (z8 : PySem.W.nsIn K mainGlobals "list" = some none)
    (z9 : PySem.W.nsIn K mainGlobals "tuple" = some none)
    (z10 : PySem.W.nsIn K mainGlobals "enumerate" = some none)
    (aR : PySem.W.nsIn K mainGlobals "RerunError" = some (some (.ref R))) (xR : K.lookup R = some (excClassObj "RerunError" "RerunError" R NR bsR veT true snR subR abR colR ddR r0 r1 r2 r3 r5 "ValueError.__new__"))
    (sp : PySem.W.nsIn K mainGlobals "super" = some none) (opq : PySem.W.nsIn K cStatics "thirdparty.any" = some none) (ht : (l.prog.main.scope.names.lookup ("super" : Str)).isSome = false) (hn : PySem.W.specialIn K (.builtin "object.__class__") "__get__" = some (some (.builtin "getset_descriptor.__get__"))) (htk : PySem.W.takesIn K (.builtin "object.__class__") = some true)
    (E0 : ∃ (C f cda cc : Addr) (fd : FuncData), ClsF l.prog K "BadText" "BadText.__init__" sBadText R C f cda cc fd ["position"])
    (E1 : ∃ (C f cda cc : Addr) (fd : FuncData), ClsF l.prog K "BadProgram" "BadProgram.__init__" sBadProgram R C f cda cc fd ["line", "reason"])
    : ∃ fd : FuncData, (∀ (s : Shared) (v : Value), BindsTo s fd ⟨[v], []⟩ [("_law_script", v)]) ∧ ∀ base : Heap, K.In base → base.Ns mainGlobals mg → FnG l.prog w K mg base 51 fa fd ["_law_script"] (spLaw K) := by
  obtain ⟨f0, fd0, D0⟩ := D0
  have b0 := D0.fn.binds (ps := ["thing"]) fun _ _ _ _ _ _ us hl => match us, hl with | [_], _ => rfl
  obtain ⟨f1, fd1, D1⟩ := D1
  have b1 := D1.fn.binds (ps := ["text"]) fun _ _ _ _ _ _ us hl => match us, hl with | [_], _ => rfl
  obtain ⟨f2, fd2, D2⟩ := D2
  have b2 := D2.fn.binds (ps := ["characters", "text", "at"]) fun _ _ _ _ _ _ us hl => match us, hl with | [_, _, _], _ => rfl
  obtain ⟨f3, fd3, D3⟩ := D3
  have b3 := D3.fn.binds (ps := ["word"]) fun _ _ _ _ _ _ us hl => match us, hl with | [_], _ => rfl
  obtain ⟨f4, fd4, D4⟩ := D4
  have b4 := D4.fn.binds (ps := ["digits"]) fun _ _ _ _ _ _ us hl => match us, hl with | [_], _ => rfl
  obtain ⟨f5, fd5, D5⟩ := D5
  have b5 := D5.fn.binds (ps := ["text", "at"]) fun _ _ _ _ _ _ us hl => match us, hl with | [_, _], _ => rfl
  obtain ⟨f6, fd6, D6⟩ := D6
  have b6 := D6.fn.binds (ps := ["text"]) fun _ _ _ _ _ _ us hl => match us, hl with | [_], _ => rfl
  obtain ⟨f7, fd7, D7⟩ := D7
  have b7 := D7.fn.binds (ps := ["text", "reader"]) fun _ _ _ _ _ _ us hl => match us, hl with | [_, _], _ => rfl
  obtain ⟨f8, fd8, D8⟩ := D8
  have b8 := D8.fn.binds (ps := ["thing"]) fun _ _ _ _ _ _ us hl => match us, hl with | [_], _ => rfl
  obtain ⟨f9, fd9, D9⟩ := D9
  have b9 := D9.fn.binds (ps := ["text"]) fun _ _ _ _ _ _ us hl => match us, hl with | [_], _ => rfl
  obtain ⟨f10, fd10, D10⟩ := D10
  have b10 := D10.fn.binds (ps := ["text"]) fun _ _ _ _ _ _ us hl => match us, hl with | [_], _ => rfl
  obtain ⟨f11, fd11, D11⟩ := D11
  have b11 := D11.fn.binds (ps := ["node", "least"]) fun _ _ _ _ _ _ us hl => match us, hl with | [_, _], _ => rfl
  obtain ⟨f12, fd12, D12⟩ := D12
  have b12 := D12.fn.binds (ps := ["node"]) fun _ _ _ _ _ _ us hl => match us, hl with | [_], _ => rfl
  obtain ⟨f13, fd13, D13⟩ := D13
  have b13 := D13.fn.binds (ps := ["node"]) fun _ _ _ _ _ _ us hl => match us, hl with | [_], _ => rfl
  obtain ⟨f14, fd14, D14⟩ := D14
  have b14 := D14.fn.binds (ps := ["text"]) fun _ _ _ _ _ _ us hl => match us, hl with | [_], _ => rfl
  obtain ⟨f15, fd15, D15⟩ := D15
  have b15 := D15.fn.binds (ps := ["word", "rest"]) fun _ _ _ _ _ _ us hl => match us, hl with | [_, _], _ => rfl
  obtain ⟨f16, fd16, D16⟩ := D16
  have b16 := D16.fn.binds (ps := ["word", "rest"]) fun _ _ _ _ _ _ us hl => match us, hl with | [_, _], _ => rfl
  obtain ⟨f17, fd17, D17⟩ := D17
  have b17 := D17.fn.binds (ps := ["texts"]) fun _ _ _ _ _ _ us hl => match us, hl with | [_], _ => rfl
  obtain ⟨f18, fd18, D18⟩ := D18
  have b18 := D18.fn.binds (ps := ["word", "blocks"]) fun _ _ _ _ _ _ us hl => match us, hl with | [_, _], _ => rfl
  obtain ⟨f19, fd19, D19⟩ := D19
  have b19 := D19.fn.binds (ps := ["steps"]) fun _ _ _ _ _ _ us hl => match us, hl with | [_], _ => rfl
  obtain ⟨f20, fd20, D20⟩ := D20
  have b20 := D20.fn.binds (ps := ["steps"]) fun _ _ _ _ _ _ us hl => match us, hl with | [_], _ => rfl
  obtain ⟨f21, fd21, D21⟩ := D21
  have b21 := D21.fn.binds (ps := ["heads", "parts"]) fun _ _ _ _ _ _ us hl => match us, hl with | [_, _], _ => rfl
  obtain ⟨f22, fd22, D22⟩ := D22
  have b22 := D22.fn.binds (ps := ["steps"]) fun _ _ _ _ _ _ us hl => match us, hl with | [_], _ => rfl
  obtain ⟨f23, fd23, D23⟩ := D23
  have b23 := D23.fn.binds (ps := ["statement"]) fun _ _ _ _ _ _ us hl => match us, hl with | [_], _ => rfl
  obtain ⟨f24, fd24, D24⟩ := D24
  have b24 := D24.fn.binds (ps := ["body"]) fun _ _ _ _ _ _ us hl => match us, hl with | [_], _ => rfl
  obtain ⟨f25, fd25, D25⟩ := D25
  have b25 := D25.fn.binds (ps := ["rows"]) fun _ _ _ _ _ _ us hl => match us, hl with | [_], _ => rfl
  obtain ⟨f26, fd26, D26⟩ := D26
  have b26 := D26.fn.binds (ps := ["lines"]) fun _ _ _ _ _ _ us hl => match us, hl with | [_], _ => rfl
  obtain ⟨f27, fd27, D27⟩ := D27
  have b27 := D27.fn.binds (ps := ["_law_stream", "_law_many"]) fun _ _ _ _ _ _ us hl => match us, hl with | [_, _], _ => rfl
  obtain ⟨f28, fd28, D28⟩ := D28
  have b28 := D28.fn.binds (ps := []) fun _ _ _ _ _ _ us hl => match us, hl with | [], _ => rfl
  obtain ⟨f29, fd29, D29⟩ := D29
  have b29 := D29.fn.binds (ps := ["_law_word"]) fun _ _ _ _ _ _ us hl => match us, hl with | [_], _ => rfl
  obtain ⟨f30, fd30, D30⟩ := D30
  have b30 := D30.fn.binds (ps := ["_law_text"]) fun _ _ _ _ _ _ us hl => match us, hl with | [_], _ => rfl
  obtain ⟨f31, fd31, D31⟩ := D31
  have b31 := D31.fn.binds (ps := []) fun _ _ _ _ _ _ us hl => match us, hl with | [], _ => rfl
  obtain ⟨f32, fd32, D32⟩ := D32
  have b32 := D32.fn.binds (ps := ["_law_start", "_law_some", "_law_length"]) fun _ _ _ _ _ _ us hl => match us, hl with | [_, _, _], _ => rfl
  obtain ⟨f33, fd33, D33⟩ := D33
  have b33 := D33.fn.binds (ps := ["_law_line"]) fun _ _ _ _ _ _ us hl => match us, hl with | [_], _ => rfl
  obtain ⟨f34, fd34, D34⟩ := D34
  have b34 := D34.fn.binds (ps := ["_law_forms"]) fun _ _ _ _ _ _ us hl => match us, hl with | [_], _ => rfl
  obtain ⟨f35, fd35, D35⟩ := D35
  have b35 := D35.fn.binds (ps := ["_law_forms"]) fun _ _ _ _ _ _ us hl => match us, hl with | [_], _ => rfl
  obtain ⟨f36, fd36, D36⟩ := D36
  have b36 := D36.fn.binds (ps := ["_law_lines"]) fun _ _ _ _ _ _ us hl => match us, hl with | [_], _ => rfl
  obtain ⟨f37, fd37, D37⟩ := D37
  have b37 := D37.fn.binds (ps := ["_law_lines"]) fun _ _ _ _ _ _ us hl => match us, hl with | [_], _ => rfl
  obtain ⟨f38, fd38, D38⟩ := D38
  obtain ⟨g0, gd0, M0⟩ := M0
  have c0 := M0.fn.binds (ps := ["self", "of_condition"]) fun _ _ _ _ _ _ us hl => match us, hl with | [_, _], _ => rfl
  obtain ⟨g1, gd1, M1⟩ := M1
  have c1 := M1.fn.binds (ps := ["self", "sign"]) fun _ _ _ _ _ _ us hl => match us, hl with | [_, _], _ => rfl
  obtain ⟨g2, gd2, M2⟩ := M2
  have c2 := M2.fn.binds (ps := ["self", "sign"]) fun _ _ _ _ _ _ us hl => match us, hl with | [_, _], _ => rfl
  obtain ⟨g3, gd3, M3⟩ := M3
  have c3 := M3.fn.binds (ps := ["self", "sign"]) fun _ _ _ _ _ _ us hl => match us, hl with | [_, _], _ => rfl
  obtain ⟨g4, gd4, M4⟩ := M4
  have c4 := M4.fn.binds (ps := ["self", "sign", "worth"]) fun _ _ _ _ _ _ us hl => match us, hl with | [_, _, _], _ => rfl
  obtain ⟨g5, gd5, M5⟩ := M5
  have c5 := M5.fn.binds (ps := ["self", "sign", "worth"]) fun _ _ _ _ _ _ us hl => match us, hl with | [_, _, _], _ => rfl
  obtain ⟨g6, gd6, M6⟩ := M6
  have c6 := M6.fn.binds (ps := ["self", "sign"]) fun _ _ _ _ _ _ us hl => match us, hl with | [_, _], _ => rfl
  obtain ⟨g7, gd7, M7⟩ := M7
  have c7 := M7.fn.binds (ps := ["self", "sign"]) fun _ _ _ _ _ _ us hl => match us, hl with | [_, _], _ => rfl
  obtain ⟨g8, gd8, M8⟩ := M8
  have c8 := M8.fn.binds (ps := ["self", "binding"]) fun _ _ _ _ _ _ us hl => match us, hl with | [_, _], _ => rfl
  obtain ⟨g9, gd9, M9⟩ := M9
  have c9 := M9.fn.binds (ps := ["self", "operator"]) fun _ _ _ _ _ _ us hl => match us, hl with | [_, _], _ => rfl
  obtain ⟨gQ0, gdQ0, MQ0⟩ := MQ0
  have cQ0 := MQ0.fn.binds (ps := ["self", "rows"]) fun _ _ _ _ _ _ us hl => match us, hl with | [_, _], _ => rfl
  have TG : TxtG K CQ := ⟨⟨pgQ, hdQ, poQ, saQ⟩, nQ0, nQ1⟩
  obtain ⟨u0, U0, V0⟩ := U0
  obtain ⟨u1, U1, V1⟩ := U1
  obtain ⟨u2, U2, V2⟩ := U2
  obtain ⟨u3, U3, V3⟩ := U3
  obtain ⟨u4, U4, V4⟩ := U4
  obtain ⟨u5, U5, V5⟩ := U5
  obtain ⟨CBadText, fIBadText, caBadText, ccBadText, fdBadText, E0⟩ := E0
  obtain ⟨CBadProgram, fIBadProgram, caBadProgram, ccBadProgram, fdBadProgram, E1⟩ := E1
  have hR : ClsAt K "RerunError" R veT := ⟨NR, bsR, snR, subR, abR, colR, ddR, r0, r1, r2, r3, r5, xR⟩
  have e := hfa.symm.trans (PySem.W.mg_of X G D38.at_)
  cases e
  have T : TxtX K mg := ⟨⟨_, PySem.W.mg_of X G cL⟩, ⟨_, PySem.W.mg_of X G cD⟩, ⟨_, PySem.W.mg_of X G cN⟩, ⟨_, PySem.W.mg_of X G cM⟩, ⟨u0, PySem.W.mg_of X G U0, V0⟩, ⟨u1, PySem.W.mg_of X G U1, V1⟩, ⟨u2, PySem.W.mg_of X G U2, V2⟩, PySem.W.mg_none_of X G z0, PySem.W.mg_none_of X G z1, PySem.W.mg_none_of X G z2, PySem.W.mg_none_of X G z3, PySem.W.mg_none_of X G z4⟩
  have bn : ∀ z ∈ opsL, KGet K w aB z ((bindO z).map V.int) := ops_all ⟨es, nes, _, lB, kB, wB, B0, ⟨_, rfl⟩⟩ ⟨es, nes, _, lB, kB, wB, B1, ⟨_, rfl⟩⟩ ⟨es, nes, _, lB, kB, wB, B2, ⟨_, rfl⟩⟩ ⟨es, nes, _, lB, kB, wB, B3, ⟨_, rfl⟩⟩ ⟨es, nes, _, lB, kB, wB, B4, ⟨_, rfl⟩⟩ ⟨es, nes, _, lB, kB, wB, B5, ⟨_, rfl⟩⟩ ⟨es, nes, _, lB, kB, wB, B6, ⟨_, rfl⟩⟩ ⟨es, nes, _, lB, kB, wB, B7, ⟨_, rfl⟩⟩ ⟨es, nes, _, lB, kB, wB, B8, ⟨_, rfl⟩⟩ ⟨es, nes, _, lB, kB, wB, B9, ⟨_, rfl⟩⟩ ⟨es, nes, _, lB, kB, wB, B10, ⟨_, rfl⟩⟩ ⟨es, nes, _, lB, kB, wB, B11, ⟨_, rfl⟩⟩ ⟨es, nes, _, lB, kB, wB, B12, ⟨_, rfl⟩⟩ ⟨es, nes, _, lB, kB, wB, B13, ⟨_, rfl⟩⟩ ⟨es, nes, _, lB, kB, wB, B14, ⟨_, rfl⟩⟩ ⟨es, nes, _, lB, kB, wB, B15, trivial⟩ ⟨es, nes, _, lB, kB, wB, B16, trivial⟩
  have TR : TxtR K w mg C := ⟨⟨pg, hd, po, sa⟩, n0, n1, n2, n3, n4, n5, ⟨u3, PySem.W.mg_of X G U3, V3⟩, ⟨u4, PySem.W.mg_of X G U4, V4⟩, ⟨u5, PySem.W.mg_of X G U5, V5⟩, ⟨aB, PySem.W.mg_of X G aB0, ⟨es, nes, lB, kB⟩, bn⟩⟩
  have TL : TxtL mg := ⟨PySem.W.mg_none_of X G z5, PySem.W.mg_none_of X G z6, PySem.W.mg_none_of X G z7, PySem.W.mg_none_of X G z8⟩
  have TBi : TxtB mg := ⟨PySem.W.mg_none_of X G z0, PySem.W.mg_none_of X G z9, PySem.W.mg_none_of X G z8, PySem.W.mg_none_of X G z1⟩
  refine ⟨fd38, ?_, fun base _ _ => ?_⟩
  · obtain ⟨oc, od, kV, doc, pm, an, cdv, ct, osl, rfl, _, _⟩ := D38.fn.ex
    exact fun s v => .of_eq rfl
  have CFZ : Cal l.prog w K mg base 1 "frozen" f8 fd8 ["thing"] (spFrozen K) := ⟨ok_frozen D8.fn TBi, PySem.W.mg_of X G D8.at_, D8.fn.kp, b8⟩
  have okBadText_ := okBadText (P := l.prog) (w := w) (base := base) E0.fn (E0.supC sp opq ht) CFZ E0.no
  have TRBadText : RaiT l.prog w K mg base "BadText" CBadText ["position"] := E0.raiT X G okBadText_ (biBadText E0.fn)
  have TEBadText : ErrT l.prog w K mg base "BadText" CBadText ["position"] := E0.errT X G okBadText_ (bpBadText E0.fn) (bkBadText E0.fn)
  have okBadProgram_ := okBadProgram (P := l.prog) (w := w) (base := base) E1.fn (E1.supC sp opq ht) CFZ E1.no
  have TRBadProgram : RaiT l.prog w K mg base "BadProgram" CBadProgram ["line", "reason"] := E1.raiT X G okBadProgram_ (biBadProgram E1.fn)
  have TEBadProgram : ErrT l.prog w K mg base "BadProgram" CBadProgram ["line", "reason"] := E1.errT X G okBadProgram_ (bpBadProgram E1.fn) (bkBadProgram E1.fn)
  have CIN : Cal l.prog w K mg base 1 "is_name" f0 fd0 ["thing"] (spTest isName) := ⟨ok_isName D0.fn T, PySem.W.mg_of X G D0.at_, D0.fn.kp, b0⟩
  have CIM : Cal l.prog w K mg base 1 "is_number" f1 fd1 ["text"] (spTest isNum) := ⟨ok_isNumber D1.fn T, PySem.W.mg_of X G D1.at_, D1.fn.kp, b1⟩
  have CRO : Cal l.prog w K mg base 1 "run_of" f2 fd2 ["characters", "text", "at"] spRun := ⟨ok_runOf D2.fn T, PySem.W.mg_of X G D2.at_, D2.fn.kp, b2⟩
  have CWT : Cal l.prog w K mg base 2 "word_token" f3 fd3 ["word"] (spTok wordTok) := ⟨ok_wordTok D3.fn T CIN, PySem.W.mg_of X G D3.at_, D3.fn.kp, b3⟩
  have CNT : Cal l.prog w K mg base 2 "number_token" f4 fd4 ["digits"] (spTok numTok) := ⟨ok_numTok D4.fn T CIM, PySem.W.mg_of X G D4.at_, D4.fn.kp, b4⟩
  have CTA : Cal l.prog w K mg base 3 "token_at" f5 fd5 ["text", "at"] spTokenAt := ⟨ok_tokenAt D5.fn T CRO CWT CNT, PySem.W.mg_of X G D5.at_, D5.fn.kp, b5⟩
  have CTK : Cal l.prog w K mg base 4 "tokens" f6 fd6 ["text"] spTokens := ⟨ok_tokens D6.fn T CTA, PySem.W.mg_of X G D6.at_, D6.fn.kp, b6⟩
  have MJ : MCal l.prog w K mg base C 1 "join_operands" g9 gd9 ["self", "operator"] (spJoin K C) := ⟨ok_join M9.fn TR, M9.me, c9⟩
  have MD : MCal l.prog w K mg base C 2 "join_down_to" g8 gd8 ["self", "binding"] (spDown K C) := ⟨ok_down M8.fn TR MJ, M8.me, c8⟩
  have MB : MCal l.prog w K mg base C 1 "may_begin" g2 gd2 ["self", "sign"] (spAsk K C RS.mayBegin) := ⟨ok_mayBegin M2.fn TR, M2.me, c2⟩
  have MF : MCal l.prog w K mg base C 1 "may_follow" g3 gd3 ["self", "sign"] (spAsk K C RS.mayFollow) := ⟨ok_mayFollow M3.fn TR, M3.me, c3⟩
  have MI : MCal l.prog w K mg base C 2 "fits" g1 gd1 ["self", "sign"] (spAsk K C RS.fits) := ⟨ok_fits M1.fn TR MB MF, M1.me, c1⟩
  have MG : MCal l.prog w K mg base C 1 "begin" g5 gd5 ["self", "sign", "worth"] (spBegin K C) := ⟨ok_begin M5.fn TR, M5.me, c5⟩
  have MC : MCal l.prog w K mg base C 3 "close" g6 gd6 ["self", "sign"] (spClose K C) := ⟨ok_close M6.fn TR MD, M6.me, c6⟩
  have MP : MCal l.prog w K mg base C 3 "put_between" g7 gd7 ["self", "sign"] (spMid K C) := ⟨ok_mid M7.fn TR MD, M7.me, c7⟩
  have MT : MCal l.prog w K mg base C 4 "take_in" g4 gd4 ["self", "sign", "worth"] (spTake K C) := ⟨ok_takeIn M4.fn TR MG MC MD MP, M4.me, c4⟩
  have CPD : CalX l.prog w K mg base 5 "parsed" f7 fd7 ["text", "reader"] (spParsedX K C CBadText) := ⟨ok_parsedX D7.fn TR TRBadText CTK MI MT, PySem.W.mg_of X G D7.at_, D7.fn.kp, b7⟩
  have CPE : CalX l.prog w K mg base 6 "parse_expression" f9 fd9 ["text"] (spParseX K CBadText false) := ⟨ok_parseEX D9.fn ⟨mk, M0.me.at_, M0.me.fn, kc⟩ (PySem.W.mg_of X G aC) (ok_rinit M0.fn TR) c0 CPD, PySem.W.mg_of X G D9.at_, D9.fn.kp, b9⟩
  have CPC : CalX l.prog w K mg base 6 "parse_condition" f10 fd10 ["text"] (spParseX K CBadText true) := ⟨ok_parseCX D10.fn ⟨mk, M0.me.at_, M0.me.fn, kc⟩ (PySem.W.mg_of X G aC) (ok_rinit M0.fn TR) c0 CPD, PySem.W.mg_of X G D10.at_, D10.fn.kp, b10⟩
  have TW : TxtW K w mg := ⟨⟨aB, PySem.W.mg_of X G aB0, bw_all (kget_dct ⟨es, nes, _, lB, kB, wB, B0, ⟨_, rfl⟩⟩) (kget_dct ⟨es, nes, _, lB, kB, wB, B1, ⟨_, rfl⟩⟩) (kget_dct ⟨es, nes, _, lB, kB, wB, B2, ⟨_, rfl⟩⟩) (kget_dct ⟨es, nes, _, lB, kB, wB, B3, ⟨_, rfl⟩⟩) (kget_dct ⟨es, nes, _, lB, kB, wB, B4, ⟨_, rfl⟩⟩) (kget_dct ⟨es, nes, _, lB, kB, wB, B5, ⟨_, rfl⟩⟩) (kget_dct ⟨es, nes, _, lB, kB, wB, B6, ⟨_, rfl⟩⟩) (kget_dct ⟨es, nes, _, lB, kB, wB, B7, ⟨_, rfl⟩⟩) (kget_dct ⟨es, nes, _, lB, kB, wB, B8, ⟨_, rfl⟩⟩) (kget_dct ⟨es, nes, _, lB, kB, wB, B9, ⟨_, rfl⟩⟩) (kget_dct ⟨es, nes, _, lB, kB, wB, B10, ⟨_, rfl⟩⟩) (kget_dct ⟨es, nes, _, lB, kB, wB, B11, ⟨_, rfl⟩⟩) (kget_dct ⟨es, nes, _, lB, kB, wB, B12, ⟨_, rfl⟩⟩) (kget_dct ⟨es, nes, _, lB, kB, wB, B13, ⟨_, rfl⟩⟩) (kget_dct ⟨es, nes, _, lB, kB, wB, B14, ⟨_, rfl⟩⟩) (kget_dct ⟨es, nes, _, lB, kB, wB, B17, ⟨_, rfl⟩⟩) (kget_dct ⟨es, nes, _, lB, kB, wB, B18, ⟨_, rfl⟩⟩)⟩, ⟨_, PySem.W.mg_of X G I0⟩⟩
  have CEN : Cal l.prog w K mg base 1 "enclosed" f11 fd11 ["node", "least"] (spEncl K) := ⟨ok_encl D11.fn TW, PySem.W.mg_of X G D11.at_, D11.fn.kp, b11⟩
  have CPO : Cal l.prog w K mg base 2 "parts_of" f12 fd12 ["node"] (spParts K) := ⟨ok_parts D12.fn TW (PySem.W.mg_none_of X G z4) CEN, PySem.W.mg_of X G D12.at_, D12.fn.kp, b12⟩
  have CWR : Cal l.prog w K mg base 3 "written" f13 fd13 ["node"] (spWritten K) := ⟨ok_written D13.fn (PySem.W.mg_none_of X G z1) (PySem.W.mg_none_of X G z4) CPO, PySem.W.mg_of X G D13.at_, D13.fn.kp, b13⟩
  have CRN : Cal l.prog w K mg base 7 "read_named_expression" f15 fd15 ["word", "rest"] (spReadNamed K) := ⟨ok_readNamed D15.fn TRBadText CIN CPE, PySem.W.mg_of X G D15.at_, D15.fn.kp, b15⟩
  have CRH : Cal l.prog w K mg base 7 "read_block_head" f16 fd16 ["word", "rest"] (spReadHead K) := ⟨ok_readHead D16.fn TRBadText CPC, PySem.W.mg_of X G D16.at_, D16.fn.kp, b16⟩
  have CRL : Cal l.prog w K mg base 8 "read_line" f14 fd14 ["text"] (spReadLine K) := ⟨ok_readLine D14.fn CIN CRN CRH, PySem.W.mg_of X G D14.at_, D14.fn.kp, b14⟩
  have CRS2 : CalX l.prog w K mg base 9 "read_lines" f17 fd17 ["texts"] (spReadLines K CBadProgram) := ⟨ok_readLines D17.fn (PySem.W.mg_none_of X G z10) TRBadProgram CRL, PySem.W.mg_of X G D17.at_, D17.fn.kp, b17⟩
  have CBF : Cal l.prog w K mg base 1 "block_fits" f18 fd18 ["word", "blocks"] (spFitsB K) := ⟨ok_blockFits D18.fn (PySem.W.mg_none_of X G z0) (PySem.W.mg_of X G I1), PySem.W.mg_of X G D18.at_, D18.fn.kp, b18⟩
  have CCK : CalX l.prog w K mg base 4 "check_blocks" f19 fd19 ["steps"] (spCheckB K CBadProgram) := ⟨ok_checkBlocks D19.fn (PySem.W.mg_none_of X G z10) (PySem.W.mg_none_of X G z0) TRBadProgram CBF, PySem.W.mg_of X G D19.at_, D19.fn.kp, b19⟩
  have CCN : CalX l.prog w K mg base 4 "check_names" f20 fd20 ["steps"] (spCheckN K CBadProgram) := ⟨ok_checkNames D20.fn (PySem.W.mg_none_of X G z10) (PySem.W.mg_of X G I2) TRBadProgram, PySem.W.mg_of X G D20.at_, D20.fn.kp, b20⟩
  have CCB2 : Cal l.prog w K mg base 1 "close_block" f21 fd21 ["heads", "parts"] (spCloseB K) := ⟨ok_closeBlock D21.fn (PySem.W.mg_none_of X G z9), PySem.W.mg_of X G D21.at_, D21.fn.kp, b21⟩
  have CBR : Cal l.prog w K mg base 2 "built_rows" f22 fd22 ["steps"] (spBuilt K) := ⟨ok_builtRows D22.fn (PySem.W.mg_none_of X G z9) CCB2, PySem.W.mg_of X G D22.at_, D22.fn.kp, b22⟩
  have CBL := ok_body (P := l.prog) (w := w) (base := base) D24.fn D23.fn (PySem.W.mg_of X G D24.at_) b24 (PySem.W.mg_of X G D23.at_) b23 CWR 20
  have CCL2 : Cal l.prog w K mg base 46 "canonical_lines" f25 fd25 ["rows"] (spCanonL K) := ⟨ok_canonL D25.fn CBL, PySem.W.mg_of X G D25.at_, D25.fn.kp, b25⟩
  have GPI := ok_pinit (P := l.prog) (w := w) (mg := mg) (base := base) MQ0.fn TG (PySem.W.mg_none_of X G z9) CCL2
  have CPP : CalX l.prog w K mg base 49 "parse_program" f26 fd26 ["lines"] (spParsePg K CQ CBadProgram) := ⟨ok_parsePg D26.fn (PySem.W.mg_none_of X G z8) (PySem.W.mg_none_of X G z0) (PySem.W.mg_of X G I3) TRBadProgram CRS2 CCK CCN CBR ⟨mkQ, MQ0.me.at_, MQ0.me.fn, kcQ⟩ (PySem.W.mg_of X G aQ) GPI cQ0, PySem.W.mg_of X G D26.at_, D26.fn.kp, b26⟩
  have CD : Cal l.prog w K mg base 1 "_law_draw" f27 fd27 ["_law_stream", "_law_many"] spDraw := ⟨ok_draw D27.fn, PySem.W.mg_of X G D27.at_, D27.fn.kp, b27⟩
  have CRS : Cal l.prog w K mg base 1 "_law_reserved" f28 fd28 [] spRes := ⟨ok_res D28.fn, PySem.W.mg_of X G D28.at_, D28.fn.kp, b28⟩
  have CK : Cal l.prog w K mg base 2 "_law_key" f29 fd29 ["_law_word"] spKey := ⟨ok_lawKey D29.fn T CRS, PySem.W.mg_of X G D29.at_, D29.fn.kp, b29⟩
  have CSC : Cal l.prog w K mg base 3 "_law_scan" f30 fd30 ["_law_text"] spScan := ⟨ok_scan D30.fn T CK, PySem.W.mg_of X G D30.at_, D30.fn.kp, b30⟩
  have CG : Cal l.prog w K mg base 1 "_law_grammar" f31 fd31 [] spGram := ⟨ok_gram D31.fn, PySem.W.mg_of X G D31.at_, D31.fn.kp, b31⟩
  have CST : Cal l.prog w K mg base 2 "_law_stop" f32 fd32 ["_law_start", "_law_some", "_law_length"] spStop := ⟨ok_stop D32.fn CG, PySem.W.mg_of X G D32.at_, D32.fn.kp, b32⟩
  have CLF : Cal l.prog w K mg base 4 "_law_line_form" f33 fd33 ["_law_line"] spLineForm := ⟨ok_lineForm D33.fn T CK CST CSC, PySem.W.mg_of X G D33.at_, D33.fn.kp, b33⟩
  have CBD : Cal l.prog w K mg base 1 "_law_block_due" f34 fd34 ["_law_forms"] spBlockDue := ⟨ok_blockDue D34.fn (PySem.W.mg_none_of X G z0) (PySem.W.mg_none_of X G z5), PySem.W.mg_of X G D34.at_, D34.fn.kp, b34⟩
  have CND : Cal l.prog w K mg base 1 "_law_name_due" f35 fd35 ["_law_forms"] spNameDue := ⟨ok_nameDue D35.fn (PySem.W.mg_none_of X G z0) (PySem.W.mg_none_of X G z5) (PySem.W.mg_none_of X G z3), PySem.W.mg_of X G D35.at_, D35.fn.kp, b35⟩
  have CPDU : Cal l.prog w K mg base 5 "_law_program_due" f36 fd36 ["_law_lines"] (spProgDue K) := ⟨ok_progDue D36.fn (PySem.W.mg_none_of X G z0) CLF CBD CND, PySem.W.mg_of X G D36.at_, D36.fn.kp, b36⟩
  have CFP : Cal l.prog w K mg base 50 "_law_found" f37 fd37 ["_law_lines"] (spFoundP K) := ⟨ok_foundP D37.fn TRBadProgram CPP, PySem.W.mg_of X G D37.at_, D37.fn.kp, b37⟩
  exact ok_law D38.fn T TL (PySem.W.mg_none_of X G z6) CD CFP CPDU
theorem walk {l : PySem.W.OpenLaw} {q : Program} {loose : List Str} {XP : (Str → Option Value) → Heap → Prop} {YP : World → Heap → Prop} {d : DefRec} {K : Params → PySem.W.Frag} (hn : l.most = some 63) (hdf : d.params.defaults = []) (hY : ∀ (w : World) (h : Heap), YP w h → (K w.params).In h)
    (F : ∀ (w : World) (mg : Str → Option Value) (fa : Addr) (h : Heap), (K w.params).In h → h.Ns mainGlobals mg → mg d.name = some (.ref fa) →
      ∃ fd : FuncData, (∀ (s : Shared) (u : Value), BindsTo s fd ⟨[u], []⟩ [("_law_script", u)]) ∧ ∀ base : Heap, (K w.params).In base → base.Ns mainGlobals mg → FnG l.prog w (K w.params) mg base 51 fa fd ["_law_script"] (spLaw (K w.params))) :
    PySem.W.WalkO q loose XP YP l.row.toRowW d [] (fun f vs => PySem.call f vs) :=
  walk_ofG (n := 63) (k := 51) (x := "_law_script") (sp := spLaw) hn (by decide) hdf ⟨rfl, by decide, by decide⟩ hY F (fun K H a ns _ _ hS => ⟨a, ns, rfl, hS, fun _ => rfl⟩)
end XE

set_option Elab.async false
open PySem PySem.W PyProof.Rows
set_option maxRecDepth 100000 in
set_option maxHeartbeats 0 in
theorem PySem.Challenge.cw_rerunrein_k13_blocks_that_do_not_fit_holds : PySem.Challenge.rw_rerunrein_k13_blocks_that_do_not_fit.Holds := by
  w_on; o_law; k_head; (case hw => w_witness2)
  k_fill
  refine XE.walk (l := PySem.Challenge.rw_rerunrein_k13_blocks_that_do_not_fit) rfl rfl (fun w h Y => PySem.W.kIn_of Y) ?F
  case F =>
    intro w mg fa h KX G hmg
    refine' XE.all_mk KX G hmg ?aC ?pg ?hd ?po ?sa ?mk ?kc ?n0 ?n1 ?n2 ?n3 ?n4 ?n5 ?D0 ?D1 ?D2 ?D3 ?D4 ?D5 ?D6 ?D7 ?D8 ?D9 ?D10 ?D11 ?D12 ?D13 ?D14 ?D15 ?D16 ?D17 ?D18 ?D19 ?D20 ?D21 ?D22 ?D23 ?D24 ?D25 ?D26 ?D27 ?D28 ?D29 ?D30 ?D31 ?D32 ?D33 ?D34 ?D35 ?D36 ?D37 ?D38 ?M0 ?M1 ?M2 ?M3 ?M4 ?M5 ?M6 ?M7 ?M8 ?M9 ?aQ ?pgQ ?hdQ ?poQ ?saQ ?mkQ ?kcQ ?nQ0 ?nQ1 ?MQ0 ?U0 ?U1 ?U2 ?U3 ?U4 ?U5 ?cL ?cD ?cN ?cM ?aB0 ?lB ?kB ?wB ?B0 ?B1 ?B2 ?B3 ?B4 ?B5 ?B6 ?B7 ?B8 ?B9 ?B10 ?B11 ?B12 ?B13 ?B14 ?B15 ?B16 ?B17 ?B18 ?I0 ?I1 ?I2 ?I3 ?z0 ?z1 ?z2 ?z3 ?z4 ?z5 ?z6 ?z7 ?z8 ?z9 ?z10 ?aR ?xR ?sp ?opq ?ht ?hn ?htk ?E0 ?E1
    (case aC => k_is)
    (case pg => k_is)
    (case hd => k_is)
    (case po => k_is)
    (case sa => k_is)
    (case mk => k_is)
    (case kc => k_is)
    (case n0 => k_is)
    (case n1 => k_is)
    (case n2 => k_is)
    (case n3 => k_is)
    (case n4 => k_is)
    (case n5 => k_is)
    (case D0 =>
      refine' XE.def_mk ?a ?l ?c ?k
      (case a => k_is)
      (case l => k_is)
      (case c => k_is)
      (case k => k_is))
    (case D1 =>
      refine' XE.def_mk ?a ?l ?c ?k
      (case a => k_is)
      (case l => k_is)
      (case c => k_is)
      (case k => k_is))
    (case D2 =>
      refine' XE.def_mk ?a ?l ?c ?k
      (case a => k_is)
      (case l => k_is)
      (case c => k_is)
      (case k => k_is))
    (case D3 =>
      refine' XE.def_mk ?a ?l ?c ?k
      (case a => k_is)
      (case l => k_is)
      (case c => k_is)
      (case k => k_is))
    (case D4 =>
      refine' XE.def_mk ?a ?l ?c ?k
      (case a => k_is)
      (case l => k_is)
      (case c => k_is)
      (case k => k_is))
    (case D5 =>
      refine' XE.def_mk ?a ?l ?c ?k
      (case a => k_is)
      (case l => k_is)
      (case c => k_is)
      (case k => k_is))
    (case D6 =>
      refine' XE.def_mk ?a ?l ?c ?k
      (case a => k_is)
      (case l => k_is)
      (case c => k_is)
      (case k => k_is))
    (case D7 =>
      refine' XE.def_mk ?a ?l ?c ?k
      (case a => k_is)
      (case l => k_is)
      (case c => k_is)
      (case k => k_is))
    (case D8 =>
      refine' XE.def_mk ?a ?l ?c ?k
      (case a => k_is)
      (case l => k_is)
      (case c => k_is)
      (case k => k_is))
    (case D9 =>
      refine' XE.def_mk ?a ?l ?c ?k
      (case a => k_is)
      (case l => k_is)
      (case c => k_is)
      (case k => k_is))
    (case D10 =>
      refine' XE.def_mk ?a ?l ?c ?k
      (case a => k_is)
      (case l => k_is)
      (case c => k_is)
      (case k => k_is))
    (case D11 =>
      refine' XE.def_mk ?a ?l ?c ?k
      (case a => k_is)
      (case l => k_is)
      (case c => k_is)
      (case k => k_is))
    (case D12 =>
      refine' XE.def_mk ?a ?l ?c ?k
      (case a => k_is)
      (case l => k_is)
      (case c => k_is)
      (case k => k_is))
    (case D13 =>
      refine' XE.def_mk ?a ?l ?c ?k
      (case a => k_is)
      (case l => k_is)
      (case c => k_is)
      (case k => k_is))
    (case D14 =>
      refine' XE.def_mk ?a ?l ?c ?k
      (case a => k_is)
      (case l => k_is)
      (case c => k_is)
      (case k => k_is))
    (case D15 =>
      refine' XE.def_mk ?a ?l ?c ?k
      (case a => k_is)
      (case l => k_is)
      (case c => k_is)
      (case k => k_is))
    (case D16 =>
      refine' XE.def_mk ?a ?l ?c ?k
      (case a => k_is)
      (case l => k_is)
      (case c => k_is)
      (case k => k_is))
    (case D17 =>
      refine' XE.def_mk ?a ?l ?c ?k
      (case a => k_is)
      (case l => k_is)
      (case c => k_is)
      (case k => k_is))
    (case D18 =>
      refine' XE.def_mk ?a ?l ?c ?k
      (case a => k_is)
      (case l => k_is)
      (case c => k_is)
      (case k => k_is))
    (case D19 =>
      refine' XE.def_mk ?a ?l ?c ?k
      (case a => k_is)
      (case l => k_is)
      (case c => k_is)
      (case k => k_is))
    (case D20 =>
      refine' XE.def_mk ?a ?l ?c ?k
      (case a => k_is)
      (case l => k_is)
      (case c => k_is)
      (case k => k_is))
    (case D21 =>
      refine' XE.def_mk ?a ?l ?c ?k
      (case a => k_is)
      (case l => k_is)
      (case c => k_is)
      (case k => k_is))
    (case D22 =>
      refine' XE.def_mk ?a ?l ?c ?k
      (case a => k_is)
      (case l => k_is)
      (case c => k_is)
      (case k => k_is))
    (case D23 =>
      refine' XE.def_mk ?a ?l ?c ?k
      (case a => k_is)
      (case l => k_is)
      (case c => k_is)
      (case k => k_is))
    (case D24 =>
      refine' XE.def_mk ?a ?l ?c ?k
      (case a => k_is)
      (case l => k_is)
      (case c => k_is)
      (case k => k_is))
    (case D25 =>
      refine' XE.def_mk ?a ?l ?c ?k
      (case a => k_is)
      (case l => k_is)
      (case c => k_is)
      (case k => k_is))
    (case D26 =>
      refine' XE.def_mk ?a ?l ?c ?k
      (case a => k_is)
      (case l => k_is)
      (case c => k_is)
      (case k => k_is))
    (case D27 =>
      refine' XE.def_mk ?a ?l ?c ?k
      (case a => k_is)
      (case l => k_is)
      (case c => k_is)
      (case k => k_is))
    (case D28 =>
      refine' XE.def_mk ?a ?l ?c ?k
      (case a => k_is)
      (case l => k_is)
      (case c => k_is)
      (case k => k_is))
    (case D29 =>
      refine' XE.def_mk ?a ?l ?c ?k
      (case a => k_is)
      (case l => k_is)
      (case c => k_is)
      (case k => k_is))
    (case D30 =>
      refine' XE.def_mk ?a ?l ?c ?k
      (case a => k_is)
      (case l => k_is)
      (case c => k_is)
      (case k => k_is))
    (case D31 =>
      refine' XE.def_mk ?a ?l ?c ?k
      (case a => k_is)
      (case l => k_is)
      (case c => k_is)
      (case k => k_is))
    (case D32 =>
      refine' XE.def_mk ?a ?l ?c ?k
      (case a => k_is)
      (case l => k_is)
      (case c => k_is)
      (case k => k_is))
    (case D33 =>
      refine' XE.def_mk ?a ?l ?c ?k
      (case a => k_is)
      (case l => k_is)
      (case c => k_is)
      (case k => k_is))
    (case D34 =>
      refine' XE.def_mk ?a ?l ?c ?k
      (case a => k_is)
      (case l => k_is)
      (case c => k_is)
      (case k => k_is))
    (case D35 =>
      refine' XE.def_mk ?a ?l ?c ?k
      (case a => k_is)
      (case l => k_is)
      (case c => k_is)
      (case k => k_is))
    (case D36 =>
      refine' XE.def_mk ?a ?l ?c ?k
      (case a => k_is)
      (case l => k_is)
      (case c => k_is)
      (case k => k_is))
    (case D37 =>
      refine' XE.def_mk ?a ?l ?c ?k
      (case a => k_is)
      (case l => k_is)
      (case c => k_is)
      (case k => k_is))
    (case D38 =>
      refine' XE.def_mk ?a ?l ?c ?k
      (case a => k_is)
      (case l => k_is)
      (case c => k_is)
      (case k => k_is))
    (case M0 =>
      refine' XE.met_mk ?a ?i ?l ?c ?k
      (case a => k_is)
      (case i => k_is)
      (case l => k_is)
      (case c => k_is)
      (case k => k_is))
    (case M1 =>
      refine' XE.met_mk ?a ?i ?l ?c ?k
      (case a => k_is)
      (case i => k_is)
      (case l => k_is)
      (case c => k_is)
      (case k => k_is))
    (case M2 =>
      refine' XE.met_mk ?a ?i ?l ?c ?k
      (case a => k_is)
      (case i => k_is)
      (case l => k_is)
      (case c => k_is)
      (case k => k_is))
    (case M3 =>
      refine' XE.met_mk ?a ?i ?l ?c ?k
      (case a => k_is)
      (case i => k_is)
      (case l => k_is)
      (case c => k_is)
      (case k => k_is))
    (case M4 =>
      refine' XE.met_mk ?a ?i ?l ?c ?k
      (case a => k_is)
      (case i => k_is)
      (case l => k_is)
      (case c => k_is)
      (case k => k_is))
    (case M5 =>
      refine' XE.met_mk ?a ?i ?l ?c ?k
      (case a => k_is)
      (case i => k_is)
      (case l => k_is)
      (case c => k_is)
      (case k => k_is))
    (case M6 =>
      refine' XE.met_mk ?a ?i ?l ?c ?k
      (case a => k_is)
      (case i => k_is)
      (case l => k_is)
      (case c => k_is)
      (case k => k_is))
    (case M7 =>
      refine' XE.met_mk ?a ?i ?l ?c ?k
      (case a => k_is)
      (case i => k_is)
      (case l => k_is)
      (case c => k_is)
      (case k => k_is))
    (case M8 =>
      refine' XE.met_mk ?a ?i ?l ?c ?k
      (case a => k_is)
      (case i => k_is)
      (case l => k_is)
      (case c => k_is)
      (case k => k_is))
    (case M9 =>
      refine' XE.met_mk ?a ?i ?l ?c ?k
      (case a => k_is)
      (case i => k_is)
      (case l => k_is)
      (case c => k_is)
      (case k => k_is))
    (case aQ => k_is)
    (case pgQ => k_is)
    (case hdQ => k_is)
    (case poQ => k_is)
    (case saQ => k_is)
    (case mkQ => k_is)
    (case kcQ => k_is)
    (case nQ0 => k_is)
    (case nQ1 => k_is)
    (case MQ0 =>
      refine' XE.met_mk ?a ?i ?l ?c ?k
      (case a => k_is)
      (case i => k_is)
      (case l => k_is)
      (case c => k_is)
      (case k => k_is))
    (case U0 =>
      refine' XE.tup_mk ?h ?l ?z ?v
      (case h => k_is)
      (case l => k_is)
      (case z => show 15 ≤ _; decide)
      (case v => exact .cons ⟨_, rfl⟩ (.cons ⟨_, rfl⟩ (.cons ⟨_, rfl⟩ (.cons ⟨_, rfl⟩ (.cons ⟨_, rfl⟩ (.cons ⟨_, rfl⟩ (.cons ⟨_, rfl⟩ (.cons ⟨_, rfl⟩ (.cons ⟨_, rfl⟩ (.cons ⟨_, rfl⟩ (.cons ⟨_, rfl⟩ (.cons ⟨_, rfl⟩ (.cons ⟨_, rfl⟩ (.cons ⟨_, rfl⟩ (.cons ⟨_, rfl⟩ (.nil)))))))))))))))))
    (case U1 =>
      refine' XE.tup_mk ?h ?l ?z ?v
      (case h => k_is)
      (case l => k_is)
      (case z => show 4 ≤ _; decide)
      (case v => exact .cons ⟨_, rfl⟩ (.cons ⟨_, rfl⟩ (.cons ⟨_, rfl⟩ (.cons ⟨_, rfl⟩ (.nil))))))
    (case U2 =>
      refine' XE.tup_mk ?h ?l ?z ?v
      (case h => k_is)
      (case l => k_is)
      (case z => show 14 ≤ _; decide)
      (case v => exact .cons ⟨_, rfl⟩ (.cons ⟨_, rfl⟩ (.cons ⟨_, rfl⟩ (.cons ⟨_, rfl⟩ (.cons ⟨_, rfl⟩ (.cons ⟨_, rfl⟩ (.cons ⟨_, rfl⟩ (.cons ⟨_, rfl⟩ (.cons ⟨_, rfl⟩ (.cons ⟨_, rfl⟩ (.cons ⟨_, rfl⟩ (.cons ⟨_, rfl⟩ (.cons ⟨_, rfl⟩ (.cons ⟨_, rfl⟩ (.nil))))))))))))))))
    (case U3 =>
      refine' XE.tup_mk ?h ?l ?z ?v
      (case h => k_is)
      (case l => k_is)
      (case z => show 2 ≤ _; decide)
      (case v => exact .cons ⟨_, rfl⟩ (.cons ⟨_, rfl⟩ (.nil))))
    (case U4 =>
      refine' XE.tup_mk ?h ?l ?z ?v
      (case h => k_is)
      (case l => k_is)
      (case z => show 5 ≤ _; decide)
      (case v => exact .cons ⟨_, rfl⟩ (.cons ⟨_, rfl⟩ (.cons ⟨_, rfl⟩ (.cons ⟨_, rfl⟩ (.cons ⟨_, rfl⟩ (.nil)))))))
    (case U5 =>
      refine' XE.tup_mk ?h ?l ?z ?v
      (case h => k_is)
      (case l => k_is)
      (case z => show 6 ≤ _; decide)
      (case v => exact .cons ⟨_, rfl⟩ (.cons ⟨_, rfl⟩ (.cons ⟨_, rfl⟩ (.cons ⟨_, rfl⟩ (.cons ⟨_, rfl⟩ (.cons ⟨_, rfl⟩ (.nil))))))))
    (case cL => k_is)
    (case cD => k_is)
    (case cN => k_is)
    (case cM => k_is)
    (case aB0 => k_is)
    (case lB => k_is)
    (case kB => exact ⟨⟨_, _, rfl, rfl⟩, ⟨⟨_, _, rfl, rfl⟩, ⟨⟨_, _, rfl, rfl⟩, ⟨⟨_, _, rfl, rfl⟩, ⟨⟨_, _, rfl, rfl⟩, ⟨⟨_, _, rfl, rfl⟩, ⟨⟨_, _, rfl, rfl⟩, ⟨⟨_, _, rfl, rfl⟩, ⟨⟨_, _, rfl, rfl⟩, ⟨⟨_, _, rfl, rfl⟩, ⟨⟨_, _, rfl, rfl⟩, ⟨⟨_, _, rfl, rfl⟩, ⟨⟨_, _, rfl, rfl⟩, ⟨⟨_, _, rfl, rfl⟩, ⟨⟨_, _, rfl, rfl⟩, ⟨⟨_, _, rfl, rfl⟩, ⟨⟨_, _, rfl, rfl⟩, trivial⟩⟩⟩⟩⟩⟩⟩⟩⟩⟩⟩⟩⟩⟩⟩⟩⟩)
    (case wB => rfl)
    (case B0 => k_is)
    (case B1 => k_is)
    (case B2 => k_is)
    (case B3 => k_is)
    (case B4 => k_is)
    (case B5 => k_is)
    (case B6 => k_is)
    (case B7 => k_is)
    (case B8 => k_is)
    (case B9 => k_is)
    (case B10 => k_is)
    (case B11 => k_is)
    (case B12 => k_is)
    (case B13 => k_is)
    (case B14 => k_is)
    (case B15 => k_is)
    (case B16 => k_is)
    (case B17 => k_is)
    (case B18 => k_is)
    (case I0 => k_is)
    (case I1 => k_is)
    (case I2 => k_is)
    (case I3 => k_is)
    (case z0 => k_is)
    (case z1 => k_is)
    (case z2 => k_is)
    (case z3 => k_is)
    (case z4 => k_is)
    (case z5 => k_is)
    (case z6 => k_is)
    (case z7 => k_is)
    (case z8 => k_is)
    (case z9 => k_is)
    (case z10 => k_is)
    (case aR => k_is)
    (case xR => k_is)
    (case sp => k_is)
    (case opq => k_is)
    (case ht => rfl)
    (case hn => k_is)
    (case htk => k_is)
    (case E0 =>
      refine' ⟨_, _, _, _, _, Rx.cls_mk ?aC ?xL ?sa ?ga ?gg ?ac ?kC (Rx.no1 ?n0) ?ini ?lk ?cd ?tf ?lc ?hv ?hf ?ll ?sup⟩
      (case aC => k_is)
      (case xL => k_is)
      (case sa => k_is)
      (case ga => k_is)
      (case gg => k_is)
      (case ac => k_is)
      (case kC => k_is)
      (case n0 => k_is)
      (case ini => k_is)
      (case lk => k_is)
      (case cd => k_is)
      (case tf => k_is)
      (case lc => k_is)
      (case hv => rfl)
      (case hf => decide +kernel)
      (case ll => k_is)
      (case sup => ks_is))
    (case E1 =>
      refine' ⟨_, _, _, _, _, Rx.cls_mk ?aC ?xL ?sa ?ga ?gg ?ac ?kC (XE.no2 ?n0 ?n1) ?ini ?lk ?cd ?tf ?lc ?hv ?hf ?ll ?sup⟩
      (case aC => k_is)
      (case xL => k_is)
      (case sa => k_is)
      (case ga => k_is)
      (case gg => k_is)
      (case ac => k_is)
      (case kC => k_is)
      (case n0 => k_is)
      (case n1 => k_is)
      (case ini => k_is)
      (case lk => k_is)
      (case cd => k_is)
      (case tf => k_is)
      (case lc => k_is)
      (case hv => rfl)
      (case hf => decide +kernel)
      (case ll => k_is)
      (case sup => ks_is))
